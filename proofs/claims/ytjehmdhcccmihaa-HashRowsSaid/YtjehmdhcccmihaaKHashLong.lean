/-
  What the document's own Long, Same and Key answer, in any world.
-/
import Derived.Test.YtjehmdhcccmihaaKHashKnown
import Derived.Laws.IdiomStrings
import Derived.Deep.Draws
import Derived.Deep.QuietTactic
import Derived.BigQuiet
namespace Go.Proofs.Ytjehmdhcccmihaa
open Go.RowKit
namespace Hs

theorem long_take (ps : List ByteArray) (k : Nat) (h : k < ps.length) : long (bys (ps.take (k + 1))) = long (bys (ps.take k)) + (1 + ps[k].size) := by
  rw [show ps.take (k + 1) = ps.take k ++ [ps[k]] from List.take_succ_eq_append_getElem h]
  simp only [bys, List.map_append, List.map_cons, List.map_nil]
  rw [long_snoc]
  rfl
theorem long_take_le (ps : List ByteArray) (k : Nat) : long (bys (ps.take k)) ≤ long (bys ps) := by
  have : bys ps = bys (ps.take k) ++ bys (ps.drop k) := by simp only [bys, ← List.map_append, List.take_append_drop]
  rw [this, long_append]; omega

set_option maxHeartbeats 400000 in
theorem long_calls (A : Option Addr) (cap : Nat) (ps : List ByteArray) (w : World) (hA : Texts w A ps) (hl : long (bys ps) ≤ 4611686018427387904) :
    Calls Try.prog 6 #[.slice A ps.length cap] w fun e w' => e = .returned (.int .i64 (long (bys ps) : Nat)) ∧ w = w' := by
  have hn := long_ge ps
  go_enter Try.func6, Try.ntmps6
  go_wp2
  go_loop [3, 4] (fun n i => ∃ (k m : Nat), k ≤ ps.length ∧ i = .int .i64 k ∧ n = .int .i64 m ∧ m ≤ 4611686018427387904 ∧ Hid (m = long (bys (ps.take k)))) (fun _ i => ps.length - (intOf i).toNat)
  case atStart => exact ⟨0, 0, Nat.zero_le _, rfl, rfl, by omega, by simp [Hid, bys, long]⟩
  case round =>
    obtain ⟨k, m, hk, rfl, rfl, hm, H⟩ := hrel
    by_cases hlt : k < ps.length
    · obtain ⟨a, rfl, hc⟩ := hA.at_ hlt
      have e1 := Lib.hid (long_take ps k hlt)
      have e2 := long_take_le ps (k + 1)
      have e3 : m + 1 + ps[k].size ≤ 4611686018427387904 := by have := e1.out; have h2 : m = _ := H; omega
      clear hA e2
      go_wp2
      go_round
      case rel => exact ⟨k + 1, m + 1 + ps[k].size, by omega, by go_num, by go_num, by omega, by have h2 : m = _ := H; show _ = _; rw [e1.out, ← h2]; omega⟩
      case measure => simp [intOf]; omega
    · go_wp2
      go_ret
      exact ⟨ret_int (by rw [show m = _ from H, List.take_of_length_le (by omega)]), rfl⟩

end Hs
end Go.Proofs.Ytjehmdhcccmihaa
