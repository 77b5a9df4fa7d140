/-
  What hash.Sum, hash.Shard and their helpers answer, in any world.
-/
import Derived.Test.YtjehmdhcccmihaaRows
import Derived.Test.YtjehmdhcccmihaaKHashMath
import Derived.WalkKit
import Derived.WalkSpells
import Derived.WalkLawsBesides
import Derived.Deep.LoopGhost
import Derived.Lib.Hide
import Derived.Laws.Bits64
namespace Go.Proofs.Ytjehmdhcccmihaa
open Go.RowKit
namespace Hs

theorem ret_int {k : IntKind} {a b : Int} (h : a = b) : Ending.returned (.int k a) = .returned (.int k b) := by rw [h]
theorem val_int {k : IntKind} {a b : Int} (h : a = b) : Value.int k a = .int k b := by rw [h]
theorem take_one (s : ByteArray) (k : Nat) (h : k < s.size) : s.data.toList.take (k + 1) = s.data.toList.take k ++ [s[k]] := by
  rw [List.take_succ_eq_append_getElem (by simpa using h)]; rfl
theorem take_all (s : ByteArray) (k : Nat) (h : ¬ k < s.size) : s.data.toList.take k = s.data.toList :=
  List.take_of_length_le (by simp; have : s.data.size = s.size := rfl; omega)

theorem step_wrap (a : Nat) (c : UInt8) (ha : a < M64) : IntKind.u64.wrap (bits .xor .u64 (a : Int) (IntKind.u64.wrap (c.toNat : Int)) * 1099511628211) = ((step a c : Nat) : Int) := by
  have hc : c.toNat < 256 := c.toNat_lt
  have e1 : IntKind.u64.wrap (c.toNat : Int) = (c.toNat : Int) := by rw [IntKind.wrap_u64]; omega
  unfold M64 at ha
  rw [e1, bits_xor_u64_nat a c.toNat ha (by omega), IntKind.wrap_u64]
  unfold step M64
  generalize a ^^^ c.toNat = x
  omega

theorem sum_step {s : ByteArray} {k a : Nat} (h : k < s.size) (e : a = sum (s.data.toList.take k)) : step a s[k] = sum (s.data.toList.take (k + 1)) := by
  rw [take_one s k h, sum_snoc, e]
theorem sum_start : Value.int .u64 14695981039346656037 = Value.int .u64 ((base : Nat) : Int) := val_int (by unfold base; omega)

set_option maxHeartbeats 400000 in
theorem sum_calls (s : ByteArray) (w : World) (hs : s.size ≤ maxLen) :
    Calls Try.prog 13 #[.string s] w fun e w' => e = .returned (.int .u64 (sum s.data.toList : Nat)) ∧ w = w' := by
  unfold maxLen at hs
  go_enter Try.func13, Try.ntmps13
  go_wp2
  go_loop [3, 7] (fun h i => ∃ (k a : Nat), k ≤ s.size ∧ i = .int .i64 k ∧ h = .int .u64 a ∧ a < M64 ∧ Hid (a = sum (s.data.toList.take k))) (fun _ i => s.size - (intOf i).toNat)
  case atStart => exact ⟨0, base, Nat.zero_le _, rfl, sum_start, base_lt, by rw [List.take_zero, sum_nil]; trivial⟩
  case round =>
    obtain ⟨k, a, hk, rfl, rfl, ha, H⟩ := hrel
    by_cases hlt : k < s.size
    · go_wp2
      go_round
      case rel => exact ⟨k + 1, step a s[k], by omega, by go_num, val_int (step_wrap a _ ha), step_lt _ _, sum_step hlt H⟩
      case measure => simp [intOf]; omega
    · go_wp2
      go_ret
      exact ⟨ret_int (by rw [show a = _ from H, take_all s k hlt]), rfl⟩

end Hs
end Go.Proofs.Ytjehmdhcccmihaa
