/-
  What the document's own Same and SameRows answer of what reads alike, in any world.
-/
import Derived.Test.YtjehmdhcccmihaaKPoolRow
import Derived.Test.YtjehmdhcccmihaaKGrow
import Derived.Deep.Slices
import Derived.Deep.Fields
import Derived.Deep.Draws
import Derived.Deep.QuietTactic
namespace Go.Proofs.Ytjehmdhcccmihaa.Pool
open Go.RowKit
open Gw

set_option maxHeartbeats 1000000 in
theorem same_true (A C : Option Addr) (cap cap2 : Nat) (ps : List ByteArray) (w : World) (hA : Texts w A ps) (hC : Texts w C ps) (hp : ps.length ≤ 1048576) :
    Calls Try.prog 12 #[.slice A ps.length cap, .slice C ps.length cap2] w fun e w' => e = .returned (.bool true) ∧ Below w.heap.size w w' := by
  have HA := Lib.hid hA
  have HC := Lib.hid hC
  clear hA hC
  go_enter Try.func12, Try.ntmps12
  go_wp2
  go_loopw [5] (fun i wr => ∃ (k n : Nat), k ≤ ps.length ∧ i = .int .i64 k ∧ wr = w.drewN n) (fun i _ => ps.length - (intOf i).toNat)
  case atStart => exact ⟨0, 0, Nat.zero_le _, rfl, rfl⟩
  case round =>
    obtain ⟨k, n, hk, rfl, rfl⟩ := hrel
    by_cases hlt : k < ps.length
    · obtain ⟨a, rfl, c0⟩ := HA.out.at_ hlt
      obtain ⟨a2, rfl, d0⟩ := HC.out.at_ hlt
      have i1 : (k : Int) < (ps.length : Int) := by omega
      generalize ps[k] = x at c0 d0
      go_wp2
      go_quiet (fail)
      go_wp2
      go_roundw
      case rel => exact ⟨k + 1, n + nq, by omega, by go_num, rfl⟩
      case measure => simp [intOf]; omega
    · go_wp2
      go_ret
      exact ⟨rfl, below_drewN (Below.refl _ _) n⟩

set_option maxHeartbeats 1000000 in
theorem rows_true (A C : Option Addr) (cap cap2 : Nat) (rows : List (List ByteArray)) (w : World) (hA : Rows w A rows) (hC : Rows w C rows) (hp : rows.length ≤ 1048576) (hf : ∀ x ∈ rows, x.length ≤ 1048576) :
    Calls Try.prog 8 #[.slice A rows.length cap, .slice C rows.length cap2] w fun e w' => e = .returned (.bool true) ∧ Below w.heap.size w w' := by
  have HA := Lib.hid hA
  have HC := Lib.hid hC
  have HF := Lib.hid hf
  clear hA hC hf
  go_enter Try.func8, Try.ntmps8
  go_wp2
  go_loopw [5] (fun i wr => ∃ (k : Nat), k ≤ rows.length ∧ i = .int .i64 k ∧ Hid (Below w.heap.size w wr)) (fun i _ => rows.length - (intOf i).toNat)
  case atStart => exact ⟨0, Nat.zero_le _, rfl, Below.refl _ _⟩
  case round =>
    obtain ⟨k, hk, rfl, HB⟩ := hrel
    by_cases hlt : k < rows.length
    · obtain ⟨a, rfl, A', cap3, c2, hA2, -⟩ := (HA.out.keep HB.out).at_ hlt
      obtain ⟨a2, rfl, C', cap4, d2, hC2, -⟩ := (HC.out.keep HB.out).at_ hlt
      have i1 : (k : Int) < (rows.length : Int) := by omega
      have hfx := HF.out _ (List.getElem_mem hlt)
      generalize rows[k] = x at c2 d2 hA2 hC2 hfx
      obtain ⟨n, hn⟩ : ∃ n, n = x.length := ⟨_, rfl⟩
      rw [← hn] at c2 d2
      have HS : ∀ w', Hid (Below wr.heap.size wr w' → Calls Try.prog 12 #[.slice A' n cap3, .slice C' n cap4] w' fun e w'' => e = .returned (.bool true) ∧ Below w'.heap.size w' w'') := fun w' => Lib.hid (fun hb => by
        have := same_true A' C' cap3 cap4 x w' (hA2.keep hb) (hC2.keep hb) hfx
        rw [← hn] at this
        exact this)
      clear hA2 hC2 hfx hn
      have g0 : ∀ g : Grow wr, g.w.cell? (a.add k) = some (.slice A' n cap3) := fun g => g.keep c2
      have h0 : ∀ g : Grow wr, g.w.cell? (a2.add k) = some (.slice C' n cap4) := fun g => g.keep d2
      go_wp2
      refine wp_region_grow (by kernel_rfl) (by kernel_rfl) ?_
      repeat (go_big_quiet_step ((go_at_call 12; exact grow_call ((HS _).out (Grow.below _)))))
      refine wpQuiet_nil ?_
      intro _ hw'
      obtain ⟨gq, hw''⟩ := hw'
      subst hw''
      have HB2 := Lib.hid (HB.out.trans (gq.below.mono HB.out.size))
      clear g0 h0 c2 d2
      go_wp2
      go_roundw
      case rel => exact ⟨k + 1, by omega, by go_num, HB2.out⟩
      case measure => simp [intOf]; omega
    · go_wp2
      go_ret
      exact ⟨rfl, HB.out⟩

end Go.Proofs.Ytjehmdhcccmihaa.Pool
