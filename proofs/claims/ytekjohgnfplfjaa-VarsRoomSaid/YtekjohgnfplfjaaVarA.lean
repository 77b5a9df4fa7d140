/-
  Clipped times; who is there; what is found.
-/
import Derived.Test.YtekjohgnfplfjaaVarMap
import Derived.WalkSpells
import Derived.BigQuiet
import Derived.BigRegion
import Derived.Deep.RegionHeld3
import Derived.StillTailTactics
namespace Go.Proofs.Ytekjohgnfplfjaa.Va
open Go.RowKit Go.Maps

theorem clamp_calls (t : Int) (w : World) : Calls Try.prog 23 #[.int .i64 t] w fun e w' => e = .returned (.int .i64 (clamp t)) ∧ w = w' := by
  have E := Lib.hid (show clamp t = min (max t 0) 9007199254740992 by unfold clamp; omega)
  go_enter Try.func23, Try.ntmps23
  go_wp2
  go_ret
  exact ⟨by rw [E.out]; rfl, rfl⟩
theorem clamp_quiet (t : Int) (w : World) : Calls Try.prog 23 #[.int .i64 t] w fun e w' => e = .returned (.int .i64 (clamp t)) ∧ w' = w := (clamp_calls t w).mono fun _ _ h => ⟨h.1, h.2.symm⟩

theorem there_calls (p : Nat) (e now : Int) (w : World) (hc : w.cell? ⟨p, 1, none⟩ = some (.int .i64 e)) :
    Calls Try.prog 24 #[.pointer (some ⟨p, 0, none⟩), .int .i64 now] w fun r w' => r = .returned (.bool (decide (clamp now < e))) ∧ Below w.heap.size w w' := by
  go_enter Try.func24, Try.ntmps24
  go_wp2_with fail
  go_quiet ((go_at_call 23; refine Calls.quiet_of_same (clamp_quiet now _)))
  go_wp2_with fail
  go_ret
  exact ⟨rfl, below_drewN (Below.refl _ _) _⟩

theorem made_calls (v b : Nat) (w : World) (hc : w.cell? ⟨v, 1, none⟩ = some (.map (some b))) :
    Calls Try.prog 19 #[.pointer (some ⟨v, 0, none⟩)] w fun r w' => r = .returned (.bool true) ∧ w' = w := by
  have hm := fun W => run_neq_map_nil (P := Try.prog) W 48 _ _ (some b) Try.underlying48
  go_enter Try.func19, Try.ntmps19
  go_wp2
  go_ret
  exact ⟨rfl, rfl⟩
theorem madeNil_calls (w : World) :
    Calls Try.prog 19 #[.pointer none] w fun r w' => r = .returned (.bool false) ∧ w' = w := by
  go_enter Try.func19, Try.ntmps19
  go_wp2
  go_ret
  exact ⟨rfl, rfl⟩
end Go.Proofs.Ytekjohgnfplfjaa.Va
