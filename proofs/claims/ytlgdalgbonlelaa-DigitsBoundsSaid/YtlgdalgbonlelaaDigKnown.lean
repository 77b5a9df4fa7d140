/-
  The chapter's example holds, in any world.
-/
import Derived.Test.YtlgdalgbonlelaaDigParse
namespace Go.Proofs.Ytlgdalgbonlelaa
open Go.RowKit
namespace Dg

theorem txt_m12 : txt (-12) = [45, 49, 50] := by
  have e : txt (-12) = 45 :: dec 12 := rfl
  rw [e, dec_ge (by omega), dec_lt (by omega)]; rfl
theorem num_m12 : num? [45, 49, 50] = some (-12) := by
  rw [← txt_m12]; exact num_txt (by omega) (by omega)
theorem num_007 : num? [48, 48, 55] = none := by
  have e : worth [48, 48, 55] = 7 := by decide
  have f : txt 7 = [55] := by
    have : txt 7 = dec 7 := rfl
    rw [this, dec_lt (by omega)]; rfl
  unfold num?
  rw [e, f]
  exact if_neg (fun h => absurd h.2.2 (by decide))

set_option maxHeartbeats 400000 in
theorem known_calls (w : World) :
    Calls Try.prog 12 #[] w fun e w' => e = .returned (.bool true) ∧ Below w.heap.size w w' := by
  go_enter Try.func12, Try.ntmps12
  go_wp2_with fail
  refine (parse_some _ _ (-12) num_m12).mono ?_
  rintro e w1 ⟨rfl, hb1⟩
  go_wp2_with fail
  refine (parse_none _ _ num_007).mono ?_
  rintro e w2 ⟨rfl, hb2⟩
  go_wp2_with fail
  refine (print_calls (-12) _ (by omega) (by omega)).mono ?_
  rintro e w3 ⟨rfl, hb3⟩
  rw [txt_m12]
  go_wp2
  go_ret
  exact ⟨rfl, below_then (below_then hb1 hb2) hb3⟩

end Dg
end Go.Proofs.Ytlgdalgbonlelaa
