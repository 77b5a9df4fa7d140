/-
  The walk of the law DigitsCounts.
-/
import Derived.Test.YtlgdalgbonlelaaDigLawA
namespace Go.Proofs.Ytlgdalgbonlelaa
open Go.RowKit
namespace Dg

theorem txt_one (d : Int) (h1 : 0 ≤ d) (h2 : d < 10) : (txt d).length = 1 := by
  unfold txt; rw [if_neg (by omega), dec_lt (by omega)]; rfl
theorem txt_more (x d : Int) (hx : 1 ≤ x) (h1 : 0 ≤ d) (h2 : d < 10) : txt (10 * x + d) = txt x ++ txt d := by
  rw [txt_ten (10 * x + d) (by omega), show (10 * x + d) / 10 = x by omega, show (10 * x + d) % 10 = d by omega]
theorem txt_nought : txt 0 = [48] := by
  have : txt 0 = dec 0 := rfl
  rw [this, dec_lt (by omega)]; rfl

set_option maxHeartbeats 400000 in
theorem counts_law (n k : Int) (hn : (Lit.int .u32 n).wf = true) (hk : (Lit.int .u8 k).wf = true) (w : World) :
    Calls Try.prog 7 #[.int .u32 n, .int .u8 k] w fun e w' => e = .returned (.bool true) ∧ Below w.heap.size w w' := by
  obtain ⟨h1, h2⟩ := bounds_u32 hn
  obtain ⟨h3, h4⟩ := bounds_u8 hk
  clear hn hk
  have l1 := (txt_len (1 + n) (by omega) (by omega)).1
  have hcat := ByteArray.mk_append_mk
  go_enter Try.func7, Try.ntmps7
  go_wp2_with fail
  refine (print_calls (1 + n) _ (by omega) (by omega)).mono ?_
  rintro e w1 ⟨rfl, hb1⟩
  go_wp2_with fail
  refine (print_calls (-(1 + n)) _ (by omega) (by omega)).mono ?_
  rintro e w2 ⟨rfl, hb2⟩
  rw [txt_neg1 (-(1 + n)) (by omega), Int.neg_neg]
  go_wp2_with fail
  refine (print_calls (10 * (1 + n)) _ (by omega) (by omega)).mono ?_
  rintro e w3 ⟨rfl, hb3⟩
  rw [show txt (10 * (1 + n)) = txt (1 + n) ++ [48] from by have := txt_more (1 + n) 0 (by omega) (by omega) (by omega); rw [txt_nought, Int.add_zero] at this; exact this]
  go_wp2_with fail
  refine (count_calls (1 + n) _ (by omega) (by omega)).mono ?_
  rintro e w4 ⟨rfl, hb4⟩
  go_wp2_with fail
  refine (count_calls (-(1 + n)) _ (by omega) (by omega)).mono ?_
  rintro e w5 ⟨rfl, hb5⟩
  rw [txt_neg1 (-(1 + n)) (by omega), Int.neg_neg, List.length_cons]
  go_wp2_with fail
  refine (print_calls (10 * (1 + n) + k % 10) _ (by omega) (by omega)).mono ?_
  rintro e w6 ⟨rfl, hb6⟩
  rw [txt_more (1 + n) (k % 10) (by omega) (by omega) (by omega)]
  have l2 := txt_one (k % 10) (by omega) (by omega)
  go_wp2_with fail
  refine (print_calls (k % 10) _ (by omega) (by omega)).mono ?_
  rintro e w7 ⟨rfl, hb7⟩
  go_wp2_with fail
  refine (print_calls (k % 10) _ (by omega) (by omega)).mono ?_
  rintro e w8 ⟨rfl, hb8⟩
  go_wp2_with fail
  refine (known_calls _).mono ?_
  rintro e w9 ⟨rfl, hb9⟩
  go_wp2
  go_ret
  exact ⟨rfl, below_then (below_then (below_then (below_then (below_then (below_then (below_then (below_then hb1 hb2) hb3) hb4) hb5) hb6) hb7) hb8) hb9⟩

end Dg
end Go.Proofs.Ytlgdalgbonlelaa
