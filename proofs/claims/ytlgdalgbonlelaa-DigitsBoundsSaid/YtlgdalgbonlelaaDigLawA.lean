/-
  The walks of the laws DigitsPrints and DigitsCounts.
-/
import Derived.Test.YtlgdalgbonlelaaDigKnown
import Derived.Test.YtlgdalgbonlelaaDigRef
import Derived.OpenShut
namespace Go.Proofs.Ytlgdalgbonlelaa
open Go.RowKit
namespace Dg

theorem bd64 {a : Int} (h : (Lit.int .i64 a).wf = true) : -9223372036854775808 ≤ a ∧ a ≤ 9223372036854775807 := bounds_i64 h

theorem eq_same (l : List UInt8) : (l == l) = true := by simp

set_option maxHeartbeats 400000 in
theorem prints_law (n : Int) (hw : (Lit.int .i64 n).wf = true) (w : World) :
    Calls Try.prog 3 #[.int .i64 n] w fun e w' => e = .returned (.bool true) ∧ Below w.heap.size w w' := by
  obtain ⟨h1, h2⟩ := bd64 hw
  clear hw
  have E := Lib.hid (eq_same (txt n))
  go_enter Try.func3, Try.ntmps3
  go_wp2_with fail
  refine (print_calls n _ h1 h2).mono ?_
  rintro e w1 ⟨rfl, hb1⟩
  go_wp2_with fail
  refine (refprint n _ h1 h2).mono ?_
  rintro e w2 ⟨rfl, hb2⟩
  go_wp2_with fail
  refine (count_calls n _ h1 h2).mono ?_
  rintro e w3 ⟨rfl, hb3⟩
  go_wp2_with fail
  refine (refprint n _ h1 h2).mono ?_
  rintro e w4 ⟨rfl, hb4⟩
  go_wp2_with fail
  refine (known_calls _).mono ?_
  rintro e w5 ⟨rfl, hb5⟩
  go_wp2
  go_ret
  exact ⟨rfl, below_then (below_then (below_then (below_then hb1 hb2) hb3) hb4) hb5⟩

end Dg
end Go.Proofs.Ytlgdalgbonlelaa
