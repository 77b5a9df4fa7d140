/-
  The walks of the laws DigitsOne and DigitsParses.
-/
import Derived.Test.YtlgdalgbonlelaaDigLawA
import Derived.Test.YtlgdalgbonlelaaDigRefParse
namespace Go.Proofs.Ytlgdalgbonlelaa
open Go.RowKit
namespace Dg

theorem upto_yes (s : ByteArray) (a b n : Int) (w : World) (h : upto? s.data.toList a b = some n) :
    Calls Try.prog 15 #[.string s, .int .i64 a, .int .i64 b] w fun e w' => e = .returned (.tuple #[.int .i64 n, .bool true]) ∧ Below w.heap.size w w' :=
  (upto_calls s a b w).mono fun e w' ⟨he, hb⟩ => ⟨by rw [he, h]; rfl, hb⟩
theorem upto_none (s : ByteArray) (a b : Int) (w : World) (h : upto? s.data.toList a b = none) :
    Calls Try.prog 15 #[.string s, .int .i64 a, .int .i64 b] w fun e w' => e = .returned (.tuple #[.int .i64 0, .bool false]) ∧ Below w.heap.size w w' :=
  (upto_calls s a b w).mono fun e w' ⟨he, hb⟩ => ⟨by rw [he, h]; rfl, hb⟩
theorem refupto_yes (s : ByteArray) (a b n : Int) (w : World) (h : upto? s.data.toList a b = some n) :
    Calls Try.prog 16 #[.string s, .int .i64 a, .int .i64 b] w fun e w' => e = .returned (.tuple #[.int .i64 n, .bool true]) ∧ Below w.heap.size w w' :=
  (refupto s a b w).mono fun e w' ⟨he, hb⟩ => ⟨by rw [he, h]; rfl, hb⟩
theorem refupto_none (s : ByteArray) (a b : Int) (w : World) (h : upto? s.data.toList a b = none) :
    Calls Try.prog 16 #[.string s, .int .i64 a, .int .i64 b] w fun e w' => e = .returned (.tuple #[.int .i64 0, .bool false]) ∧ Below w.heap.size w w' :=
  (refupto s a b w).mono fun e w' ⟨he, hb⟩ => ⟨by rw [he, h]; rfl, hb⟩

set_option maxHeartbeats 1000000 in
theorem parses_law (s : ByteArray) (a b : Int) (_hs : s.size ≤ maxLen) (_ha : (Lit.int .i64 a).wf = true) (_hb : (Lit.int .i64 b).wf = true) (w : World) :
    Calls Try.prog 4 #[.string s, .int .i64 a, .int .i64 b] w fun e w' => e = .returned (.bool true) ∧ Below w.heap.size w w' := by
  clear _hs _ha _hb
  by_cases hl : 100 < s.size
  · go_enter Try.func4, Try.ntmps4
    go_wp2_with fail
    refine (known_calls _).mono ?_
    rintro e w1 ⟨rfl, hb1⟩
    go_wp2
    go_ret
    exact ⟨rfl, hb1⟩
  · cases h : num? s.data.toList with
    | none =>
      have U := Lib.hid (upto_no (a := a) (b := b) h)
      have H := Lib.hid h
      clear h
      go_enter Try.func4, Try.ntmps4
      go_wp2_with fail
      refine (parse_none s _ H.out).mono ?_
      rintro e w1 ⟨rfl, hb1⟩
      go_wp2_with fail
      refine (refparse_none s _ H.out).mono ?_
      rintro e w2 ⟨c, ⟨rfl, hc1, hc2⟩, hb2⟩
      go_wp2_with fail
      refine (upto_none s a b _ U.out).mono ?_
      rintro e w3 ⟨rfl, hb3⟩
      go_wp2_with fail
      refine (refupto_none s a b _ U.out).mono ?_
      rintro e w4 ⟨rfl, hb4⟩
      cases hz : ((0 : Int) == c)
      all_goals
        go_wp2_with fail
        refine (known_calls _).mono ?_
        rintro e w5 ⟨rfl, hb5⟩
        go_wp2
        go_ret
        exact ⟨rfl, below_then (below_then (below_then (below_then hb1 hb2) hb3) hb4) hb5⟩
    | some n =>
      have H := Lib.hid h
      clear h
      cases hu : upto? s.data.toList a b with
      | none =>
        have U := Lib.hid hu
        clear hu
        go_enter Try.func4, Try.ntmps4
        go_wp2_with fail
        refine (parse_some s _ n H.out).mono ?_
        rintro e w1 ⟨rfl, hb1⟩
        go_wp2_with fail
        refine (refparse_some s _ n H.out).mono ?_
        rintro e w2 ⟨rfl, hb2⟩
        go_wp2_with fail
        refine (upto_none s a b _ U.out).mono ?_
        rintro e w3 ⟨rfl, hb3⟩
        go_wp2_with fail
        refine (refupto_none s a b _ U.out).mono ?_
        rintro e w4 ⟨rfl, hb4⟩
        go_wp2_with fail
        refine (known_calls _).mono ?_
        rintro e w5 ⟨rfl, hb5⟩
        go_wp2
        go_ret
        exact ⟨rfl, below_then (below_then (below_then (below_then hb1 hb2) hb3) hb4) hb5⟩
      | some m =>
        have U := Lib.hid hu
        clear hu
        go_enter Try.func4, Try.ntmps4
        go_wp2_with fail
        refine (parse_some s _ n H.out).mono ?_
        rintro e w1 ⟨rfl, hb1⟩
        go_wp2_with fail
        refine (refparse_some s _ n H.out).mono ?_
        rintro e w2 ⟨rfl, hb2⟩
        go_wp2_with fail
        refine (upto_yes s a b m _ U.out).mono ?_
        rintro e w3 ⟨rfl, hb3⟩
        go_wp2_with fail
        refine (refupto_yes s a b m _ U.out).mono ?_
        rintro e w4 ⟨rfl, hb4⟩
        go_wp2_with fail
        refine (known_calls _).mono ?_
        rintro e w5 ⟨rfl, hb5⟩
        go_wp2
        go_ret
        exact ⟨rfl, below_then (below_then (below_then (below_then hb1 hb2) hb3) hb4) hb5⟩

end Dg
end Go.Proofs.Ytlgdalgbonlelaa
