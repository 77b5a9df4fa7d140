/-
  The walk of the law DigitsOne.
-/
import Derived.Test.YtlgdalgbonlelaaDigLawC
namespace Go.Proofs.Ytlgdalgbonlelaa
open Go.RowKit
namespace Dg

theorem str_eq (s t : ByteArray) (h : s.data.toList = t.data.toList) : (s.toList == t.toList) = true := by
  rw [Lib.toList_data, Lib.toList_data]; simpa using h
theorem str_ne (s t : ByteArray) (h : s.data.toList ≠ t.data.toList) : (s.toList == t.toList) = false := by
  rw [Lib.toList_data, Lib.toList_data]; simpa using h

set_option maxHeartbeats 1000000 in
theorem one_long (s t : ByteArray) (h : 100 < s.size ∨ ¬ 100 < s.size ∧ 100 < t.size) (w : World) :
    Calls Try.prog 6 #[.string s, .string t] w fun e w' => e = .returned (.bool true) ∧ Below w.heap.size w w' := by
  rcases h with h | ⟨h, h'⟩
  all_goals
    go_enter Try.func6, Try.ntmps6
    go_wp2_with fail
    refine (known_calls _).mono ?_
    rintro e w1 ⟨rfl, hb1⟩
    go_wp2
    go_ret
    exact ⟨rfl, hb1⟩

set_option maxHeartbeats 1000000 in
theorem one_nn (s t : ByteArray) (hs : ¬ 100 < s.size) (ht : ¬ 100 < t.size) (w : World) (h1 : num? s.data.toList = none) (h2 : num? t.data.toList = none) :
    Calls Try.prog 6 #[.string s, .string t] w fun e w' => e = .returned (.bool true) ∧ Below w.heap.size w w' := by
  have H1 := Lib.hid h1
  have H2 := Lib.hid h2
  clear h1 h2
  go_enter Try.func6, Try.ntmps6
  go_wp2_with fail
  refine (parse_none s _ H1.out).mono ?_
  rintro e w1 ⟨rfl, hb1⟩
  go_wp2_with fail
  refine (parse_none t _ H2.out).mono ?_
  rintro e w2 ⟨rfl, hb2⟩
  go_wp2_with fail
  refine (known_calls _).mono ?_
  rintro e w3 ⟨rfl, hb3⟩
  go_wp2
  go_ret
  exact ⟨rfl, below_then (below_then hb1 hb2) hb3⟩

set_option maxHeartbeats 1000000 in
theorem one_sn (s t : ByteArray) (hs : ¬ 100 < s.size) (ht : ¬ 100 < t.size) (w : World) (n : Int) (h1 : num? s.data.toList = some n) (h2 : num? t.data.toList = none) :
    Calls Try.prog 6 #[.string s, .string t] w fun e w' => e = .returned (.bool true) ∧ Below w.heap.size w w' := by
  obtain ⟨b1, b2, b3⟩ := num_some h1
  have q1 := eq_yes s _ b3
  have H1 := Lib.hid h1
  have H2 := Lib.hid h2
  clear h1 h2 b3
  go_enter Try.func6, Try.ntmps6
  go_wp2_with fail
  refine (parse_some s _ n H1.out).mono ?_
  rintro e w1 ⟨rfl, hb1⟩
  go_wp2_with fail
  refine (parse_none t _ H2.out).mono ?_
  rintro e w2 ⟨rfl, hb2⟩
  go_wp2_with fail
  refine (print_calls n _ b1 b2).mono ?_
  rintro e w3 ⟨rfl, hb3⟩
  go_wp2_with fail
  refine (known_calls _).mono ?_
  rintro e w4 ⟨rfl, hb4⟩
  go_wp2
  go_ret
  exact ⟨rfl, below_then (below_then (below_then hb1 hb2) hb3) hb4⟩

set_option maxHeartbeats 1000000 in
theorem one_ns (s t : ByteArray) (hs : ¬ 100 < s.size) (ht : ¬ 100 < t.size) (w : World) (m : Int) (h1 : num? s.data.toList = none) (h2 : num? t.data.toList = some m) :
    Calls Try.prog 6 #[.string s, .string t] w fun e w' => e = .returned (.bool true) ∧ Below w.heap.size w w' := by
  obtain ⟨b1, b2, b3⟩ := num_some h2
  have q1 := eq_yes t _ b3
  have H1 := Lib.hid h1
  have H2 := Lib.hid h2
  clear h1 h2 b3
  go_enter Try.func6, Try.ntmps6
  go_wp2_with fail
  refine (parse_none s _ H1.out).mono ?_
  rintro e w1 ⟨rfl, hb1⟩
  go_wp2_with fail
  refine (parse_some t _ m H2.out).mono ?_
  rintro e w2 ⟨rfl, hb2⟩
  go_wp2_with fail
  refine (print_calls m _ b1 b2).mono ?_
  rintro e w3 ⟨rfl, hb3⟩
  go_wp2_with fail
  refine (known_calls _).mono ?_
  rintro e w4 ⟨rfl, hb4⟩
  go_wp2
  go_ret
  exact ⟨rfl, below_then (below_then (below_then hb1 hb2) hb3) hb4⟩

set_option maxHeartbeats 1000000 in
theorem one_ss (s t : ByteArray) (hs : ¬ 100 < s.size) (ht : ¬ 100 < t.size) (w : World) (n m : Int) (h1 : num? s.data.toList = some n) (h2 : num? t.data.toList = some m) :
    Calls Try.prog 6 #[.string s, .string t] w fun e w' => e = .returned (.bool true) ∧ Below w.heap.size w w' := by
  obtain ⟨b1, b2, b3⟩ := num_some h1
  obtain ⟨c1, c2, c3⟩ := num_some h2
  have q1 := eq_yes s _ b3
  have q2 := eq_yes t _ c3
  have H1 := Lib.hid h1
  have H2 := Lib.hid h2
  have key : (∃ b : Bool, (n == m) = b ∧ (s.toList == t.toList) = b) := by
    by_cases e : n = m
    · subst e; exact ⟨true, by simp, str_eq s t (b3.symm.trans c3)⟩
    · refine ⟨false, by simpa using e, str_ne s t fun h => e ?_⟩
      rw [← b3, ← c3] at h; exact txt_inj h
  clear h1 h2 b3 c3
  obtain ⟨b, k1, k2⟩ := key
  cases b
  all_goals
    go_enter Try.func6, Try.ntmps6
    go_wp2_with fail
    refine (parse_some s _ n H1.out).mono ?_
    rintro e w1 ⟨rfl, hb1⟩
    go_wp2_with fail
    refine (parse_some t _ m H2.out).mono ?_
    rintro e w2 ⟨rfl, hb2⟩
    go_wp2_with fail
    refine (print_calls n _ b1 b2).mono ?_
    rintro e w3 ⟨rfl, hb3⟩
    go_wp2_with fail
    refine (print_calls m _ c1 c2).mono ?_
    rintro e w4 ⟨rfl, hb4⟩
    go_wp2_with fail
    refine (known_calls _).mono ?_
    rintro e w5 ⟨rfl, hb5⟩
    go_wp2
    go_ret
    exact ⟨rfl, below_then (below_then (below_then (below_then hb1 hb2) hb3) hb4) hb5⟩

theorem one_law (s t : ByteArray) (_hs : s.size ≤ maxLen) (_ht : t.size ≤ maxLen) (w : World) :
    Calls Try.prog 6 #[.string s, .string t] w fun e w' => e = .returned (.bool true) ∧ Below w.heap.size w w' := by
  by_cases g1 : 100 < s.size
  · exact one_long s t (Or.inl g1) w
  · by_cases g2 : 100 < t.size
    · exact one_long s t (Or.inr ⟨g1, g2⟩) w
    · cases h1 : num? s.data.toList with
      | none =>
        cases h2 : num? t.data.toList with
        | none => exact one_nn s t g1 g2 w h1 h2
        | some m => exact one_ns s t g1 g2 w m h1 h2
      | some n =>
        cases h2 : num? t.data.toList with
        | none => exact one_sn s t g1 g2 w n h1 h2
        | some m => exact one_ss s t g1 g2 w n m h1 h2

end Dg
end Go.Proofs.Ytlgdalgbonlelaa
