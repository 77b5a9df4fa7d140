/-
  What digits.Parse and digits.Upto answer, in any world.
-/
import Derived.Test.YtgjedhdnnfdcgaaDigRead
import Derived.Lib.Strings
namespace Go.Proofs.Ytgjedhdnnfdcgaa
open Go.RowKit
namespace Dg

/-- the number whose text s is, if there is one -/
def num? (s : List UInt8) : Option Int := if -9223372036854775808 ≤ worth s ∧ worth s ≤ 9223372036854775807 ∧ txt (worth s) = s then some (worth s) else none

theorem num_txt {n : Int} (h1 : -9223372036854775808 ≤ n) (h2 : n ≤ 9223372036854775807) : num? (txt n) = some n := by
  unfold num?; rw [worth_txt, if_pos ⟨h1, h2, rfl⟩]
theorem num_some {s : List UInt8} {n : Int} (h : num? s = some n) : -9223372036854775808 ≤ n ∧ n ≤ 9223372036854775807 ∧ txt n = s := by
  unfold num? at h
  split at h
  · rename_i g; cases h; exact g
  · cases h
theorem num_none {s : List UInt8} (h : num? s = none) (n : Int) (h1 : -9223372036854775808 ≤ n) (h2 : n ≤ 9223372036854775807) : txt n ≠ s := by
  intro e; rw [← e, num_txt h1 h2] at h; cases h

def upto? (s : List UInt8) (a b : Int) : Option Int := match num? s with
  | some n => if a ≤ n ∧ n ≤ b then some n else none
  | none => none

theorem upto_in {s : List UInt8} {a b n : Int} (h : num? s = some n) (h1 : a ≤ n) (h2 : n ≤ b) : upto? s a b = some n := by
  unfold upto?; rw [h]; exact if_pos ⟨h1, h2⟩
theorem upto_out {s : List UInt8} {a b n : Int} (h : num? s = some n) (h1 : n < a ∨ b < n) : upto? s a b = none := by
  unfold upto?; rw [h]; exact if_neg (by omega)
theorem upto_no {s : List UInt8} {a b : Int} (h : num? s = none) : upto? s a b = none := by
  unfold upto?; rw [h]

/-- one call behind the other -/
theorem below_then {w w1 w2 : World} (h : Below w.heap.size w w1) (k : Below w1.heap.size w1 w2) : Below w.heap.size w w2 := h.trans (k.mono h.size)

/-- what is told of a number that may be none -/
def told (o : Option Int) : Ending := .returned (.tuple #[.int .i64 (o.getD 0), .bool o.isSome])

theorem eq_yes (s : ByteArray) (l : List UInt8) (h : l = s.data.toList) : (l == s.toList) = true := by
  rw [Lib.toList_data]; simpa using h
theorem eq_no (s : ByteArray) (l : List UInt8) (h : l ≠ s.data.toList) : (l == s.toList) = false := by
  rw [Lib.toList_data]; simpa using h

set_option maxHeartbeats 400000 in
theorem parse_some (s : ByteArray) (w : World) (n : Int) (h : num? s.data.toList = some n) :
    Calls Try.prog 51 #[.string s] w fun e w' => e = .returned (.tuple #[.int .i64 n, .bool true]) ∧ Below w.heap.size w w' := by
  obtain ⟨h1, h2, h3⟩ := num_some h
  have hl := txt_len n h1 h2
  have hs : s.size ≤ 20 := by rw [h3] at hl; exact hl.1
  have H3 := Lib.hid h3
  clear h h3 hl
  go_enter Try.func51, Try.ntmps51
  go_wp2_with fail
  refine (read_calls s _ hs).mono ?_
  rintro e w1 ⟨r, rfl, hr1, hr2, hr, rfl⟩
  obtain rfl := hr n h1 h2 H3.out
  clear hr
  have hq := eq_yes s (txt r) H3.out
  go_wp2_with fail
  refine (print_calls r _ hr1 hr2).mono ?_
  rintro e w1 ⟨rfl, hb⟩
  go_wp2
  go_ret2
  exact ⟨rfl, hb⟩

set_option maxHeartbeats 400000 in
theorem parse_none (s : ByteArray) (w : World) (h : num? s.data.toList = none) :
    Calls Try.prog 51 #[.string s] w fun e w' => e = .returned (.tuple #[.int .i64 0, .bool false]) ∧ Below w.heap.size w w' := by
  have H := Lib.hid h
  clear h
  by_cases hs : s.size ≤ 20
  · go_enter Try.func51, Try.ntmps51
    go_wp2_with fail
    refine (read_calls s _ hs).mono ?_
    rintro e w1 ⟨r, rfl, hr1, hr2, hr, rfl⟩
    clear hr
    have hq := eq_no s (txt r) (num_none H.out r hr1 hr2)
    go_wp2_with fail
    refine (print_calls r _ hr1 hr2).mono ?_
    rintro e w1 ⟨rfl, hb⟩
    go_wp2
    go_ret2
    exact ⟨rfl, hb⟩
  · have hs' : 20 < s.size := by omega
    go_enter Try.func51, Try.ntmps51
    go_wp2
    go_ret2
    exact ⟨rfl, Below.refl _ _⟩

theorem parse_calls (s : ByteArray) (w : World) :
    Calls Try.prog 51 #[.string s] w fun e w' => e = told (num? s.data.toList) ∧ Below w.heap.size w w' := by
  cases h : num? s.data.toList with
  | some n => exact parse_some s w n h
  | none => exact parse_none s w h

set_option maxHeartbeats 400000 in
theorem upto_calls (s : ByteArray) (a b : Int) (w : World) :
    Calls Try.prog 49 #[.string s, .int .i64 a, .int .i64 b] w fun e w' => e = told (upto? s.data.toList a b) ∧ Below w.heap.size w w' := by
  cases h : num? s.data.toList with
  | some n =>
    have H := Lib.hid h
    clear h
    by_cases h1 : n < a
    · have E := Lib.hid (upto_out (b := b) H.out (Or.inl h1))
      go_enter Try.func49, Try.ntmps49
      go_wp2_with fail
      refine (parse_some s _ n H.out).mono ?_
      rintro e w1 ⟨rfl, hb⟩
      go_wp2
      go_ret2
      rw [E.out]
      exact ⟨rfl, hb⟩
    · by_cases h2 : b < n
      · have E := Lib.hid (upto_out (a := a) H.out (Or.inr h2))
        go_enter Try.func49, Try.ntmps49
        go_wp2_with fail
        refine (parse_some s _ n H.out).mono ?_
        rintro e w1 ⟨rfl, hb⟩
        go_wp2
        go_ret2
        rw [E.out]
        exact ⟨rfl, hb⟩
      · have E := Lib.hid (upto_in (a := a) (b := b) H.out (by omega) (by omega))
        go_enter Try.func49, Try.ntmps49
        go_wp2_with fail
        refine (parse_some s _ n H.out).mono ?_
        rintro e w1 ⟨rfl, hb⟩
        go_wp2
        go_ret2
        rw [E.out]
        exact ⟨rfl, hb⟩
  | none =>
    have E := Lib.hid (upto_no (a := a) (b := b) h)
    have H := Lib.hid h
    clear h
    go_enter Try.func49, Try.ntmps49
    go_wp2_with fail
    refine (parse_none s _ H.out).mono ?_
    rintro e w1 ⟨rfl, hb⟩
    go_wp2
    go_ret2
    rw [E.out]
    exact ⟨rfl, hb⟩

end Dg
end Go.Proofs.Ytgjedhdnnfdcgaa
