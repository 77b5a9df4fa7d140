/-
  The walk of the law DigitsBounds.
-/
import Derived.Test.YtlgdalgbonlelaaDigLawC
namespace Go.Proofs.Ytlgdalgbonlelaa
open Go.RowKit
set_option linter.unusedVariables false
namespace Dg

set_option maxHeartbeats 1000000 in
theorem bounds_long (s : ByteArray) (a b l m : Int) (h : 100 < s.size) (w : World) :
    Calls Try.prog 8 #[.string s, .int .i64 a, .int .i64 b, .int .u16 l, .int .u16 m] w fun e w' => e = .returned (.bool true) ∧ Below w.heap.size w w' := by
  go_enter Try.func8, Try.ntmps8
  go_wp2_with fail
  refine (known_calls _).mono ?_
  rintro e w1 ⟨rfl, hb1⟩
  go_wp2
  go_ret
  exact ⟨rfl, hb1⟩

set_option maxHeartbeats 1000000 in
theorem bounds_00_no (s : ByteArray) (a b l m : Int) (hs : ¬ 100 < s.size) (a1 : -9223372036854775808 ≤ a) (a2 : a ≤ 9223372036854775807) (b1 : -9223372036854775808 ≤ b) (b2 : b ≤ 9223372036854775807) (l1 : 0 ≤ l) (l2 : l ≤ 65535) (m1 : 0 ≤ m) (m2 : m ≤ 65535) (c1 : -9223372036854700000 ≤ a) (c2 : b ≤ 9223372036854700000) (h : num? s.data.toList = none) (w : World) :
    Calls Try.prog 8 #[.string s, .int .i64 a, .int .i64 b, .int .u16 l, .int .u16 m] w fun e w' => e = .returned (.bool true) ∧ Below w.heap.size w w' := by
  have H := Lib.hid h
  have U := Lib.hid (fun a b => upto_no (a := a) (b := b) h)
  clear h
  go_enter Try.func8, Try.ntmps8
  go_wp2_with fail
  refine (upto_none s a b _ (U.out _ _)).mono ?_
  rintro e w1 ⟨rfl, hb1⟩
  go_wp2_with fail
  refine (upto_none s (a - l) (b + m) _ (U.out _ _)).mono ?_
  rintro e w2 ⟨rfl, hb2⟩
  go_wp2_with fail
  refine (upto_none s 1 0 _ (U.out _ _)).mono ?_
  rintro e w3 ⟨rfl, hb3⟩
  go_wp2_with fail
  refine (upto_none s _ _ _ (U.out _ _)).mono ?_
  rintro e w4 ⟨rfl, hb4⟩
  go_wp2_with fail
  refine (refparse_none s _ H.out).mono ?_
  rintro e w5 ⟨c, ⟨rfl, _, _⟩, hb5⟩
  go_wp2_with fail
  refine (known_calls _).mono ?_
  rintro e w6 ⟨rfl, hb6⟩
  go_wp2
  go_ret
  exact ⟨rfl, below_then (below_then (below_then (below_then (below_then hb1 hb2) hb3) hb4) hb5) hb6⟩

set_option maxHeartbeats 1000000 in
theorem bounds_00_00 (s : ByteArray) (a b l m n : Int) (hs : ¬ 100 < s.size) (a1 : -9223372036854775808 ≤ a) (a2 : a ≤ 9223372036854775807) (b1 : -9223372036854775808 ≤ b) (b2 : b ≤ 9223372036854775807) (l1 : 0 ≤ l) (l2 : l ≤ 65535) (m1 : 0 ≤ m) (m2 : m ≤ 65535) (c1 : -9223372036854700000 ≤ a) (c2 : b ≤ 9223372036854700000) (h : num? s.data.toList = some n)
    (u1 : upto? s.data.toList a b = none) (u2 : upto? s.data.toList (a - l) (b + m) = none) (w : World) :
    Calls Try.prog 8 #[.string s, .int .i64 a, .int .i64 b, .int .u16 l, .int .u16 m] w fun e w' => e = .returned (.bool true) ∧ Below w.heap.size w w' := by
  have H := Lib.hid h
  have U1 := Lib.hid u1
  have U2 := Lib.hid u2
  have U3 := Lib.hid (upto_out (a := 1) (b := 0) h (by omega))
  have U4 := Lib.hid (upto_in (a := -9223372036854775808) (b := 9223372036854775807) h (num_some h).1 (num_some h).2.1)
  clear h u1 u2
  go_enter Try.func8, Try.ntmps8
  go_wp2_with fail
  refine (upto_none s a b _ U1.out).mono ?_
  rintro e w1 ⟨rfl, hb1⟩
  go_wp2_with fail
  refine (upto_none s (a - l) (b + m) _ U2.out).mono ?_
  rintro e w2 ⟨rfl, hb2⟩
  go_wp2_with fail
  refine (upto_none s 1 0 _ U3.out).mono ?_
  rintro e w3 ⟨rfl, hb3⟩
  go_wp2_with fail
  refine (upto_yes s (-9223372036854775808) 9223372036854775807 n _ U4.out).mono ?_
  rintro e w4 ⟨rfl, hb4⟩
  go_wp2_with fail
  refine (refparse_some s _ n H.out).mono ?_
  rintro e w5 ⟨rfl, hb5⟩
  go_wp2_with fail
  refine (known_calls _).mono ?_
  rintro e w6 ⟨rfl, hb6⟩
  go_wp2
  go_ret
  exact ⟨rfl, below_then (below_then (below_then (below_then (below_then hb1 hb2) hb3) hb4) hb5) hb6⟩

set_option maxHeartbeats 1000000 in
theorem bounds_00_01 (s : ByteArray) (a b l m n : Int) (hs : ¬ 100 < s.size) (a1 : -9223372036854775808 ≤ a) (a2 : a ≤ 9223372036854775807) (b1 : -9223372036854775808 ≤ b) (b2 : b ≤ 9223372036854775807) (l1 : 0 ≤ l) (l2 : l ≤ 65535) (m1 : 0 ≤ m) (m2 : m ≤ 65535) (c1 : -9223372036854700000 ≤ a) (c2 : b ≤ 9223372036854700000) (h : num? s.data.toList = some n)
    (u1 : upto? s.data.toList a b = none) (u2 : upto? s.data.toList (a - l) (b + m) = some n) (w : World) :
    Calls Try.prog 8 #[.string s, .int .i64 a, .int .i64 b, .int .u16 l, .int .u16 m] w fun e w' => e = .returned (.bool true) ∧ Below w.heap.size w w' := by
  have H := Lib.hid h
  have U1 := Lib.hid u1
  have U2 := Lib.hid u2
  have U3 := Lib.hid (upto_out (a := 1) (b := 0) h (by omega))
  have U4 := Lib.hid (upto_in (a := -9223372036854775808) (b := 9223372036854775807) h (num_some h).1 (num_some h).2.1)
  clear h u1 u2
  go_enter Try.func8, Try.ntmps8
  go_wp2_with fail
  refine (upto_none s a b _ U1.out).mono ?_
  rintro e w1 ⟨rfl, hb1⟩
  go_wp2_with fail
  refine (upto_yes s (a - l) (b + m) n _ U2.out).mono ?_
  rintro e w2 ⟨rfl, hb2⟩
  go_wp2_with fail
  refine (upto_none s 1 0 _ U3.out).mono ?_
  rintro e w3 ⟨rfl, hb3⟩
  go_wp2_with fail
  refine (upto_yes s (-9223372036854775808) 9223372036854775807 n _ U4.out).mono ?_
  rintro e w4 ⟨rfl, hb4⟩
  go_wp2_with fail
  refine (refparse_some s _ n H.out).mono ?_
  rintro e w5 ⟨rfl, hb5⟩
  go_wp2_with fail
  refine (known_calls _).mono ?_
  rintro e w6 ⟨rfl, hb6⟩
  go_wp2
  go_ret
  exact ⟨rfl, below_then (below_then (below_then (below_then (below_then hb1 hb2) hb3) hb4) hb5) hb6⟩

set_option maxHeartbeats 1000000 in
theorem bounds_00_11 (s : ByteArray) (a b l m n : Int) (hs : ¬ 100 < s.size) (a1 : -9223372036854775808 ≤ a) (a2 : a ≤ 9223372036854775807) (b1 : -9223372036854775808 ≤ b) (b2 : b ≤ 9223372036854775807) (l1 : 0 ≤ l) (l2 : l ≤ 65535) (m1 : 0 ≤ m) (m2 : m ≤ 65535) (c1 : -9223372036854700000 ≤ a) (c2 : b ≤ 9223372036854700000) (h : num? s.data.toList = some n)
    (u1 : upto? s.data.toList a b = some n) (u2 : upto? s.data.toList (a - l) (b + m) = some n) (w : World) :
    Calls Try.prog 8 #[.string s, .int .i64 a, .int .i64 b, .int .u16 l, .int .u16 m] w fun e w' => e = .returned (.bool true) ∧ Below w.heap.size w w' := by
  have H := Lib.hid h
  have U1 := Lib.hid u1
  have U2 := Lib.hid u2
  have U3 := Lib.hid (upto_out (a := 1) (b := 0) h (by omega))
  have U4 := Lib.hid (upto_in (a := -9223372036854775808) (b := 9223372036854775807) h (num_some h).1 (num_some h).2.1)
  clear h u1 u2
  go_enter Try.func8, Try.ntmps8
  go_wp2_with fail
  refine (upto_yes s a b n _ U1.out).mono ?_
  rintro e w1 ⟨rfl, hb1⟩
  go_wp2_with fail
  refine (upto_yes s (a - l) (b + m) n _ U2.out).mono ?_
  rintro e w2 ⟨rfl, hb2⟩
  go_wp2_with fail
  refine (upto_none s 1 0 _ U3.out).mono ?_
  rintro e w3 ⟨rfl, hb3⟩
  go_wp2_with fail
  refine (upto_yes s (-9223372036854775808) 9223372036854775807 n _ U4.out).mono ?_
  rintro e w4 ⟨rfl, hb4⟩
  go_wp2_with fail
  refine (refparse_some s _ n H.out).mono ?_
  rintro e w5 ⟨rfl, hb5⟩
  go_wp2_with fail
  refine (known_calls _).mono ?_
  rintro e w6 ⟨rfl, hb6⟩
  go_wp2
  go_ret
  exact ⟨rfl, below_then (below_then (below_then (below_then (below_then hb1 hb2) hb3) hb4) hb5) hb6⟩

set_option maxHeartbeats 1000000 in
theorem bounds_01_no (s : ByteArray) (a b l m : Int) (hs : ¬ 100 < s.size) (a1 : -9223372036854775808 ≤ a) (a2 : a ≤ 9223372036854775807) (b1 : -9223372036854775808 ≤ b) (b2 : b ≤ 9223372036854775807) (l1 : 0 ≤ l) (l2 : l ≤ 65535) (m1 : 0 ≤ m) (m2 : m ≤ 65535) (c1 : -9223372036854700000 ≤ a) (c2 : 9223372036854700000 < b) (h : num? s.data.toList = none) (w : World) :
    Calls Try.prog 8 #[.string s, .int .i64 a, .int .i64 b, .int .u16 l, .int .u16 m] w fun e w' => e = .returned (.bool true) ∧ Below w.heap.size w w' := by
  have H := Lib.hid h
  have U := Lib.hid (fun a b => upto_no (a := a) (b := b) h)
  clear h
  go_enter Try.func8, Try.ntmps8
  go_wp2_with fail
  refine (upto_none s a b _ (U.out _ _)).mono ?_
  rintro e w1 ⟨rfl, hb1⟩
  go_wp2_with fail
  refine (upto_none s (a - l) (9223372036854700000 + m) _ (U.out _ _)).mono ?_
  rintro e w2 ⟨rfl, hb2⟩
  go_wp2_with fail
  refine (upto_none s 1 0 _ (U.out _ _)).mono ?_
  rintro e w3 ⟨rfl, hb3⟩
  go_wp2_with fail
  refine (upto_none s _ _ _ (U.out _ _)).mono ?_
  rintro e w4 ⟨rfl, hb4⟩
  go_wp2_with fail
  refine (refparse_none s _ H.out).mono ?_
  rintro e w5 ⟨c, ⟨rfl, _, _⟩, hb5⟩
  go_wp2_with fail
  refine (known_calls _).mono ?_
  rintro e w6 ⟨rfl, hb6⟩
  go_wp2
  go_ret
  exact ⟨rfl, below_then (below_then (below_then (below_then (below_then hb1 hb2) hb3) hb4) hb5) hb6⟩

set_option maxHeartbeats 1000000 in
theorem bounds_01_00 (s : ByteArray) (a b l m n : Int) (hs : ¬ 100 < s.size) (a1 : -9223372036854775808 ≤ a) (a2 : a ≤ 9223372036854775807) (b1 : -9223372036854775808 ≤ b) (b2 : b ≤ 9223372036854775807) (l1 : 0 ≤ l) (l2 : l ≤ 65535) (m1 : 0 ≤ m) (m2 : m ≤ 65535) (c1 : -9223372036854700000 ≤ a) (c2 : 9223372036854700000 < b) (h : num? s.data.toList = some n)
    (u1 : upto? s.data.toList a b = none) (u2 : upto? s.data.toList (a - l) (9223372036854700000 + m) = none) (w : World) :
    Calls Try.prog 8 #[.string s, .int .i64 a, .int .i64 b, .int .u16 l, .int .u16 m] w fun e w' => e = .returned (.bool true) ∧ Below w.heap.size w w' := by
  have H := Lib.hid h
  have U1 := Lib.hid u1
  have U2 := Lib.hid u2
  have U3 := Lib.hid (upto_out (a := 1) (b := 0) h (by omega))
  have U4 := Lib.hid (upto_in (a := -9223372036854775808) (b := 9223372036854775807) h (num_some h).1 (num_some h).2.1)
  clear h u1 u2
  go_enter Try.func8, Try.ntmps8
  go_wp2_with fail
  refine (upto_none s a b _ U1.out).mono ?_
  rintro e w1 ⟨rfl, hb1⟩
  go_wp2_with fail
  refine (upto_none s (a - l) (9223372036854700000 + m) _ U2.out).mono ?_
  rintro e w2 ⟨rfl, hb2⟩
  go_wp2_with fail
  refine (upto_none s 1 0 _ U3.out).mono ?_
  rintro e w3 ⟨rfl, hb3⟩
  go_wp2_with fail
  refine (upto_yes s (-9223372036854775808) 9223372036854775807 n _ U4.out).mono ?_
  rintro e w4 ⟨rfl, hb4⟩
  go_wp2_with fail
  refine (refparse_some s _ n H.out).mono ?_
  rintro e w5 ⟨rfl, hb5⟩
  go_wp2_with fail
  refine (known_calls _).mono ?_
  rintro e w6 ⟨rfl, hb6⟩
  go_wp2
  go_ret
  exact ⟨rfl, below_then (below_then (below_then (below_then (below_then hb1 hb2) hb3) hb4) hb5) hb6⟩

set_option maxHeartbeats 1000000 in
theorem bounds_01_01 (s : ByteArray) (a b l m n : Int) (hs : ¬ 100 < s.size) (a1 : -9223372036854775808 ≤ a) (a2 : a ≤ 9223372036854775807) (b1 : -9223372036854775808 ≤ b) (b2 : b ≤ 9223372036854775807) (l1 : 0 ≤ l) (l2 : l ≤ 65535) (m1 : 0 ≤ m) (m2 : m ≤ 65535) (c1 : -9223372036854700000 ≤ a) (c2 : 9223372036854700000 < b) (h : num? s.data.toList = some n)
    (u1 : upto? s.data.toList a b = none) (u2 : upto? s.data.toList (a - l) (9223372036854700000 + m) = some n) (w : World) :
    Calls Try.prog 8 #[.string s, .int .i64 a, .int .i64 b, .int .u16 l, .int .u16 m] w fun e w' => e = .returned (.bool true) ∧ Below w.heap.size w w' := by
  have H := Lib.hid h
  have U1 := Lib.hid u1
  have U2 := Lib.hid u2
  have U3 := Lib.hid (upto_out (a := 1) (b := 0) h (by omega))
  have U4 := Lib.hid (upto_in (a := -9223372036854775808) (b := 9223372036854775807) h (num_some h).1 (num_some h).2.1)
  clear h u1 u2
  go_enter Try.func8, Try.ntmps8
  go_wp2_with fail
  refine (upto_none s a b _ U1.out).mono ?_
  rintro e w1 ⟨rfl, hb1⟩
  go_wp2_with fail
  refine (upto_yes s (a - l) (9223372036854700000 + m) n _ U2.out).mono ?_
  rintro e w2 ⟨rfl, hb2⟩
  go_wp2_with fail
  refine (upto_none s 1 0 _ U3.out).mono ?_
  rintro e w3 ⟨rfl, hb3⟩
  go_wp2_with fail
  refine (upto_yes s (-9223372036854775808) 9223372036854775807 n _ U4.out).mono ?_
  rintro e w4 ⟨rfl, hb4⟩
  go_wp2_with fail
  refine (refparse_some s _ n H.out).mono ?_
  rintro e w5 ⟨rfl, hb5⟩
  go_wp2_with fail
  refine (known_calls _).mono ?_
  rintro e w6 ⟨rfl, hb6⟩
  go_wp2
  go_ret
  exact ⟨rfl, below_then (below_then (below_then (below_then (below_then hb1 hb2) hb3) hb4) hb5) hb6⟩

set_option maxHeartbeats 1000000 in
theorem bounds_01_10 (s : ByteArray) (a b l m n : Int) (hs : ¬ 100 < s.size) (a1 : -9223372036854775808 ≤ a) (a2 : a ≤ 9223372036854775807) (b1 : -9223372036854775808 ≤ b) (b2 : b ≤ 9223372036854775807) (l1 : 0 ≤ l) (l2 : l ≤ 65535) (m1 : 0 ≤ m) (m2 : m ≤ 65535) (c1 : -9223372036854700000 ≤ a) (c2 : 9223372036854700000 < b) (h : num? s.data.toList = some n)
    (u1 : upto? s.data.toList a b = some n) (u2 : upto? s.data.toList (a - l) (9223372036854700000 + m) = none) (w : World) :
    Calls Try.prog 8 #[.string s, .int .i64 a, .int .i64 b, .int .u16 l, .int .u16 m] w fun e w' => e = .returned (.bool true) ∧ Below w.heap.size w w' := by
  have H := Lib.hid h
  have U1 := Lib.hid u1
  have U2 := Lib.hid u2
  have U3 := Lib.hid (upto_out (a := 1) (b := 0) h (by omega))
  have U4 := Lib.hid (upto_in (a := -9223372036854775808) (b := 9223372036854775807) h (num_some h).1 (num_some h).2.1)
  clear h u1 u2
  go_enter Try.func8, Try.ntmps8
  go_wp2_with fail
  refine (upto_yes s a b n _ U1.out).mono ?_
  rintro e w1 ⟨rfl, hb1⟩
  go_wp2_with fail
  refine (upto_none s (a - l) (9223372036854700000 + m) _ U2.out).mono ?_
  rintro e w2 ⟨rfl, hb2⟩
  go_wp2_with fail
  refine (upto_none s 1 0 _ U3.out).mono ?_
  rintro e w3 ⟨rfl, hb3⟩
  go_wp2_with fail
  refine (upto_yes s (-9223372036854775808) 9223372036854775807 n _ U4.out).mono ?_
  rintro e w4 ⟨rfl, hb4⟩
  go_wp2_with fail
  refine (refparse_some s _ n H.out).mono ?_
  rintro e w5 ⟨rfl, hb5⟩
  go_wp2_with fail
  refine (known_calls _).mono ?_
  rintro e w6 ⟨rfl, hb6⟩
  go_wp2
  go_ret
  exact ⟨rfl, below_then (below_then (below_then (below_then (below_then hb1 hb2) hb3) hb4) hb5) hb6⟩

set_option maxHeartbeats 1000000 in
theorem bounds_01_11 (s : ByteArray) (a b l m n : Int) (hs : ¬ 100 < s.size) (a1 : -9223372036854775808 ≤ a) (a2 : a ≤ 9223372036854775807) (b1 : -9223372036854775808 ≤ b) (b2 : b ≤ 9223372036854775807) (l1 : 0 ≤ l) (l2 : l ≤ 65535) (m1 : 0 ≤ m) (m2 : m ≤ 65535) (c1 : -9223372036854700000 ≤ a) (c2 : 9223372036854700000 < b) (h : num? s.data.toList = some n)
    (u1 : upto? s.data.toList a b = some n) (u2 : upto? s.data.toList (a - l) (9223372036854700000 + m) = some n) (w : World) :
    Calls Try.prog 8 #[.string s, .int .i64 a, .int .i64 b, .int .u16 l, .int .u16 m] w fun e w' => e = .returned (.bool true) ∧ Below w.heap.size w w' := by
  have H := Lib.hid h
  have U1 := Lib.hid u1
  have U2 := Lib.hid u2
  have U3 := Lib.hid (upto_out (a := 1) (b := 0) h (by omega))
  have U4 := Lib.hid (upto_in (a := -9223372036854775808) (b := 9223372036854775807) h (num_some h).1 (num_some h).2.1)
  clear h u1 u2
  go_enter Try.func8, Try.ntmps8
  go_wp2_with fail
  refine (upto_yes s a b n _ U1.out).mono ?_
  rintro e w1 ⟨rfl, hb1⟩
  go_wp2_with fail
  refine (upto_yes s (a - l) (9223372036854700000 + m) n _ U2.out).mono ?_
  rintro e w2 ⟨rfl, hb2⟩
  go_wp2_with fail
  refine (upto_none s 1 0 _ U3.out).mono ?_
  rintro e w3 ⟨rfl, hb3⟩
  go_wp2_with fail
  refine (upto_yes s (-9223372036854775808) 9223372036854775807 n _ U4.out).mono ?_
  rintro e w4 ⟨rfl, hb4⟩
  go_wp2_with fail
  refine (refparse_some s _ n H.out).mono ?_
  rintro e w5 ⟨rfl, hb5⟩
  go_wp2_with fail
  refine (known_calls _).mono ?_
  rintro e w6 ⟨rfl, hb6⟩
  go_wp2
  go_ret
  exact ⟨rfl, below_then (below_then (below_then (below_then (below_then hb1 hb2) hb3) hb4) hb5) hb6⟩

end Dg
end Go.Proofs.Ytlgdalgbonlelaa
