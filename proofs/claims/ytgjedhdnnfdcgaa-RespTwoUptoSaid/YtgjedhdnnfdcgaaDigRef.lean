/-
  What the document's own Print answers, in any world.
-/
import Derived.Test.YtgjedhdnnfdcgaaDigParse
namespace Go.Proofs.Ytgjedhdnnfdcgaa
open Go.RowKit
namespace Dg

theorem dig_conv (w : World) (n : Int) (h1 : 0 ≤ n) (h2 : n < 10) :
    (convert 23 9 (.slice (some ⟨w.heap.size, 0, none⟩) 1 1)).run Try.prog (w.alloc (.cells #[Value.int IntKind.u8 (48 + n)] 5)) = .ok (.string ⟨(txt n).toArray⟩) (w.alloc (.cells #[Value.int IntKind.u8 (48 + n)] 5)) := by
  have e : txt n = [dig n.toNat] := by
    unfold txt; rw [if_neg (by omega), dec_lt (by omega)]
    congr 2; omega
  rw [e]
  refine run_convert_bytes_back _ 23 9 5 ⟨w.heap.size, 0, none⟩ 1 [dig n.toNat] Try.underlying23 Try.underlying5 Try.underlying9 fun j hj => ?_
  obtain rfl : j = 0 := by simpa using hj
  rw [Addr.add_lit, cell_of_row _ _ _ _ _ _ (heap_alloc_new _ _)]
  have hd := dig_toNat n.toNat
  have : (((dig n.toNat).toNat : Nat) : Int) = 48 + n := by omega
  simp [this]

set_option maxHeartbeats 400000 in
theorem refprint_dig (n : Int) (w : World) (h1 : 0 ≤ n) (h2 : n < 10) :
    Calls Try.prog 33 #[.int .i64 n] w fun e w' => e = .returned (.string ⟨(txt n).toArray⟩) ∧ Below w.heap.size w w' := by
  go_enter Try.func33, Try.ntmps33
  go_wp2
  rw [dig_conv w n h1 h2]
  go_wp2
  go_ret
  exact ⟨rfl, (Below.refl _ _).alloc (Nat.le_refl _) _⟩

theorem txt_ten (n : Int) (h : 10 ≤ n) : txt n = txt (n / 10) ++ txt (n % 10) := by
  unfold txt
  rw [if_neg (by omega), if_neg (by omega), if_neg (by omega), dec_ge (by omega), dec_lt (n := (n % 10).natAbs) (by omega)]
  have e1 : (n / 10).natAbs = n.natAbs / 10 := by omega
  have e2 : dig (n % 10).natAbs = dig n.natAbs := by
    unfold dig; congr 2; omega
  rw [e1, e2]
theorem txt_neg1 (n : Int) (h : n < 0) : txt n = 45 :: txt (-n) := by
  unfold txt
  rw [if_pos h, if_neg (by omega)]
  congr 2; omega
theorem txt_mten (n : Int) (h : n ≤ -10) : txt n = txt (n.tdiv 10) ++ txt (-(n.tmod 10)) := by
  obtain ⟨m, rfl⟩ : ∃ m : Int, n = -m := ⟨-n, by omega⟩
  have e1 : (-m).tdiv 10 = -(m / 10) := by rw [Int.neg_tdiv, Int.tdiv_eq_ediv_of_nonneg (by omega)]
  have e2 : -((-m).tmod 10) = m % 10 := by rw [Int.neg_tmod, Int.tmod_eq_emod_of_nonneg (by omega)]; omega
  rw [e1, e2, txt_neg1 (-m) (by omega), txt_neg1 (-(m / 10)) (by omega), Int.neg_neg, Int.neg_neg, txt_ten m (by omega)]
  rfl

theorem ret_cat {l x y : List UInt8} (h : l = x ++ y) : Ending.returned (.string (ByteArray.mk x.toArray ++ ByteArray.mk y.toArray)) = .returned (.string ⟨l.toArray⟩) := by
  rw [ByteArray.mk_append_mk, h]
theorem mten_bd (n : Int) (k : Nat) (h : n ≤ -10) (h1 : -9223372036854775808 ≤ n) (hk : n.natAbs < k + 1) : -9223372036854775808 ≤ n.tdiv 10 ∧ n.tdiv 10 ≤ 0 ∧ (n.tdiv 10).natAbs < k ∧ 0 ≤ -(n.tmod 10) ∧ -(n.tmod 10) < 10 := by
  obtain ⟨m, rfl⟩ : ∃ m : Int, n = -m := ⟨-n, by omega⟩
  have e1 : (-m).tdiv 10 = -(m / 10) := by rw [Int.neg_tdiv, Int.tdiv_eq_ediv_of_nonneg (by omega)]
  have e2 : -((-m).tmod 10) = m % 10 := by rw [Int.neg_tmod, Int.tmod_eq_emod_of_nonneg (by omega)]; omega
  rw [e1, e2]
  omega

set_option maxHeartbeats 400000 in
theorem refprint_calls (k : Nat) : ∀ (n : Int) (w : World), n.natAbs < k → -9223372036854775808 ≤ n → n ≤ 9223372036854775807 →
    Calls Try.prog 33 #[.int .i64 n] w fun e w' => e = .returned (.string ⟨(txt n).toArray⟩) ∧ Below w.heap.size w w' := by
  induction k with
  | zero => intro n w h; omega
  | succ k ih0 =>
    intro n w hk h1 h2
    have ih := Lib.hid ih0
    clear ih0
    by_cases c1 : 0 ≤ n
    · by_cases c2 : n < 10
      · exact refprint_dig n w c1 c2
      · have E := Lib.hid (txt_ten n (by omega))
        have l1 := (txt_len (n / 10) (by omega) (by omega)).1
        have l2 := (txt_len (n % 10) (by omega) (by omega)).1
        go_enter Try.func33, Try.ntmps33
        go_wp2_with fail
        refine (ih.out (n / 10) _ (by omega) (by omega) (by omega)).mono ?_
        rintro e w1 ⟨rfl, hb1⟩
        go_wp2_with fail
        refine (refprint_dig (n % 10) _ (by omega) (by omega)).mono ?_
        rintro e w2 ⟨rfl, hb2⟩
        go_wp2
        go_ret
        exact ⟨ret_cat E.out, below_then hb1 hb2⟩
    · by_cases c2 : -10 < n
      · have E := Lib.hid (txt_neg1 n (by omega))
        have l1 := (txt_len (-n) (by omega) (by omega)).1
        go_enter Try.func33, Try.ntmps33
        go_wp2_with fail
        refine (refprint_dig (-n) _ (by omega) (by omega)).mono ?_
        rintro e w1 ⟨rfl, hb1⟩
        go_wp2
        go_ret
        exact ⟨ret_cat (x := [45]) E.out, hb1⟩
      · have E := Lib.hid (txt_mten n (by omega))
        have q1 : -9223372036854775808 ≤ n.tdiv 10 ∧ n.tdiv 10 ≤ 0 ∧ (n.tdiv 10).natAbs < k ∧ 0 ≤ -(n.tmod 10) ∧ -(n.tmod 10) < 10 := mten_bd n k (by omega) h1 hk
        obtain ⟨q1, q2, q3, q4, q5⟩ := q1
        have l1 := (txt_len (n.tdiv 10) (by omega) (by omega)).1
        have l2 := (txt_len (-(n.tmod 10)) (by omega) (by omega)).1
        go_enter Try.func33, Try.ntmps33
        go_wp2_with fail
        refine (ih.out (n.tdiv 10) _ q3 (by omega) (by omega)).mono ?_
        rintro e w1 ⟨rfl, hb1⟩
        go_wp2_with fail
        refine (refprint_dig (-(n.tmod 10)) _ (by omega) (by omega)).mono ?_
        rintro e w2 ⟨rfl, hb2⟩
        go_wp2
        go_ret
        exact ⟨ret_cat E.out, below_then hb1 hb2⟩

theorem refprint (n : Int) (w : World) (h1 : -9223372036854775808 ≤ n) (h2 : n ≤ 9223372036854775807) :
    Calls Try.prog 33 #[.int .i64 n] w fun e w' => e = .returned (.string ⟨(txt n).toArray⟩) ∧ Below w.heap.size w w' :=
  refprint_calls (n.natAbs + 1) n w (by omega) h1 h2

end Dg
end Go.Proofs.Ytgjedhdnnfdcgaa
