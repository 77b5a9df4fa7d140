/-
  The walk of VarsEnds.
-/
import Derived.Test.YtekjohgnfplfjaaVarSums
namespace Go.Proofs.Ytekjohgnfplfjaa.Va
open Go.RowKit

section
variable {n e now : Int}
theorem live_y (h : isLive now (akey, n, e) = true) : live [(akey, n, e)] now = [(akey, n, e)] := by simp [live, h]
theorem live_n (h : isLive now (akey, n, e) = false) : live [(akey, n, e)] now = [] := by simp [live, h]
theorem fnd_y (h : isLive now (akey, n, e) = true) : fnd [(akey, n, e)] akey now = some (akey, n, e) := by simp [fnd, live_y h]
theorem fnd_n (h : isLive now (akey, n, e) = false) : fnd [(akey, n, e)] akey now = none := by simp [fnd, live_n h]
theorem has_y (h : isLive now (akey, n, e) = true) : has [(akey, n, e)] akey now = true := by simp [has, fnd_y h]
theorem has_n (h : isLive now (akey, n, e) = false) : has [(akey, n, e)] akey now = false := by simp [has, fnd_n h]
theorem getv_y (h : isLive now (akey, n, e) = true) : getv [(akey, n, e)] akey now = n := by simp [getv, fnd_y h]
theorem getv_n (h : isLive now (akey, n, e) = false) : getv [(akey, n, e)] akey now = 0 := by simp [getv, fnd_n h]
theorem endOf_y (h : isLive now (akey, n, e) = true) : endOf [(akey, n, e)] akey now = e := by simp [endOf, fnd_y h]
theorem left_y (h : isLive now (akey, n, e) = true) (he : ¬ e < 0) : left [(akey, n, e)] akey now = e - clamp now := by unfold left; rw [has_y h, if_pos rfl, endOf_y h, if_neg he]
theorem left_n (h : isLive now (akey, n, e) = false) : left [(akey, n, e)] akey now = 0 := by unfold left; rw [has_n h, if_neg (by simp)]
theorem wi_y (m e2 : Int) : wi [(akey, n, e)] (akey, m, e2) = [(akey, m, e2)] := by simp [wi, wo, ins]
theorem exp_y (h : isLive now (akey, n, e) = true) (last : Int) : exp [(akey, n, e)] akey last now = [(akey, n, later now last)] := by
  unfold exp
  rw [has_y h, if_pos rfl, getv_y h, wi_y]
theorem full_y (h : isLive now (akey, n, e) = true) (room : Nat) : full room [(akey, n, e)] akey now = false := by unfold full; rw [has_y h]; rfl
theorem full_n (h : isLive now (akey, n, e) = false) {room : Nat} (hr : 0 < room) : full room [(akey, n, e)] akey now = false := by
  unfold full
  rw [has_n h, live_n h]
  simp; omega
theorem set_y (h : isLive now (akey, n, e) = true) (room : Nat) (m : Int) : set room [(akey, n, e)] akey m now = ([(akey, m, -1)], 0) := by
  unfold set kept
  rw [full_y h, if_neg (by simp), has_y h, if_pos rfl, wi_y]
theorem set_n (h : isLive now (akey, n, e) = false) {room : Nat} (hr : 0 < room) (m : Int) : set room [(akey, n, e)] akey m now = ([(akey, m, -1)], 0) := by
  unfold set kept
  rw [full_n h hr, if_neg (by simp), has_n h, if_neg (by simp), live_n h]
  simp [wi, wo, ins]
theorem add_y (h : isLive now (akey, n, e) = true) (room : Nat) (m : Int) : add room [(akey, n, e)] akey m now = if inR (n + m) = true then ([(akey, n + m, e)], n + m, 0) else ([(akey, n, e)], 0, 6) := by
  unfold add
  rw [getv_y h]
  by_cases hr : inR (n + m) = true
  · rw [if_neg (by simp [hr]), if_pos hr, if_neg (by rw [full_y h]; simp)]
    unfold kept
    rw [has_y h, if_pos rfl, endOf_y h, wi_y]
  · rw [if_pos (by simpa using hr), if_neg hr]
end
theorem clamp_in {x : Int} (h : 0 ≤ x) (h2 : x ≤ 9007199254740992) : clamp x = x := by unfold clamp; omega
theorem later_in {x d : Int} (h : 0 ≤ x) (h2 : x + d ≤ 9007199254740992) (hd : 0 ≤ d) : later x d = x + d := by unfold later clamp; omega
theorem live_at {x n e : Int} (h : 0 ≤ x) (h2 : x ≤ 9007199254740992) (he : 0 ≤ e) : isLive x (akey, n, e) = decide (x < e) := by
  unfold isLive
  rw [clamp_in h h2]
  simp; omega

set_option maxRecDepth 100000 in
set_option maxHeartbeats 4000000 in
theorem ends_law (C : VC) (n more T D K : Int) (hn : I64 n) (hm : I64 more) (hT : 0 ≤ T ∧ T < 4294967296) (hD : 0 ≤ D ∧ D < 4294967296) (hK : 0 ≤ K ∧ K < 4294967296) (w : World) :
    Calls Try.prog 3 #[.int .i64 n, .int .i64 more, .int .u32 T, .int .u32 D, .int .u32 K] w fun e w' => e = .returned (.bool true) ∧ Below w.heap.size w w' := by
  have HN := Lib.hid hn
  have HM := Lib.hid hm
  clear hn hm
  obtain ⟨X, eX⟩ : ∃ X, X = T + K := ⟨_, rfl⟩
  obtain ⟨Z, eZ⟩ : ∃ Z, Z = T + D := ⟨_, rfl⟩
  have hX : 0 ≤ X ∧ X < 8589934592 ∧ 0 ≤ Z ∧ Z < 8589934592 ∧ T ≤ X := by omega
  have eX2 : T + K = X := eX.symm
  have eZ2 : T + D = Z := eZ.symm
  have hlive : isLive T (akey, n, -1) = true := live_none _ _ _
  have hl2 := live_at (x := X) (n := n) (e := Z) (by omega) (by omega) (by omega)
  have HLater := Lib.hid (later_in (x := T) (d := D) (by omega) (by omega) (by omega))
  have HL := Lib.hid hlive
  clear eX eZ hlive
  go_enter Try.func3, Try.ntmps3
  go_wp2_with fail
  refine (mNew (C := C) 5 (by omega) (Below.refl w.heap.size w)).mono ?_
  rintro e w1 ⟨v, rfl, h1⟩
  have H1 : Hid (Mine C w w1 v 5 []) := Lib.hid h1
  clear h1
  go_wp2_with fail
  refine (mSet H1.out akey n T (by decide) HN.out (by omega)).mono ?_
  rw [set_new 5 (by omega)]
  rintro e w2 ⟨rfl, h2⟩
  have H2 := Lib.hid h2
  clear h2 H1
  go_wp2_with fail
  refine (mExp H2.out akey D T (by decide) (by omega) (by omega)).mono ?_
  rw [exp_y HL.out, has_y HL.out, HLater.out, eZ2]
  rintro e w3 ⟨rfl, h3⟩
  have H3 := Lib.hid h3
  clear h3 H2
  go_wp2_with fail
  refine (mGet H3.out akey X (by decide) (by omega)).mono ?_
  by_cases hxz : X < Z
  · rw [decide_eq_true hxz] at hl2
    have HL2 := Lib.hid hl2
    clear hl2
    rw [getv_y HL2.out, has_y HL2.out]
    rintro e w4 ⟨rfl, h4, -⟩
    have H4 := Lib.hid h4
    clear h4 H3
    go_wp2_with fail
    refine (mLeft H4.out akey X (by decide) (by omega)).mono ?_
    rw [left_y HL2.out (by omega), has_y HL2.out, clamp_in (by omega) (by omega)]
    rintro e w5 ⟨rfl, h5, -⟩
    have H5 := Lib.hid h5
    clear h5 H4
    have t1 : decide (X < Z) = true := decide_eq_true hxz
    go_wp2_with fail
    refine (mAdd H5.out akey more X (by decide) HM.out (by omega)).mono ?_
    rw [add_y HL2.out]
    have HL3 : ∀ m, Hid (isLive X (akey, m, Z) = true) := fun m => Lib.hid (by rw [live_at (by omega) (by omega) (by omega)]; exact t1)
    have HL4 : ∀ m, Hid (isLive X (akey, m, X) = false) := fun m => Lib.hid (by rw [live_at (by omega) (by omega) (by omega)]; simp)
    have HLa := Lib.hid (later_in (x := X) (d := 0) (by omega) (by omega) (by omega))
    have tail : ∀ (m : Int) (wx : World), Mine C w wx v 5 [(akey, m, Z)] →
        Calls Try.prog 8 #[.pointer (some ⟨v, 0, none⟩), .string akey, .int .i64 7, .int .i64 X] wx fun e w' => e = .returned (.int .i64 0) ∧ Mine C w w' v 5 [(akey, 7, -1)] := fun m wx h => by
      refine (mSet h akey 7 X (by decide) (by omega) (by omega)).mono ?_
      rw [set_y (HL3 m).out]
      exact fun _ _ h => h
    cases hr : inR (n + more) with
    | true =>
      rw [if_pos rfl]
      have hs := of_decide_eq_true hr
      have ew : wrap64 (n + more) = n + more := by unfold wrap64; omega
      clear hs
      rintro e w6 ⟨rfl, h6⟩
      have H6 := Lib.hid h6
      clear h6 H5
      go_wp2_with fail
      refine (mLeft H6.out akey X (by decide) (by omega)).mono ?_
      rw [left_y (HL3 _).out (by omega), has_y (HL3 _).out, clamp_in (by omega) (by omega)]
      rintro e w7 ⟨rfl, h7, -⟩
      have H7 := Lib.hid h7
      clear h7 H6
      go_wp2_with fail
      refine (tail _ _ H7.out).mono ?_
      rintro e w8 ⟨rfl, h8⟩
      have H8 := Lib.hid h8
      clear h8 H7
      go_wp2_with fail
      refine (mExp H8.out akey 0 X (by decide) (by omega) (by omega)).mono ?_
      rw [exp_y (live_none _ _ _), has_y (live_none _ _ _), HLa.out, Int.add_zero]
      rintro e w9 ⟨rfl, h9⟩
      have H9 := Lib.hid h9
      clear h9 H8
      go_wp2_with fail
      refine (mLen H9.out X (by omega)).mono ?_
      rw [live_n (HL4 _).out]
      rintro e w10 ⟨rfl, h10, -⟩
      have H10 := Lib.hid h10
      clear h10 H9
      go_wp2_with fail
      refine (mDel H10.out akey X (by decide) (by omega)).mono ?_
      rw [has_n (HL4 _).out]
      rintro e w11 ⟨rfl, h11⟩
      have H11 := Lib.hid h11
      clear h11 H10
      go_wp2_with fail
      refine (known_calls C _).mono ?_
      rintro e w12 ⟨rfl, hb⟩
      have H12 := Lib.hid (H11.out.below hb)
      clear hb
      go_wp2_with fail
      go_ret
      exact ⟨rfl, H12.out.1⟩
    | false =>
      rw [if_neg (by simp)]
      rintro e w6 ⟨rfl, h6⟩
      have H6 := Lib.hid h6
      clear h6 H5
      go_wp2_with fail
      refine (mLeft H6.out akey X (by decide) (by omega)).mono ?_
      rw [left_y HL2.out (by omega), has_y HL2.out, clamp_in (by omega) (by omega)]
      rintro e w7 ⟨rfl, h7, -⟩
      have H7 := Lib.hid h7
      clear h7 H6
      go_wp2_with fail
      refine (tail _ _ H7.out).mono ?_
      rintro e w8 ⟨rfl, h8⟩
      have H8 := Lib.hid h8
      clear h8 H7
      go_wp2_with fail
      refine (mExp H8.out akey 0 X (by decide) (by omega) (by omega)).mono ?_
      rw [exp_y (live_none _ _ _), has_y (live_none _ _ _), HLa.out, Int.add_zero]
      rintro e w9 ⟨rfl, h9⟩
      have H9 := Lib.hid h9
      clear h9 H8
      go_wp2_with fail
      refine (mLen H9.out X (by omega)).mono ?_
      rw [live_n (HL4 _).out]
      rintro e w10 ⟨rfl, h10, -⟩
      have H10 := Lib.hid h10
      clear h10 H9
      go_wp2_with fail
      refine (mDel H10.out akey X (by decide) (by omega)).mono ?_
      rw [has_n (HL4 _).out]
      rintro e w11 ⟨rfl, h11⟩
      have H11 := Lib.hid h11
      clear h11 H10
      go_wp2_with fail
      refine (known_calls C _).mono ?_
      rintro e w12 ⟨rfl, hb⟩
      have H12 := Lib.hid (H11.out.below hb)
      clear hb
      go_wp2_with fail
      go_ret
      exact ⟨rfl, H12.out.1⟩
  · rw [decide_eq_false (show ¬ X < Z by omega)] at hl2
    have HL2 := Lib.hid hl2
    clear hl2
    rw [getv_n HL2.out, has_n HL2.out]
    rintro e w4 ⟨rfl, h4, -⟩
    have H4 := Lib.hid h4
    clear h4 H3
    go_wp2_with fail
    refine (mLeft H4.out akey X (by decide) (by omega)).mono ?_
    rw [left_n HL2.out, has_n HL2.out]
    rintro e w5 ⟨rfl, h5, -⟩
    have H5 := Lib.hid h5
    clear h5 H4
    have t1 : decide (X < Z) = false := decide_eq_false (by omega)
    go_wp2_with fail
    refine (mLen H5.out X (by omega)).mono ?_
    rw [live_n HL2.out]
    rintro e w6 ⟨rfl, h6, -⟩
    have H6 := Lib.hid h6
    clear h6 H5
    go_wp2_with fail
    refine (mSet H6.out akey more X (by decide) HM.out (by omega)).mono ?_
    rw [set_n HL2.out (by omega)]
    rintro e w7 ⟨rfl, h7⟩
    have H7 := Lib.hid h7
    clear h7 H6
    go_wp2_with fail
    refine (mLen H7.out (X + 1000000) (by omega)).mono ?_
    rw [live_y (live_none _ _ _)]
    rintro e w8 ⟨rfl, h8, -⟩
    have H8 := Lib.hid h8
    clear h8 H7
    go_wp2_with fail
    refine (known_calls C _).mono ?_
    rintro e w12 ⟨rfl, hb⟩
    have H12 := Lib.hid (H8.out.below hb)
    clear hb
    go_wp2_with fail
    go_ret
    exact ⟨rfl, H12.out.1⟩
end Go.Proofs.Ytekjohgnfplfjaa.Va
