/-
  The walk of VarsOrder.
-/
import Derived.Test.YtekjohgnfplfjaaVarP
import Derived.Lib.SlicesS
import Derived.BigQuiet
namespace Go.Proofs.Ytekjohgnfplfjaa.Va
open Go.RowKit

theorem live_rising {room : Nat} {L : VL} (h : Good room L) (now : Int) : Rising (live L now) := h.rise.filter _
theorem rising_step {L : VL} (h : Rising L) {i : Nat} (hi : i + 1 < L.length) : (Op.bytesLess L[i + 1].1.toList L[i].1.toList || L[i + 1].1.toList == L[i].1.toList) = false := by
  have h1 := List.pairwise_iff_getElem.1 h i (i + 1) (by omega) hi (by omega)
  have h2 := lt_asymm h1
  have h3 := lt_ne h1
  unfold lt at h2
  rw [h2]
  simp only [Bool.false_or, beq_eq_false_iff_ne, ne_eq]
  intro e
  rw [Lib.toList_data, Lib.toList_data] at e
  exact h3 (ba_ext e).symm
theorem has_live {L : VL} {now : Int} {i : Nat} (hi : i < (live L now).length) : has L (live L now)[i].1 now = true := by
  have h := mem_live.1 (List.getElem_mem hi)
  exact has_iff.2 ⟨_, h.1, h.2, rfl⟩
/-- is a key among the first ones? -/
def among (L : VL) (key : ByteArray) (k : Nat) : Bool := (L.take k).any fun x => x.1.toList == key.toList
theorem among_zero (L : VL) (key : ByteArray) : among L key 0 = false := by simp [among]
theorem among_succ {L : VL} {key : ByteArray} {k : Nat} (h : k < L.length) : among L key (k + 1) = (among L key k || (L[k].1.toList == key.toList)) := by
  unfold among
  rw [List.take_succ_eq_append_getElem h, List.any_append]
  simp
theorem among_all {L : VL} {key : ByteArray} {now : Int} : among (live L now) key (live L now).length = has L key now := by
  unfold among
  rw [List.take_length]
  have h : ((live L now).any fun x => x.1.toList == key.toList) = true ↔ has L key now = true := by
    rw [List.any_eq_true, has_iff]
    constructor
    · rintro ⟨x, h1, h2⟩
      exact ⟨x, (mem_live.1 h1).1, (mem_live.1 h1).2, (Lib.bytes_beq_iff _ _).1 h2⟩
    · rintro ⟨x, h1, h2, h3⟩
      exact ⟨x, mem_live.2 ⟨h1, h2⟩, (Lib.bytes_beq_iff _ _).2 h3⟩
  exact Bool.eq_iff_iff.2 h

set_option maxRecDepth 100000 in
set_option maxHeartbeats 4000000 in
theorem order_law (C : VC) (A B : Option Addr) (cap cap2 : Nat) (L M : List Act) (key : ByteArray) (now : Int) (w : World) (hD : Dos w A L) (hK : Keyed L) (hZ : L.length ≤ maxLen) (hE : Dos w B M) (hJ : Keyed M) (hY : M.length ≤ maxLen) (hn : I64 now) (hkey : key.size ≤ maxLen) :
    Calls Try.prog 6 #[.slice A L.length cap, .slice B M.length cap2, .string key, .int .i64 now] w fun e w' => e = .returned (.bool true) ∧ Below w.heap.size w w' := by
  have hZ2 : L.length ≤ 9223372036854775807 := by unfold maxLen at hZ; omega
  have hY2 : M.length ≤ 9223372036854775807 := by unfold maxLen at hY; omega
  clear hZ hY
  have HD := Lib.hid hD
  have HK := Lib.hid hK
  have HE := Lib.hid hE
  have HJ := Lib.hid hJ
  have HN := Lib.hid hn
  have HKEY := Lib.hid hkey
  clear hD hK hE hJ hn hkey
  by_cases hL : 40 < L.length
  · have t1 : decide ((40 : Int) < (L.length : Int)) = true := decide_eq_true (by omega)
    go_enter Try.func6, Try.ntmps6
    go_wp2_with fail
    refine (known_calls C _).mono ?_
    rintro e w8 ⟨rfl, hb8⟩
    go_wp2_with fail
    go_ret
    exact ⟨rfl, hb8⟩
  by_cases hM : 40 < M.length
  · have t1 : decide ((40 : Int) < (L.length : Int)) = false := decide_eq_false (by omega)
    have t2 : decide ((40 : Int) < (M.length : Int)) = true := decide_eq_true (by omega)
    go_enter Try.func6, Try.ntmps6
    go_wp2_with fail
    refine (known_calls C _).mono ?_
    rintro e w8 ⟨rfl, hb8⟩
    go_wp2_with fail
    go_ret
    exact ⟨rfl, hb8⟩
  have t1 : decide ((40 : Int) < (L.length : Int)) = false := decide_eq_false (by omega)
  have t2 : decide ((40 : Int) < (M.length : Int)) = false := decide_eq_false (by omega)
  go_enter Try.func6, Try.ntmps6
  go_wp2_with fail
  refine (Long_calls A cap L w HD.out (by omega)).mono ?_
  rintro e w1 ⟨⟨m1, rfl⟩, hb1⟩
  have B1 := Lib.hid hb1
  clear hb1
  go_wp2_with fail
  refine (Long_calls B cap2 M w1 (HE.out.keep B1.out) (by omega)).mono ?_
  rintro e w2 ⟨⟨m2, rfl⟩, hb2⟩
  have B2 : Hid (Below w.heap.size w w2) := Lib.hid (B1.out.trans (hb2.mono B1.out.size))
  clear hb2 B1
  obtain ⟨b, hb⟩ : ∃ b, decide (900 < wrap64 (m1 + m2)) = b := ⟨_, rfl⟩
  cases b with
  | true =>
    go_wp2_with fail
    refine (known_calls C _).mono ?_
    rintro e w8 ⟨rfl, hb8⟩
    go_wp2_with fail
    go_ret
    exact ⟨rfl, B2.out.trans (hb8.mono B2.out.size)⟩
  | false =>
    by_cases hks : 100 < key.size
    · have t3 : decide ((100 : Int) < (key.size : Int)) = true := decide_eq_true (by omega)
      go_wp2_with fail
      refine (known_calls C _).mono ?_
      rintro e w8 ⟨rfl, hb8⟩
      go_wp2_with fail
      go_ret
      exact ⟨rfl, B2.out.trans (hb8.mono B2.out.size)⟩
    have t3 : decide ((100 : Int) < (key.size : Int)) = false := decide_eq_false (by omega)
    go_wp2_with fail
    refine (C.new_ 30 w2 (by omega)).mono ?_
    rintro e w3 ⟨va, o1, rfl, a1, b1, l1⟩
    have e30 : clipR 30 = 30 := rfl
    rw [e30] at a1
    have A1 := Lib.hid (And.intro a1 (And.intro b1 l1))
    clear a1 b1 l1
    go_wp2_with fail
    refine (C.new_ 30 w3 (by omega)).mono ?_
    rintro e w4 ⟨vb, o2, rfl, a2, b2, l2⟩
    rw [e30] at a2
    have A2 := Lib.hid (And.intro a2 (And.intro b2 l2))
    clear a2 b2 l2
    go_wp2_with fail
    refine (C.new_ 30 w4 (by omega)).mono ?_
    rintro e w5 ⟨vc, o3, rfl, a3, b3, l3⟩
    rw [e30] at a3
    have T5 : Hid (Three C w w5 va vb vc 30 [] [] []) := Lib.hid (by
      obtain ⟨a1, b1, l1⟩ := A1.out
      obtain ⟨a2, b2, l2⟩ := A2.out
      have h0 : Below w.heap.size w w4 := (B2.out.trans (b1.mono B2.out.size)).trans (b2.mono (Nat.le_trans B2.out.size b1.size))
      exact Three.made o1 o2 o3 h0 (C.below a1 b2) a2 a3 b3 (fun x hx => Nat.le_trans B2.out.size (l1 x hx)) (fun x hx => Nat.le_trans (Nat.le_trans B2.out.size b1.size) (l2 x hx)) l3 (fun x hx hc => by have := (C.good a1).2.1 x hx; have := l2 x hc; omega))
    clear a3 b3 l3 A1 A2 B2
    go_wp2_with fail
    go_loopw [12] (fun i wr => ∃ k : Nat, k ≤ 40 ∧ i = .int .i64 (k : Nat) ∧ Hid (∃ p q, Three C w wr va vb vc 30 p q p)) (fun i _ => 41 - (intOf i).toNat)
    case atStart => exact ⟨0, by omega, rfl, _, _, T5.out⟩
    case round =>
      obtain ⟨k, hk, rfl, HM⟩ := hrel
      obtain ⟨p, q, hM0⟩ := HM.out
      have T6 := Lib.hid hM0
      clear HM hM0
      by_cases hM : k < M.length
      · by_cases hL : k < L.length
        · obtain ⟨b, rfl, c0, c1, c2, c3⟩ := (HE.out.keep T6.out.1).at_ hM
          have hkk := HJ.out M[k] (List.getElem_mem hM)
          generalize M[k] = d at c0 c1 c2 c3 hkk
          obtain ⟨kd, ky, nn, no⟩ := d
          simp only at c0 c1 c2 c3 hkk
          have HKK := Lib.hid hkk
          clear hkk
          go_wp2_with fail
          refine (T6.out.rot.did (kd, ky, nn, no) HKK.out.1 HKK.out.2.1 HKK.out.2.2).mono ?_
          rintro e w7 ⟨rfl, h7⟩
          generalize (stepV 30 q (kd, ky, nn, no)).1 = q2 at h7
          generalize (stepV 30 q (kd, ky, nn, no)).2.1 = x1
          generalize (stepV 30 q (kd, ky, nn, no)).2.2 = x2
          have T7 := Lib.hid h7.rot.rot
          clear h7 c0 c1 c2 c3 T6
          obtain ⟨a, rfl, c0, c1, c2, c3⟩ := (HD.out.keep T7.out.1).at_ hL
          have hkl := HK.out L[k] (List.getElem_mem hL)
          generalize eL : L[k] = dl at c0 c1 c2 c3 hkl
          obtain ⟨kd2, ky2, nn2, no2⟩ := dl
          simp only at c0 c1 c2 c3 hkl
          have HKL := Lib.hid hkl
          have EL := Lib.hid eL
          clear hkl eL
          go_wp2_with fail
          refine (T7.out.did (kd2, ky2, nn2, no2) HKL.out.1 HKL.out.2.1 HKL.out.2.2).mono ?_
          rintro e w8 ⟨rfl, h8⟩
          have T8 := Lib.hid h8
          clear h8 c0 c1 c2 c3 T7
          obtain ⟨a', ea, c0, c1, c2, c3⟩ := (HD.out.keep T8.out.1).at_ hL
          injection ea with ea
          subst ea
          rw [EL.out] at c0 c1 c2 c3
          simp only at c0 c1 c2 c3
          go_wp2_with fail
          refine (T8.out.rot.rot.did (kd2, ky2, nn2, no2) HKL.out.1 HKL.out.2.1 HKL.out.2.2).mono ?_
          rintro e w9 ⟨rfl, h9⟩
          generalize (stepV 30 p (kd2, ky2, nn2, no2)).1 = p2 at h9
          generalize (stepV 30 p (kd2, ky2, nn2, no2)).2.1 = y1
          generalize (stepV 30 p (kd2, ky2, nn2, no2)).2.2 = y2
          have T9 := Lib.hid h9.rot
          clear h9 c0 c1 c2 c3 T8
          go_wp2_with fail
          go_roundw
          case rel => exact ⟨k + 1, by omega, by go_num, _, _, T9.out⟩
          case measure => simp [intOf]; omega
        · obtain ⟨b, rfl, c0, c1, c2, c3⟩ := (HE.out.keep T6.out.1).at_ hM
          have hkk := HJ.out M[k] (List.getElem_mem hM)
          generalize M[k] = d at c0 c1 c2 c3 hkk
          obtain ⟨kd, ky, nn, no⟩ := d
          simp only at c0 c1 c2 c3 hkk
          have HKK := Lib.hid hkk
          clear hkk
          go_wp2_with fail
          refine (T6.out.rot.did (kd, ky, nn, no) HKK.out.1 HKK.out.2.1 HKK.out.2.2).mono ?_
          rintro e w7 ⟨rfl, h7⟩
          generalize (stepV 30 q (kd, ky, nn, no)).1 = q2 at h7
          generalize (stepV 30 q (kd, ky, nn, no)).2.1 = x1
          generalize (stepV 30 q (kd, ky, nn, no)).2.2 = x2
          have T7 := Lib.hid h7.rot.rot
          clear h7 c0 c1 c2 c3 T6
          go_wp2_with fail
          go_roundw
          case rel => exact ⟨k + 1, by omega, by go_num, _, _, T7.out⟩
          case measure => simp [intOf]; omega
      · by_cases hL : k < L.length
        · obtain ⟨a, rfl, c0, c1, c2, c3⟩ := (HD.out.keep T6.out.1).at_ hL
          have hkl := HK.out L[k] (List.getElem_mem hL)
          generalize eL : L[k] = dl at c0 c1 c2 c3 hkl
          obtain ⟨kd2, ky2, nn2, no2⟩ := dl
          simp only at c0 c1 c2 c3 hkl
          have HKL := Lib.hid hkl
          have EL := Lib.hid eL
          clear hkl eL
          go_wp2_with fail
          refine (T6.out.did (kd2, ky2, nn2, no2) HKL.out.1 HKL.out.2.1 HKL.out.2.2).mono ?_
          rintro e w8 ⟨rfl, h8⟩
          have T8 := Lib.hid h8
          clear h8 c0 c1 c2 c3 T6
          obtain ⟨a', ea, c0, c1, c2, c3⟩ := (HD.out.keep T8.out.1).at_ hL
          injection ea with ea
          subst ea
          rw [EL.out] at c0 c1 c2 c3
          simp only at c0 c1 c2 c3
          go_wp2_with fail
          refine (T8.out.rot.rot.did (kd2, ky2, nn2, no2) HKL.out.1 HKL.out.2.1 HKL.out.2.2).mono ?_
          rintro e w9 ⟨rfl, h9⟩
          generalize (stepV 30 p (kd2, ky2, nn2, no2)).1 = p2 at h9
          generalize (stepV 30 p (kd2, ky2, nn2, no2)).2.1 = y1
          generalize (stepV 30 p (kd2, ky2, nn2, no2)).2.2 = y2
          have T9 := Lib.hid h9.rot
          clear h9 c0 c1 c2 c3 T8
          go_wp2_with fail
          go_roundw
          case rel => exact ⟨k + 1, by omega, by go_num, _, _, T9.out⟩
          case measure => simp [intOf]; omega
        · have H6 := Lib.hid T6.out.fst
          clear T6
          go_wp2_with fail
          refine (mKeys H6.out now HN.out).mono ?_
          rintro e w7 ⟨A2, cap3, rfl, hr, h7, hb7⟩
          have hgood := h7.good
          have hfit := h7.fits
          have HGOOD := Lib.hid hgood
          have HFIT := Lib.hid hfit
          have H7 := Lib.hid h7
          have R7 := Lib.hid hr
          have HMAX := Lib.hid (hgood.live_len now)
          clear hr h7 hb7 H6 hgood hfit
          go_wp2_with fail
          go_loopw [18, 19] (fun b i wr => ∃ j : Nat, j ≤ (live p now).length ∧ b = .bool (among (live p now) key j) ∧ i = .int .i64 (j : Nat) ∧ Hid (Mine C w wr va 30 p ∧ ∃ B, SRow wr B (.slice A2 (live p now).length cap3) ((live p now).map (·.1)))) (fun _ i _ => (live p now).length - (intOf i).toNat)
          case atStart => exact ⟨0, Nat.zero_le _, by rw [among_zero], rfl, H7.out, _, R7.out⟩
          case round =>
            obtain ⟨j, hj, rfl, rfl, HJ2⟩ := hrel
            obtain ⟨hMj, Bj, hRj⟩ := HJ2.out
            have H8 := Lib.hid hMj
            have R8 := Lib.hid hRj
            clear HJ2 hMj hRj
            by_cases hlt : j < (live p now).length
            · obtain ⟨a2, rfl, hc⟩ := R8.out.texts.2.at_ (i := j) (by rw [List.length_map]; exact hlt)
              rw [List.getElem_map] at hc
              have hin := has_live hlt
              have hsz := (HFIT.out _ (mem_live.1 (List.getElem_mem hlt)).1).1
              have hprev : ∀ (i : Nat) (h : j = i + 1), (Op.bytesLess (live p now)[j].1.toList ((live p now)[i]'(by omega)).1.toList || (live p now)[j].1.toList == ((live p now)[i]'(by omega)).1.toList) = false := fun i hi => by
                subst hi
                exact rising_step (live_rising HGOOD.out now) hlt
              have hsucc := among_succ (key := key) hlt
              generalize eK : (live p now)[j].1 = kj at hc hin hsz hprev hsucc
              have HS := Lib.hid hsucc
              have HI := Lib.hid hin
              have HP := Lib.hid hprev
              have EK := Lib.hid eK
              clear hsucc hin hprev eK
              go_wp2_with fail
              refine (mGet H8.out kj now hsz HN.out).mono ?_
              rw [HI.out]
              rintro e w9 ⟨rfl, h9, hb9⟩
              have H9 := Lib.hid h9
              have R9 := Lib.hid (R8.out.below hb9)
              clear h9 hb9 hc H8 R8
              obtain ⟨a3, ea, hc⟩ := R9.out.texts.2.at_ (i := j) (by rw [List.length_map]; exact hlt)
              injection ea with ea
              subst ea
              rw [List.getElem_map, EK.out] at hc
              have hlen2 : (j : Int) < ((live p now).length : Int) := by omega
              have hj30 : j < 30 := Nat.lt_of_lt_of_le hlt HMAX.out
              by_cases hz : 0 < j
              · obtain ⟨i, hji⟩ : ∃ i, j = i + 1 := ⟨j - 1, by omega⟩
                obtain ⟨a4, ea, hc2⟩ := R9.out.texts.2.at_ (i := i) (by rw [List.length_map]; omega)
                injection ea with ea
                subst ea
                have hp := HP.out i hji
                rw [List.getElem_map] at hc2
                generalize ((live p now)[i]'(by omega)).1 = ki at hc2 hp
                clear HP
                have hi1 : (j : Int) - 1 = (i : Int) := by omega
                have hi2 : decide ((0 : Int) < (j : Int)) = true := decide_eq_true (by omega)
                have hi6 : decide (0 < j) = true := decide_eq_true (by omega)
                have hi7 : 0 < j := by omega
                have hi3 : (i : Int) < ((live p now).length : Int) := by omega
                have hi4 : ¬ ((i : Int) < 0) := by omega
                have hiw : IntKind.i64.wrap (i : Int) = (i : Int) := by rw [IntKind.wrap_i64]; have := HMAX.out; omega
                have hi5 : ¬ ((j : Int) < 0) := by omega
                clear hji hz
                go_upto_region 22 with (fail)
                go_quiet (fail)
                have H9q := Lib.hid (H9.out.drewN nq)
                have R9q := Lib.hid (R9.out.below (below_drewN (Below.refl _ _) nq))
                clear H9 R9
                cases hbm : among (live p now) key j with
                | true =>
                  have hsu := HS.out
                  rw [hbm] at hsu
                  clear HS
                  go_wp2_with fail
                  go_roundw
                  case rel => exact ⟨j + 1, by omega, by rw [hsu]; rfl, by go_num, H9q.out, _, R9q.out⟩
                  case measure => simp [intOf]; omega
                | false =>
                  have hsu := HS.out
                  rw [hbm, Bool.false_or] at hsu
                  clear HS
                  cases hkq : (kj.toList == key.toList) with
                  | true =>
                    rw [hkq] at hsu
                    have HSU := Lib.hid hsu
                    clear hsu
                    go_wp2_with fail
                    go_roundw
                    case rel => exact ⟨j + 1, by omega, by rw [HSU.out], by go_num, H9q.out, _, R9q.out⟩
                    case measure => simp [intOf]; omega
                  | false =>
                    rw [hkq] at hsu
                    have HSU := Lib.hid hsu
                    clear hsu
                    go_wp2_with fail
                    go_roundw
                    case rel => exact ⟨j + 1, by omega, by rw [HSU.out], by go_num, H9q.out, _, R9q.out⟩
                    case measure => simp [intOf]; omega
              · have hi2 : decide ((0 : Int) < (j : Int)) = false := decide_eq_false (by omega)
                have hi6 : decide (0 < j) = false := decide_eq_false (by omega)
                have hi7 : ¬ 0 < j := by omega
                have hi5 : ¬ ((j : Int) < 0) := by omega
                clear HP hz
                go_upto_region 22 with (fail)
                go_quiet (fail)
                have H9q := Lib.hid (H9.out.drewN nq)
                have R9q := Lib.hid (R9.out.below (below_drewN (Below.refl _ _) nq))
                clear H9 R9
                cases hbm : among (live p now) key j with
                | true =>
                  have hsu := HS.out
                  rw [hbm] at hsu
                  clear HS
                  go_wp2_with fail
                  go_roundw
                  case rel => exact ⟨j + 1, by omega, by rw [hsu]; rfl, by go_num, H9q.out, _, R9q.out⟩
                  case measure => simp [intOf]; omega
                | false =>
                  have hsu := HS.out
                  rw [hbm, Bool.false_or] at hsu
                  clear HS
                  cases hkq : (kj.toList == key.toList) with
                  | true =>
                    rw [hkq] at hsu
                    have HSU := Lib.hid hsu
                    clear hsu
                    go_wp2_with fail
                    go_roundw
                    case rel => exact ⟨j + 1, by omega, by rw [HSU.out], by go_num, H9q.out, _, R9q.out⟩
                    case measure => simp [intOf]; omega
                  | false =>
                    rw [hkq] at hsu
                    have HSU := Lib.hid hsu
                    clear hsu
                    go_wp2_with fail
                    go_roundw
                    case rel => exact ⟨j + 1, by omega, by rw [HSU.out], by go_num, H9q.out, _, R9q.out⟩
                    case measure => simp [intOf]; omega
            · obtain rfl : j = (live p now).length := by omega
              go_wp2_with fail
              refine (mGet H8.out key now HKEY.out HN.out).mono ?_
              rintro e w9 ⟨rfl, h9, hb9⟩
              have H9 := Lib.hid h9
              clear h9 hb9 H8 R8
              have hall : among (live p now) key (live p now).length = has p key now := among_all
              rw [hall]
              go_wp2_with fail
              refine (mLen H9.out now HN.out).mono ?_
              rintro e w10 ⟨rfl, h10, -⟩
              have H10 := Lib.hid h10
              clear h10 H9
              go_wp2_with fail
              refine (known_calls C _).mono ?_
              rintro e w8 ⟨rfl, hb8⟩
              have H11 := Lib.hid (H10.out.below hb8)
              clear hb8
              go_wp2_with fail
              go_ret
              exact ⟨rfl, H11.out.1⟩
end Go.Proofs.Ytekjohgnfplfjaa.Va
