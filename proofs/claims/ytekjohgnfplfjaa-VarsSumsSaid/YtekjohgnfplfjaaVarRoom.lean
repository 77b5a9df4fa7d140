/-
  The walk of VarsRoom.
-/
import Derived.Test.YtekjohgnfplfjaaVarP
namespace Go.Proofs.Ytekjohgnfplfjaa.Va
open Go.RowKit

theorem has_put {L : VL} {key : ByteArray} {n now : Int} : has (wi L (key, n, -1)) key now = true :=
  has_iff.2 ⟨(key, n, -1), mem_wi.2 (.inl rfl), by simp [isLive], rfl⟩
theorem full_facts {room : Nat} {L : VL} {key : ByteArray} {now : Int} (h : full room L key now = true) : room ≤ (live L now).length ∧ has L key now = false := by
  unfold full at h
  simp only [Bool.and_eq_true, Bool.not_eq_true', decide_eq_true_eq] at h
  exact ⟨h.2, h.1⟩
theorem room_facts (room : Nat) (L : VL) (kd : Int) (ky : ByteArray) (nn now : Int) :
    (kd = 1 ∨ kd = 2 → (stepV room L (kd, ky, nn, now)).2.2 = 5 → (stepV room L (kd, ky, nn, now)).1 = L ∧ room ≤ (live L now).length ∧ has L ky now = false ∧ (stepV room L (kd, ky, nn, now)).2.1 = 0) ∧
    (kd = 1 → (stepV room L (kd, ky, nn, now)).2.2 = 0 → has (stepV room L (kd, ky, nn, now)).1 ky now = true) := by
  constructor
  · rintro (rfl | rfl) h
    · have e : stepV room L (1, ky, nn, now) = ((set room L ky nn now).1, 0, (set room L ky nn now).2) := rfl
      rw [e] at h ⊢
      unfold set at h ⊢
      by_cases hf : full room L ky nn = true <;> by_cases hf2 : full room L ky now = true
      all_goals first
        | (rw [if_pos hf2]; exact ⟨rfl, (full_facts hf2).1, (full_facts hf2).2, rfl⟩)
        | (rw [if_neg hf2] at h; cases h)
    · have e : stepV room L (2, ky, nn, now) = add room L ky nn now := rfl
      rw [e] at h ⊢
      unfold add at h ⊢
      by_cases ho : inR (getv L ky now + nn) = false
      · rw [if_pos ho] at h; cases h
      · rw [if_neg ho] at h ⊢
        by_cases hf2 : full room L ky now = true
        · rw [if_pos hf2]; exact ⟨rfl, (full_facts hf2).1, (full_facts hf2).2, rfl⟩
        · rw [if_neg hf2] at h; cases h
  · rintro rfl h
    have e : stepV room L (1, ky, nn, now) = ((set room L ky nn now).1, 0, (set room L ky nn now).2) := rfl
    rw [e] at h ⊢
    unfold set at h ⊢
    by_cases hf2 : full room L ky now = true
    · rw [if_pos hf2] at h; cases h
    · rw [if_neg hf2]; exact has_put
theorem clipR_in (R : Nat) (h : R < 256) : clipR (R : Int) = R := by unfold clipR; omega

set_option maxRecDepth 100000 in
set_option maxHeartbeats 4000000 in
theorem room_law (C : VC) (R : Nat) (hR : R < 256) (A : Option Addr) (cap : Nat) (L : List Act) (w : World) (hD : Dos w A L) (hK : Keyed L) (hZ : L.length ≤ maxLen) :
    Calls Try.prog 5 #[.int .u8 (R : Nat), .slice A L.length cap] w fun e w' => e = .returned (.bool true) ∧ Below w.heap.size w w' := by
  have hZ2 : L.length ≤ 9223372036854775807 := by unfold maxLen at hZ; omega
  have CL := Lib.hid (clipR_in R hR)
  clear hZ
  by_cases h60 : 50 < L.length
  · have t1 : decide ((50 : Int) < (L.length : Int)) = true := decide_eq_true (by omega)
    clear hD hK
    go_enter Try.func5, Try.ntmps5
    go_wp2_with fail
    refine (known_calls C _).mono ?_
    rintro e w8 ⟨rfl, hb8⟩
    go_wp2_with fail
    go_ret
    exact ⟨rfl, hb8⟩
  · have t1 : decide ((50 : Int) < (L.length : Int)) = false := decide_eq_false (by omega)
    have HD := Lib.hid hD
    have HK := Lib.hid hK
    clear hD hK
    go_enter Try.func5, Try.ntmps5
    go_wp2_with fail
    refine (Long_calls A cap L w HD.out (by omega)).mono ?_
    rintro e w1 ⟨⟨m, rfl⟩, hb1⟩
    have B1 := Lib.hid hb1
    clear hb1
    by_cases h8 : 800 < m
    · go_wp2_with fail
      refine (known_calls C _).mono ?_
      rintro e w8 ⟨rfl, hb8⟩
      go_wp2_with fail
      go_ret
      exact ⟨rfl, B1.out.trans (hb8.mono B1.out.size)⟩
    · go_wp2_with fail
      refine (mNew (C := C) (R : Int) (by omega) B1.out).mono ?_
      rintro e w2 ⟨v, rfl, h2⟩
      rw [CL.out] at h2
      have H2 := Lib.hid h2
      clear h2 B1
      go_wp2_with fail
      go_loopw [6] (fun i wr => ∃ k : Nat, k ≤ L.length ∧ i = .int .i64 (k : Nat) ∧ Hid (∃ p, Mine C w wr v R p)) (fun i _ => L.length - (intOf i).toNat)
      case atStart => exact ⟨0, Nat.zero_le _, rfl, _, H2.out⟩
      case round =>
        obtain ⟨k, hk, rfl, HM⟩ := hrel
        obtain ⟨p, hM⟩ := HM.out
        clear HM
        by_cases hlt : k < L.length
        · obtain ⟨a, rfl, c0, c1, c2, c3⟩ := (HD.out.keep hM.1).at_ hlt
          have hkk := HK.out L[k] (List.getElem_mem hlt)
          generalize eL : L[k] = d at c0 c1 c2 c3 hkk
          obtain ⟨kd, ky, nn, now⟩ := d
          simp only at c0 c1 c2 c3 hkk
          have HKK := Lib.hid hkk
          have EL := Lib.hid eL
          have H3 := Lib.hid hM
          have hp1 := hM.good.live_len now
          clear hM hkk eL
          go_wp2_with fail
          refine (mKeys H3.out now HKK.out.2.2).mono ?_
          rintro e w4 ⟨A2, cap2, rfl, hr4, h4, hb4⟩
          have H4 := Lib.hid h4
          clear hr4 h4 hb4 H3 c0 c1 c2 c3
          go_wp2_with fail
          refine (mLen H4.out now HKK.out.2.2).mono ?_
          rintro e w5 ⟨rfl, h5, hb5⟩
          have H5 := Lib.hid h5
          clear h5 hb5 H4
          obtain ⟨a', ea, c0, c1, c2, c3⟩ := (HD.out.keep H5.out.1).at_ hlt
          injection ea with ea
          subst ea
          rw [EL.out] at c0 c1 c2 c3
          simp only at c0 c1 c2 c3
          go_wp2_with fail
          refine (mDid H5.out (kd, ky, nn, now) HKK.out.1 HKK.out.2.1 HKK.out.2.2).mono ?_
          rintro e w7 ⟨rfl, h7⟩
          have F := room_facts R p kd ky nn now
          generalize (stepV R p (kd, ky, nn, now)).1 = q at h7 F
          generalize (stepV R p (kd, ky, nn, now)).2.2 = eno at F ⊢
          generalize (stepV R p (kd, ky, nn, now)).2.1 = x at F ⊢
          have hq1 := h7.good.live_len now
          have H7 := Lib.hid h7
          have FF := Lib.hid F
          clear h7 F H5 c0 c1 c2 c3
          go_wp2_with fail
          refine (mKeys H7.out now HKK.out.2.2).mono ?_
          rintro e w8 ⟨A3, cap3, rfl, hr8, h8, hb8⟩
          have H8 := Lib.hid h8
          clear hr8 h8 hb8 H7
          obtain ⟨a', ea, c0, c1, c2, c3⟩ := (HD.out.keep H8.out.1).at_ hlt
          injection ea with ea
          subst ea
          rw [EL.out] at c0 c1 c2 c3
          simp only at c0 c1 c2 c3
          go_wp2_with fail
          refine (mGet H8.out ky now HKK.out.1 HKK.out.2.2).mono ?_
          rintro e w9 ⟨rfl, h9, hb9⟩
          have H9 := Lib.hid h9
          clear h9 hb9 H8 c0 c1 c2 c3
          obtain ⟨a', ea, c0, c1, c2, c3⟩ := (HD.out.keep H9.out.1).at_ hlt
          injection ea with ea
          subst ea
          rw [EL.out] at c0 c1 c2 c3
          simp only at c0 c1 c2 c3
          have u1 : decide ((R : Int) < ((live p now).length : Int)) = false := decide_eq_false (by omega)
          have u2 : decide ((R : Int) < ((live q now).length : Int)) = false := decide_eq_false (by omega)
          have u3 : ¬ (R : Int) < ((live p now).length : Int) := by omega
          have u4 : ¬ (R : Int) < ((live q now).length : Int) := by omega
          go_upto_region 15 with (fail)
          by_cases k1 : kd = 1
          · subst k1
            by_cases e5 : eno = 5
            · subst e5
              obtain ⟨rfl, hr, hh, rfl⟩ := FF.out.1 (.inl rfl) rfl
              clear FF
              have u5 : decide (((live q now).length : Int) < (R : Int)) = false := decide_eq_false (by omega)
              have u6 : ¬ ((live q now).length : Int) < (R : Int) := by omega
              clear hr
              go_wp2_with fail
              go_roundw
              case rel => exact ⟨k + 1, by omega, by go_num, _, H9.out⟩
              case measure => simp [intOf]; omega
            · have t5 : (eno == 5) = false := beq_eq_false_iff_ne.2 e5
              by_cases e0 : eno = 0
              · subst e0
                have hh := FF.out.2 rfl rfl
                clear FF
                go_wp2_with fail
                go_roundw
                case rel => exact ⟨k + 1, by omega, by go_num, _, H9.out⟩
                case measure => simp [intOf]; omega
              · have t6 : (eno == 0) = false := beq_eq_false_iff_ne.2 e0
                clear FF e0 e5
                go_wp2_with fail
                go_roundw
                case rel => exact ⟨k + 1, by omega, by go_num, _, H9.out⟩
                case measure => simp [intOf]; omega
          · have t1 : (kd == 1) = false := beq_eq_false_iff_ne.2 k1
            by_cases k2 : kd = 2
            · subst k2
              by_cases e5 : eno = 5
              · subst e5
                obtain ⟨rfl, hr, hh, rfl⟩ := FF.out.1 (.inr rfl) rfl
                clear FF
                have u5 : decide (((live q now).length : Int) < (R : Int)) = false := decide_eq_false (by omega)
                have u6 : ¬ ((live q now).length : Int) < (R : Int) := by omega
                clear hr
                go_wp2_with fail
                go_roundw
                case rel => exact ⟨k + 1, by omega, by go_num, _, H9.out⟩
                case measure => simp [intOf]; omega
              · have t5 : (eno == 5) = false := beq_eq_false_iff_ne.2 e5
                clear FF e5
                go_wp2_with fail
                go_roundw
                case rel => exact ⟨k + 1, by omega, by go_num, _, H9.out⟩
                case measure => simp [intOf]; omega
            · have t2 : (kd == 2) = false := beq_eq_false_iff_ne.2 k2
              clear FF k1 k2
              go_wp2_with fail
              go_roundw
              case rel => exact ⟨k + 1, by omega, by go_num, _, H9.out⟩
              case measure => simp [intOf]; omega
        · have H3 := Lib.hid hM
          clear hM
          go_wp2_with fail
          refine (known_calls C _).mono ?_
          rintro e w8 ⟨rfl, hb8⟩
          have H8 := Lib.hid (H3.out.below hb8)
          clear hb8
          go_wp2_with fail
          go_ret
          exact ⟨rfl, H8.out.1⟩
end Go.Proofs.Ytekjohgnfplfjaa.Va
