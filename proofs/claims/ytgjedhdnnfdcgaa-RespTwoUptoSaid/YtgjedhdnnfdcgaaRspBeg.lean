/-
  What the document's own 'begin' (of a command's line) answers, in any world.
-/
import Derived.Test.YtgjedhdnnfdcgaaRspBts
import Derived.Test.YtgjedhdnnfdcgaaGrow
namespace Go.Proofs.Ytgjedhdnnfdcgaa.Rp
open Go.RowKit
open Gw
open Dg (isD dec txt)

set_option maxHeartbeats 4000000 in
set_option maxRecDepth 100000 in
theorem begin_calls (A : Option Addr) (cap : Nat) (l : Bytes) (at0 : Nat) (sign : UInt8) (lo hi : Nat) (w : World) (hA : Bts w A l) (hl : l.length ≤ 1048576) (hat : at0 ≤ l.length) (hcap : l.length ≤ cap) (hlo : lo ≤ 1000) (hhi : hi ≤ 1000) :
    Calls Try.prog 38 #[.slice A l.length cap, .int .i64 (at0 : Nat), .int .u8 (sign.toNat : Int), .int .i64 (lo : Nat), .int .i64 (hi : Nat)] w fun e w' => e = .returned (.tuple #[.int .i64 (begR sign lo hi (l.drop at0)).1, .int .i64 (begR sign lo hi (l.drop at0)).2]) ∧ Below w.heap.size w w' := by
  have HA := Lib.hid hA
  clear hA
  by_cases h0 : at0 = l.length
  · have E := Lib.hid (show begR sign lo hi (l.drop at0) = (0, 0) by rw [h0, List.drop_length]; rfl)
    have t0 : ((at0 : Int) == (l.length : Int)) = true := by rw [h0]; exact beq_self_eq_true _
    clear h0
    go_enter Try.func38, Try.ntmps38
    go_wp2_with fail
    go_ret2
    rw [E.out]
    exact ⟨rfl, Below.refl _ _⟩
  · have hlt : at0 < l.length := by omega
    have t0 : ((at0 : Int) == (l.length : Int)) = false := beq_eq_false_iff_ne.2 (by omega)
    have i1 : (at0 : Int) < (l.length : Int) := by omega
    obtain ⟨a, rfl, c0⟩ := HA.out.at_ hlt
    have hdr : l.drop at0 = l[at0] :: l.drop (at0 + 1) := List.drop_eq_getElem_cons hlt
    have HDR := Lib.hid hdr
    clear hdr h0
    by_cases hs : l[at0] = sign
    · have ts : ((l[at0].toNat : Int) != (sign.toNat : Int)) = false := by rw [hs]; exact bne_self_eq_false _
      have HS := Lib.hid hs
      clear hs
      go_enter Try.func38, Try.ntmps38
      go_wp2_with fail
      have ht : ∃ t, l.drop (at0 + 1) = t := ⟨_, rfl⟩
      obtain ⟨t, ht⟩ := ht
      have htl : t.length = l.length - (at0 + 1) := by rw [← ht, List.length_drop]
      have HTJ : Hid (∀ j (h : j < t.length), ∃ (h2 : at0 + 1 + j < l.length), t[j] = l[at0 + 1 + j]) := Lib.hid (fun j h => ⟨by omega, by subst ht; simp⟩)
      have HTE := Lib.hid ht
      clear ht
      go_loopw [12, 13] (fun n i wr => ∃ j : Nat, j ≤ 5 ∧ j ≤ t.length ∧ i = .int .i64 ((at0 + 1 + j : Nat) : Int) ∧ n = .int .i64 (valN (t.take j) : Nat) ∧ wr = w ∧ Hid (∀ c ∈ t.take j, isD c = true)) (fun _ i _ => l.length - (intOf i).toNat)
      case atStart =>
        have e1 : ((at0 + 1 + 0 : Nat) : Int) = (at0 : Int) + 1 := by omega
        have e2 : (valN (t.take 0) : Int) = 0 := by rw [List.take_zero]; rfl
        refine ⟨0, by omega, by omega, ?_, ?_, rfl, fun c hc => by rw [List.take_zero] at hc; cases hc⟩
        · rw [e1]
        · rw [e2]
      case round =>
        obtain ⟨j, hj5, hjt, rfl, rfl, rfl, HJ⟩ := hrel
        have hvl := valN_lt HJ
        rw [List.length_take, Nat.min_eq_left hjt] at hvl
        have hv5 : valN (t.take j) < 100000 := Nat.lt_of_lt_of_le hvl (Nat.le_trans (Nat.pow_le_pow_right (by decide) hj5) (by decide))
        clear hvl
        by_cases hgo : ∃ (h : j < t.length), j < 5 ∧ isD t[j] = true
        · obtain ⟨h1, h2, h3⟩ := hgo
          obtain ⟨h4, e4⟩ := HTJ.out j h1
          obtain ⟨a', ea, c1⟩ := HA.out.at_ h4
          injection ea with ea
          subst ea
          have hvt := valN_take h1
          have HJ2 : Hid (∀ c ∈ t.take (j + 1), isD c = true) := Lib.hid (fun c hc => by
            rw [List.take_succ_eq_append_getElem h1] at hc
            rcases List.mem_append.1 hc with hc | hc
            · exact HJ c hc
            · rw [List.mem_singleton] at hc; rw [hc]; exact h3)
          rw [← e4] at c1
          generalize t[j] = c at c1 hvt h3
          unfold isD at h3
          simp at h3
          have q1 : ¬ ((c.toNat : Int) < 48) := by omega
          have q2 : ¬ ((57 : Int) < (c.toNat : Int)) := by omega
          have HVT := Lib.hid hvt
          have hc57 : c.toNat ≤ 57 := by omega
          have hc48 : 48 ≤ c.toNat := by omega
          generalize hv2 : valN (t.take (j + 1)) = v2 at hvt HVT
          have HV2 := Lib.hid hv2
          clear hv2
          generalize valN (t.take j) = v at hvt hv5 HVT ⊢
          have hw1 : IntKind.i64.wrap (10 * (v : Int)) = 10 * (v : Int) := by rw [IntKind.wrap_i64]; omega
          have hw2 : IntKind.i64.wrap (10 * (v : Int) + (c.toNat : Int)) = 10 * (v : Int) + (c.toNat : Int) := by rw [IntKind.wrap_i64]; omega
          have hw4 : 10 * (v : Int) + (c.toNat : Int) - 48 = (v2 : Int) := by omega
          have hw3 : IntKind.i64.wrap (10 * (v : Int) + (c.toNat : Int) - 48) = (v2 : Int) := by rw [hw4, IntKind.wrap_i64]; omega
          clear hvt h3
          have i2 : ((at0 + 1 + j : Nat) : Int) < (l.length : Int) := by omega
          have i3 : ((at0 + 1 + j : Nat) : Int) < (at0 : Int) + 6 := by omega
          go_wp2_with fail
          go_roundw
          case rel =>
            refine ⟨j + 1, by omega, by omega, ?_, ?_, ?_⟩
            · go_num
            · rw [HV2.out]
            · exact ⟨trivial, HJ2.out⟩
          case measure => simp [intOf]; omega
        · have hend : j = 5 ∨ j = t.length ∨ ∃ (h : j < t.length), isD t[j] = false := by
            by_cases h1 : j = t.length
            · exact .inr (.inl h1)
            · by_cases h2 : j = 5
              · exact .inl h2
              · refine .inr (.inr ⟨by omega, ?_⟩)
                cases hq : isD (t[j]'(by omega)) with
                | false => rfl
                | true => exact absurd ⟨by omega, by omega, hq⟩ hgo
          have HDG := Lib.hid (digs_take hj5 HJ hjt hend)
          have HEND := Lib.hid hend
          clear hend hgo
          go_upto_region 7 with (fail)
          go_cut [50] (fun s50 wx => s50 = .bool false ∧ wx = wr)
          case first =>
            have hgoal := HEND.out
            by_cases h1 : j < t.length
            · obtain ⟨h4, e4⟩ := HTJ.out j h1
              obtain ⟨a', ea, c1⟩ := HA.out.at_ h4
              injection ea with ea
              subst ea
              have i2 : ((at0 + 1 + j : Nat) : Int) < (l.length : Int) := by omega
              by_cases h5 : j = 5
              · subst h5
                have i3 : ¬ ((at0 + 1 + 5 : Nat) : Int) < (at0 : Int) + 6 := by omega
                have i4 : decide (((at0 + 1 + 5 : Nat) : Int) < (at0 : Int) + 6) = false := decide_eq_false i3
                clear hgoal
                go_wp2_with fail
                go_meet
                case rel => exact ⟨rfl, rfl⟩
              · have i3 : ((at0 + 1 + j : Nat) : Int) < (at0 : Int) + 6 := by omega
                have hd : isD t[j] = false := by
                  rcases hgoal with h | h | ⟨_, h⟩
                  · omega
                  · omega
                  · exact h
                rw [← e4] at c1
                clear hgoal
                generalize t[j] = c at c1 hd
                unfold isD at hd
                simp at hd
                by_cases h48 : c.toNat < 48
                · have q1 : (c.toNat : Int) < 48 := by omega
                  clear hd
                  go_wp2_with fail
                  go_meet
                  case rel => exact ⟨rfl, rfl⟩
                · have q1 : ¬ (c.toNat : Int) < 48 := by omega
                  have q2 : (57 : Int) < (c.toNat : Int) := by omega
                  have q3 : decide ((c.toNat : Int) ≤ 57) = false := decide_eq_false (by omega)
                  have Q3 := Lib.hid q3
                  clear hd
                  go_wp2_with fail
                  go_meet
                  case rel => first | exact ⟨rfl, rfl⟩ | exact ⟨by rw [Q3.out], rfl⟩
            · have i2 : ¬ ((at0 + 1 + j : Nat) : Int) < (l.length : Int) := by omega
              have i3 : decide (((at0 + 1 + j : Nat) : Int) < (l.length : Int)) = false := decide_eq_false i2
              clear hgoal
              go_wp2_with fail
              go_meet
              case rel => exact ⟨rfl, rfl⟩
          case rest =>
            obtain ⟨rfl, hw0⟩ := hcut
            subst hw0
            rename World => w9
            have hvl : valid lo hi (t.take j) = true ∨ valid lo hi (t.take j) = false := by cases valid lo hi (t.take j) <;> simp
            have HJJ := Lib.hid (And.intro hj5 hjt)
            clear HJ HEND
            go_upto_region 10 with (fail)
            go_cut [14] (fun s14 wx => s14 = .bool (valid lo hi (t.take j)) ∧ Hid (Below w9.heap.size w9 wx))
            case first =>
              have e0 : (((at0 + 1 + j : Nat) : Int)) = (at0 : Int) + 1 + j := by omega
              by_cases hb0 : j = 0
              · have HV := Lib.hid (valid_false_of (lo := lo) (hi := hi) (.inl (show t.take j = [] by rw [hb0]; rfl)))
                have p1 : decide ((at0 : Int) + 1 < (at0 : Int) + 1 + (j : Int)) = false := decide_eq_false (by omega)
                clear hvl e0 hb0
                refine wp_region_grow (by kernel_rfl) (by kernel_rfl) ?_
                repeat (go_big_quiet_step (fail))
                refine wpQuiet_nil ?_
                intro _ hw'
                obtain ⟨gq, hw''⟩ := hw'
                subst hw''
                go_wp2_with fail
                go_meet
                case rel => exact ⟨by rw [HV.out], gq.below⟩
              · have p1 : (at0 : Int) + 1 < (at0 : Int) + 1 + (j : Int) := by omega
                have HT := Lib.hid (txt_nat (valN (t.take j)))
                have HV0 := Lib.hid (@valid_false_of lo hi (t.take j))
                have HV1 := Lib.hid (@valid_text lo hi (t.take j))
                have hlj : (t.take j).length = j := by rw [List.length_take, Nat.min_eq_left hjt]
                have hcut : ∀ i (h : i < (t.take j).length), w9.cell? ((a.add (at0 + 1)).add i) = some (.int .u8 ((t.take j)[i].toNat : Int)) := fun i h => by
                  obtain ⟨h4, e4⟩ := HTJ.out i (by omega)
                  obtain ⟨a', ea, c1⟩ := HA.out.at_ h4
                  injection ea with ea
                  subst ea
                  rw [Addr.add_add, List.getElem_take, e4]
                  exact c1
                have HCUT := Lib.hid hcut
                have HLJ := Lib.hid hlj
                clear hcut hlj hvl e0 hb0
                by_cases hb1 : valN (t.take j) < lo
                · have HV := Lib.hid (HV0.out (.inr (.inl hb1)))
                  have p2 : decide (lo ≤ valN (t.take j)) = false := decide_eq_false (by omega)
                  clear hb1
                  refine wp_region_grow (by kernel_rfl) (by kernel_rfl) ?_
                  repeat (go_big_quiet_step (fail))
                  refine wpQuiet_nil ?_
                  intro _ hw'
                  obtain ⟨gq, hw''⟩ := hw'
                  subst hw''
                  go_wp2_with fail
                  go_meet
                  case rel => exact ⟨by rw [HV.out], gq.below⟩
                · have p2 : (lo : Int) ≤ (valN (t.take j) : Int) := by omega
                  by_cases hb2 : hi < valN (t.take j)
                  · have HV := Lib.hid (HV0.out (.inr (.inr hb2)))
                    have p3 : decide (valN (t.take j) ≤ hi) = false := decide_eq_false (by omega)
                    clear hb1 hb2
                    refine wp_region_grow (by kernel_rfl) (by kernel_rfl) ?_
                    repeat (go_big_quiet_step (fail))
                    refine wpQuiet_nil ?_
                    intro _ hw'
                    obtain ⟨gq, hw''⟩ := hw'
                    subst hw''
                    go_wp2_with fail
                    go_meet
                    case rel => exact ⟨by rw [HV.out], gq.below⟩
                  · have p3 : (valN (t.take j) : Int) ≤ (hi : Int) := by omega
                    have HV := Lib.hid (HV1.out (by omega) (by omega))
                    have gc : ∀ g : Grow w9, (convert 23 9 (.slice (some { block := a.block, off := a.off + (at0 + 1) }) j (cap - (at0 + 1)))).run Try.prog g.w = .ok (.string ⟨(t.take j).toArray⟩) g.w := fun g => by
                      have := run_convert_bytes_back (P := Try.prog) g.w 23 9 5 (a.add (at0 + 1)) (cap - (at0 + 1)) (t.take j) Try.underlying23 Try.underlying5 Try.underlying9 (fun i h => g.keep (HCUT.out i h))
                      rw [HLJ.out] at this
                      exact this
                    clear hb1 hb2
                    refine wp_region_grow (by kernel_rfl) (by kernel_rfl) ?_
                    repeat (go_big_quiet_step ((first | (rw [gc]; exact ⟨rfl, rfl⟩) | (go_at_call 33; exact grow_call (Dg.refprint _ _ (by omega) (by omega))))))
                    refine wpQuiet_nil ?_
                    intro _ hw'
                    obtain ⟨gq, hw''⟩ := hw'
                    subst hw''
                    go_wp2_with fail
                    go_meet
                    case rel => exact ⟨by rw [HV.out, HT.out]; exact congrArg Value.bool (Bool.eq_iff_iff.2 (by simp)), gq.below⟩
            case rest =>
              obtain ⟨rfl, HC⟩ := hcut
              have HB := Lib.hid (show Below w9.heap.size w9 wc from HC)
              have HA2 := Lib.hid (HA.out.keep HB.out)
              have hBE : ∀ x, tailR lo hi t = x → begR sign lo hi (l.drop at0) = lnR x := fun x hx => begR_sign (by rw [HDR.out, HTE.out, HS.out]) hx
              have hdj : ∀ i (h : j + i < t.length), (t.drop j)[i]? = some t[j + i] := fun i h => by rw [List.getElem?_drop, List.getElem?_eq_getElem h]
              have hdl : (t.drop j).length = t.length - j := List.length_drop
              have HDJ := Lib.hid hdj
              have HBE := Lib.hid hBE
              clear HC hvl hdj hBE
              generalize hvb : valid lo hi (t.take j) = vb
              have HVB := Lib.hid hvb
              clear hvb
              cases hq : t.drop j with
              | nil =>
                rw [hq] at hdl
                have hje : at0 + 1 + j = l.length := by simp at hdl; omega
                have q1 : ((at0 + 1 + j : Nat) : Int) = (l.length : Int) := by omega
                clear hdl
                cases vb with
                | true =>
                  have HE := Lib.hid (HBE.out _ (tail_nil_short HDG.out HJJ.out.2 hq (.inr HVB.out)))
                  have hj0 : j ≠ 0 := fun h => by have := HVB.out; rw [h, List.take_zero, valid_nil] at this; cases this
                  have q2 : ((l.length : Int) == (at0 : Int) + 1) = false := beq_eq_false_iff_ne.2 (by omega)
                  clear hq hj0 hje
                  go_wp2_with fail
                  go_ret2
                  rw [HE.out]
                  exact ⟨rfl, HB.out⟩
                | false =>
                  by_cases hj0 : j = 0
                  · have HE := Lib.hid (HBE.out _ (tail_nil_short (lo := lo) (hi := hi) HDG.out HJJ.out.2 hq (.inl hj0)))
                    have q2 : ((l.length : Int) == (at0 : Int) + 1) = true := beq_iff_eq.2 (by omega)
                    clear hq hj0 hje
                    go_wp2_with fail
                    go_ret2
                    rw [HE.out]
                    exact ⟨rfl, HB.out⟩
                  · have HE := Lib.hid (HBE.out _ (tail_nil_wrong HDG.out HJJ.out.2 hq hj0 HVB.out))
                    have q2 : ((l.length : Int) == (at0 : Int) + 1) = false := beq_eq_false_iff_ne.2 (by omega)
                    clear hq hj0 hje
                    go_wp2_with fail
                    go_ret2
                    rw [HE.out]
                    exact ⟨rfl, HB.out⟩
              | cons c r =>
                rw [hq] at hdl
                have hjl : j < t.length := by simp at hdl; omega
                have h0 := HDJ.out 0 (by omega)
                rw [hq] at h0
                simp only [Nat.add_zero, List.getElem?_cons_zero, Option.some.injEq] at h0
                obtain ⟨h4, e4⟩ := HTJ.out j hjl
                obtain ⟨a', ea, c1⟩ := HA2.out.at_ h4
                injection ea with ea
                subst ea
                rw [← e4, ← h0] at c1
                have q0 : (((at0 + 1 + j : Nat) : Int) == (l.length : Int)) = false := beq_eq_false_iff_ne.2 (by omega)
                have i2 : ((at0 + 1 + j : Nat) : Int) < (l.length : Int) := by omega
                clear h0 e4
                cases vb with
                | false =>
                  have HE := Lib.hid (HBE.out _ (tail_wrong HDG.out HJJ.out.2 hq HVB.out))
                  go_wp2_with fail
                  go_ret2
                  rw [HE.out]
                  exact ⟨rfl, HB.out⟩
                | true =>
                  by_cases hc : c = 13
                  · have tc : ((c.toNat : Int) != 13) = false := by rw [hc]; rfl
                    cases r with
                    | nil =>
                      have hje : at0 + 1 + j + 1 = l.length := by simp at hdl; omega
                      have q2 : ((at0 + 1 + j : Nat) : Int) + 1 = (l.length : Int) := by omega
                      have HE := Lib.hid (HBE.out _ (tail_cr_end HDG.out HJJ.out.2 (by rw [hq, hc]) HVB.out))
                      clear hc hje hq hdl
                      go_wp2_with fail
                      go_ret2
                      rw [HE.out]
                      exact ⟨rfl, HB.out⟩
                    | cons d r =>
                      have hjl2 : j + 1 < t.length := by simp at hdl; omega
                      have h0 := HDJ.out 1 hjl2
                      rw [hq] at h0
                      simp only [List.getElem?_cons_succ, List.getElem?_cons_zero, Option.some.injEq] at h0
                      obtain ⟨h5, e5⟩ := HTJ.out (j + 1) hjl2
                      obtain ⟨a', ea, c2⟩ := HA2.out.at_ h5
                      injection ea with ea
                      subst ea
                      rw [← e5, ← h0] at c2
                      have hm2 : at0 + 1 + (j + 1) = at0 + 1 + j + 1 := by omega
                      rw [hm2] at c2 h5
                      have q3 : ((((at0 + 1 + j : Nat) : Int) + 1) == (l.length : Int)) = false := beq_eq_false_iff_ne.2 (by omega)
                      have i3 : ((at0 + 1 + j : Nat) : Int) + 1 < (l.length : Int) := by omega
                      have hz : IntKind.i64.wrap (((at0 + 1 + j : Nat) : Int) + 2 - (at0 : Int)) = ((j + 2 + 1 : Nat) : Int) := by
                        have : ((at0 + 1 + j : Nat) : Int) + 2 - (at0 : Int) = ((j + 2 + 1 : Nat) : Int) := by omega
                        rw [this, IntKind.wrap_i64]; omega
                      have hml : at0 + 1 + j < 1048576 := by omega
                      clear h0 e5 hdl hm2 htl hjl hjl2 h4 h5
                      have c3 := c2
                      rw [addS] at c3
                      clear c2
                      generalize at0 + 1 + j = m at c1 c3 q0 i2 q3 i3 hz hml ⊢
                      by_cases hd : d = 10
                      · have td : ((d.toNat : Int) != 10) = false := by rw [hd]; rfl
                        have HE := Lib.hid (HBE.out _ (tail_ok HDG.out HJJ.out.2 (by rw [hq, hc, hd]) HVB.out))
                        generalize hzz : ((j + 2 + 1 : Nat) : Int) = z at hz
                        have HZ := Lib.hid hzz
                        clear hzz
                        clear hd hc hq
                        go_wp2_with fail
                        go_ret2
                        rw [HE.out]
                        refine ⟨?_, HB.out⟩
                        show Ending.returned (.tuple #[.int .i64 z, .int .i64 _]) = .returned (.tuple #[.int .i64 ((j + 2 + 1 : Nat) : Int), .int .i64 _])
                        rw [HZ.out]
                        rfl
                      · have td : ((d.toNat : Int) != 10) = true := by
                          rw [bne_iff_ne]; intro e; exact hd (UInt8.toNat.inj (by show d.toNat = 10; omega))
                        have HE := Lib.hid (HBE.out _ (tail_no_lf HDG.out HJJ.out.2 (by rw [hq, hc]) HVB.out hd))
                        clear hd hc hq
                        go_wp2_with fail
                        go_ret2
                        rw [HE.out]
                        exact ⟨rfl, HB.out⟩
                  · have tc : ((c.toNat : Int) != 13) = true := by
                      rw [bne_iff_ne]; intro e; exact hc (UInt8.toNat.inj (by show c.toNat = 13; omega))
                    have HE := Lib.hid (HBE.out _ (tail_no_cr HDG.out HJJ.out.2 hq HVB.out hc))
                    clear hc hq
                    go_wp2_with fail
                    go_ret2
                    rw [HE.out]
                    exact ⟨rfl, HB.out⟩
    · have ts : ((l[at0].toNat : Int) != (sign.toNat : Int)) = true := by
        rw [bne_iff_ne]
        intro e
        exact hs (UInt8.toNat.inj (by omega))
      have E := Lib.hid (show begR sign lo hi (l.drop at0) = (-1, 0) by rw [HDR.out]; unfold begR; simp only; rw [if_pos hs])
      clear hs
      go_enter Try.func38, Try.ntmps38
      go_wp2_with fail
      go_ret2
      rw [E.out]
      exact ⟨rfl, Below.refl _ _⟩
end Go.Proofs.Ytgjedhdnnfdcgaa.Rp
