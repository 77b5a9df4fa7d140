/-
  The walk of LedgerDue.
-/
import Derived.Test.YtplinlgafgfepaaLedRaw
import Derived.Deep.DeepCutAuto
namespace Go.Proofs.Ytplinlgafgfepaa.Ld
open Go.RowKit
open Pr (Box Own wpList_append_any)

theorem due_step {last : Nat} {L : LL (List Lim)} (hg : Good last L) {t i : Nat} (hi : i + 1 < (due L t).length) : Lt ((due L t)[i]'(by omega)) (due L t)[i + 1] :=
  List.pairwise_iff_getElem.1 (due_sorted hg t) i (i + 1) (by omega) hi (by omega)
theorem left_not {last : Nat} {L : LL (List Lim)} (hg : Good last L) {t : Nat} {d : Du (List Lim)} (hd : d ∈ due L t) : getO (left L t) (d.1 : Nat) = none := by
  rw [getO_none]
  intro x hx e
  obtain ⟨h1, h2⟩ := mem_left.1 hx
  obtain ⟨h3, h4⟩ := mem_due.1 hd
  have := hg.same h1 h3 (by omega)
  subst this
  omega

set_option maxHeartbeats 16000000 in
set_option maxRecDepth 100000 in
theorem due_law (C : LC) (A : Option Addr) (cap : Nat) (L : List Dow) (now more : Int) (w : World) (hD : Dos (fun b => b < w.heap.size) w A L) (hK : Fits L) (hZ : L.length ≤ 1048576) (hn : I64 now) (hmo : 0 ≤ more ∧ more < 4294967296) :
    Calls Try.prog 4 #[.slice A L.length cap, .int .i64 now, .int .u32 more] w fun e w' => e = .returned (.bool true) ∧ Below w.heap.size w w' := by
  have HD := Lib.hid hD
  have HK := Lib.hid hK
  have HMO := Lib.hid hmo
  clear hD hK hmo
  by_cases hL : 60 < L.length
  · have t1 : decide ((60 : Int) < (L.length : Int)) = true := decide_eq_true (by omega)
    go_enter Try.func4, Try.ntmps4
    go_wp2_with fail
    refine (known_calls C _).mono ?_
    rintro e w8 ⟨rfl, hb8⟩
    go_wp2_with fail
    go_ret
    exact ⟨rfl, hb8⟩
  have t1 : decide ((60 : Int) < (L.length : Int)) = false := decide_eq_false (by omega)
  go_enter Try.func4, Try.ntmps4
  go_wp2_with fail
  refine (Long_calls A cap L w HD.out (by omega)).mono ?_
  rintro e w1 ⟨⟨m1, rfl⟩, hb1⟩
  have B1 := Lib.hid hb1
  clear hb1
  by_cases hm : 300 < m1
  · have t2 : decide ((300 : Int) < m1) = true := decide_eq_true hm
    go_wp2_with fail
    refine (known_calls C _).mono ?_
    rintro e w8 ⟨rfl, hb8⟩
    go_wp2_with fail
    go_ret
    exact ⟨rfl, B1.out.trans (hb8.mono B1.out.size)⟩
  have t2 : decide ((300 : Int) < m1) = false := decide_eq_false hm
  go_wp2_with fail
  refine (C.new_ _).mono ?_
  rintro e w2 ⟨vx, o1, rfl, a1, b1, l1⟩
  have A1 := Lib.hid (And.intro a1 (And.intro b1 l1))
  clear a1 b1 l1
  go_wp2_with fail
  refine (C.new_ _).mono ?_
  rintro e w4 ⟨vy, o2, rfl, a2, b2, l2⟩
  have T0 : Hid (∃ o1 o2 last Q, last ≤ 0 ∧ Two C w w4 o1 o2 vx vy last last Q Q) := Lib.hid (by
    obtain ⟨a1, b1, l1⟩ := A1.out
    have h0 : Below w.heap.size w w2 := B1.out.trans (b1.mono B1.out.size)
    exact ⟨o1, o2, 0, [], Nat.le_refl _, h0.trans (b2.mono h0.size), C.below a1 b2, a2, fun x hx => Nat.le_trans B1.out.size (l1 x hx), fun x hx => Nat.le_trans h0.size (l2 x hx), fun x hx hc => by have := (C.good a1).2.1 x hx; have := l2 x hc; omega⟩)
  clear A1 B1 a2 b2 l2
  go_wp2_with fail
  go_loopw [9] (fun i wr => ∃ k : Nat, k ≤ L.length ∧ i = .int .i64 (k : Nat) ∧ Hid (∃ o1 o2 last Q, last ≤ k ∧ Two C w wr o1 o2 vx vy last last Q Q)) (fun i _ => L.length - (intOf i).toNat)
  case atStart => exact ⟨0, by omega, rfl, T0.out⟩
  case round =>
    clear T0
    obtain ⟨k, hk, rfl, H⟩ := hrel
    obtain ⟨o1, o2, last, Q, hlk, h⟩ := Hid.out H
    have T2 := Lib.hid h
    clear H h
    by_cases hlt : k < L.length
    · obtain ⟨a, ra, c0, c1, X, capX, hXn, c2, hX⟩ := HD.out.at_ hlt
      have hfit := HK.out L[k] (List.getElem_mem hlt)
      subst ra
      generalize L[k] = d at c0 c1 c2 hX hfit
      obtain ⟨kd, nn, ls⟩ := d
      simp only at c0 c1 c2 hX hfit
      have C0 := Lib.hid c0
      have C1 := Lib.hid c1
      have C2 := Lib.hid c2
      have HX := Lib.hid hX
      have HXN := Lib.hid hXn
      have HFIT := Lib.hid hfit
      clear hX hfit hXn c0 c1 c2
      have e0 := keep2 T2.out.1 C0.out
      have e1 := keep2 T2.out.1 C1.out
      have e2 := keep2 T2.out.1 C2.out
      go_wp2_with fail
      refine (T2.out.did (by omega) HFIT.out.1 (HX.out.keep T2.out.1) HXN.out HFIT.out.2).mono ?_
      rintro e w3 ⟨o3, A3, cap3, rfl, h3, -, -⟩
      have T3 := Lib.hid h3
      clear h3 T2 e0 e1 e2
      have e0 := keep2 T3.out.1 C0.out
      have e1 := keep2 T3.out.1 C1.out
      have e2 := keep2 T3.out.1 C2.out
      go_wp2_with fail
      refine (T3.out.rot.did (by omega) HFIT.out.1 (HX.out.keep T3.out.1) HXN.out HFIT.out.2).mono ?_
      rintro e w5 ⟨o5, A5, cap5, rfl, h5, -, -⟩
      have T5 := Lib.hid h5.rot
      have hl3 := stN_le Q last kd
      clear h5 T3 e0 e1 e2
      go_wp2_with fail
      go_roundw
      case rel => exact ⟨k + 1, by omega, by go_num, _, _, _, _, by omega, T5.out⟩
      case measure => simp [intOf]; omega
    · clear HD HK
      have hg := T2.out.fst.good
      have HG := Lib.hid hg
      have hfw := hg.few
      clear hg
      go_upto_region 10 with (fail)
      go_cut [10] (fun s10 wx => ∃ t : Nat, s10 = .int .i64 (t : Nat) ∧ t ≤ 4503599627370496 ∧ Hid (Two C w wx o1 o2 vx vy last last Q Q))
      case first =>
        by_cases h1 : now < 0
        · have h2 : ¬ (0 : Int) < now := by omega
          go_wp2_with fail
          go_meet
          case rel => exact ⟨0, rfl, by omega, T2.out⟩
        · obtain ⟨m, rfl⟩ : ∃ m : Nat, now = m := ⟨now.toNat, by omega⟩
          by_cases h2 : (m : Int) < 4503599627370496
          · have h3 : ¬ (4503599627370496 : Int) < (m : Int) := by omega
            go_wp2_with fail
            go_meet
            case rel => exact ⟨m, rfl, by omega, T2.out⟩
          · by_cases h3 : (4503599627370496 : Int) < (m : Int)
            · go_wp2_with fail
              go_meet
              case rel => exact ⟨4503599627370496, rfl, by omega, T2.out⟩
            · obtain rfl : m = 4503599627370496 := by omega
              go_wp2_with fail
              go_meet
              case rel => exact ⟨4503599627370496, rfl, by omega, T2.out⟩
      case rest =>
        obtain ⟨t, rfl, ht, HC⟩ := hcut
        have T3 := Lib.hid (show Two C w wc o1 o2 vx vy last last Q Q from HC)
        have HFQ := Lib.hid (C.good T3.out.2.1).2.2
        clear HC T2
        obtain ⟨mo, rfl⟩ : ∃ m : Nat, more = m := ⟨more.toNat, by have := HMO.out; omega⟩
        have hmo : mo < 4294967296 := by have := HMO.out; omega
        have hct : clip (t : Nat) = t := by have := clip_mid (n := (t : Nat)) (by omega) (by omega); omega
        obtain ⟨u, hu⟩ : ∃ u, t + mo = u := ⟨_, rfl⟩
        have hcu : clip (u : Nat) = u := by have := clip_mid (n := (u : Nat)) (by omega) (by omega); omega
        have hw1 : IntKind.i64.wrap ((t : Int) + (mo : Int)) = (u : Int) := by rw [IntKind.wrap_i64]; omega
        have hw2 : (t : Int) + (mo : Int) = (u : Int) := by omega
        have HCT := Lib.hid hct
        have HCU := Lib.hid hcu
        have HTU := Lib.hid (show t ≤ u by omega)
        clear hct hcu
        go_wp2_with fail
        refine (C.all_ T3.out.2.1).mono ?_
        rintro e w4 ⟨A4, cap4, rfl, -, hb4⟩
        have T4 := Lib.hid (T3.out.below hb4)
        clear hb4 T3
        go_wp2_with fail
        refine (C.due_ T4.out.2.1 (t : Nat) (by omega)).mono ?_
        rw [HCT.out]
        rintro e w5 ⟨o5, A5, cap5, rfl, hz5, hr5, a5, k5⟩
        have R5 : Hid (Dues (Free (o5 ++ o2) w5) w5 A5 (due Q t)) := Lib.hid (hr5.mono fun b hb => T4.out.out hb)
        have T5 := Lib.hid (T4.out.turn a5 k5)
        have Z5 := Lib.hid hz5
        clear hr5 a5 k5 hz5 T4
        go_wp2_with fail
        refine (C.due_ T5.out.2.1 (u : Nat) (by omega)).mono ?_
        rw [HCU.out, left_left HTU.out]
        rintro e w6 ⟨o6, A6, cap6, rfl, hz6, hr6, a6, k6⟩
        have R6 : Hid (Dues (Free (o6 ++ o2) w6) w6 A6 (due (left Q t) u)) := Lib.hid (hr6.mono fun b hb => T5.out.out hb)
        have Q6 := Lib.hid (R5.out.goes (T5.out.stands k6))
        have T6 := Lib.hid (T5.out.turn a6 k6)
        have Z6 := Lib.hid hz6
        clear hr6 a6 k6 hz6 T5 R5
        go_wp2_with fail
        refine (C.due_ T6.out.2.2.1 (u : Nat) (by omega)).mono ?_
        rw [HCU.out]
        rintro e w7 ⟨o7, A7, cap7, rfl, -, hr7, a7, k7⟩
        have R7 : Hid (Dues (Free (o6 ++ o7) w7) w7 A7 (due Q u)) := Lib.hid (hr7.mono fun b hb => free_rot (T6.out.rot.out hb))
        have P7 : Hid (Dues (Free (o6 ++ o7) w7) w7 A6 (due (left Q t) u)) := Lib.hid ((R6.out.mono fun b hb => free_rot hb).goes (T6.out.rot.stands k7) |>.mono fun b hb => free_rot hb)
        have Q7 : Hid (Dues (Free (o6 ++ o7) w7) w7 A5 (due Q t)) := Lib.hid ((Q6.out.mono fun b hb => free_rot hb).goes (T6.out.rot.stands k7) |>.mono fun b hb => free_rot hb)
        have T7 := Lib.hid (T6.out.rot.turn a7 k7).rot
        have hdd := due_due HG.out HTU.out
        have hdl := due_length (L := Q) u
        have HDD := Lib.hid hdd
        have HDL := Lib.hid hdl
        have hl1 : (due Q t).length ≤ 1000 := by have := due_length (L := Q) t; omega
        have hl2 : (due (left Q t) u).length ≤ 1000 := by have := due_length (L := left Q t) u; have := due_length (L := Q) t; omega
        have hl3 : (due Q u).length ≤ 1000 := by omega
        have hl4 : (left Q u).length ≤ 1000 := by omega
        clear hr7 a7 k7 T6 R6 Q6 hdd
        obtain ⟨ra, hea, hra⟩ := Q7.out.raw
        obtain ⟨rb, heb, hrb⟩ := P7.out.raw
        have EA := Lib.hid hea
        have RA := Lib.hid hra
        have EB := Lib.hid heb
        have RB := Lib.hid hrb
        have HLA := Lib.hid hra.1
        have HLB := Lib.hid hrb.1
        clear hea hra heb hrb Q7 P7
        go_wp2_with (at_builtin; refine wpList_append_any rfl _ _ rfl w7.heap.size (.slice none 0 0) [] rfl (Own.nil _ _) A5 (due Q t).length cap5 ra rfl HLA.out.symm Z5.out EA.out ?b5 (Nat.le_refl _) ?_)
        case b5 => rw [HLA.out]; simp; omega
        intro v8 w8 ho8 hg8
        obtain ⟨A8, n8, cap8, rfl, e8⟩ := ho8.form
        have hb8 : Below w7.heap.size w7 w8 := (Below.refl _ _).grown hg8 (Nat.le_refl _) (by simp [Value.ownBlock])
        have O8 := Lib.hid ho8
        have B8 := Lib.hid hb8
        have E8 := Lib.hid (EB.out.keep hb8)
        clear ho8 hg8 hb8 e8
        go_wp2_with (at_builtin; refine wpList_append_any rfl _ _ rfl w7.heap.size (.slice A8 n8 cap8) ra rfl O8.out A6 (due (left Q t) u).length cap6 rb rfl HLB.out.symm Z6.out E8.out ?b5 B8.out.size ?_)
        case b5 => rw [HLA.out, HLB.out]; omega
        intro v9 w9 ho9 hg9
        obtain ⟨A9, n9, cap9, rfl, e9⟩ := ho9.form
        have hb9 : Below w7.heap.size w7 w9 := B8.out.grown hg9 B8.out.size (fun q hq => (World.ownsRow.lt O8.out q hq).1)
        have hrep : Rep (Free (o6 ++ o7) w7) w9 (ra ++ rb) (due Q u) := by rw [← HDD.out]; exact (RA.out.append RB.out).keep hb9
        have D9 : Hid (Dues (fun _ => True) w9 A9 (due Q u)) := Lib.hid (hrep.dues ho9.pr.1)
        have N9 : Hid (n9 = (due Q u).length) := Lib.hid (by rw [e9]; exact hrep.1)
        have T9 := Lib.hid (T7.out.below hb9)
        have R9 := Lib.hid (R7.out.keep hb9)
        clear ho9 hg9 hb9 e9 hrep O8 B8 E8 EA RA EB RB HLA HLB T7 R7
        go_wp2_with fail
        rw [N9.out]
        refine (same_calls A9 A7 cap9 cap7 (due Q u) _ D9.out R9.out (by omega) (fun x hx => HFQ.out x (mem_due.1 hx).1)).mono ?_
        rintro e w10 ⟨rfl, hb10⟩
        have T10 := Lib.hid (T9.out.below hb10)
        have R10 := Lib.hid (R9.out.keep hb10)
        clear hb10 T9 R9 D9 N9
        go_wp2_with fail
        refine (C.all_ T10.out.2.1).mono ?_
        rintro e w11 ⟨A11, cap11, rfl, hr11, hb11⟩
        have T11 := Lib.hid (T10.out.below hb11)
        have R11 := Lib.hid (R10.out.keep hb11)
        have S11 := Lib.hid hr11
        clear hb11 T10 R10 hr11
        go_wp2_with fail
        refine (C.all_ T11.out.2.2.1).mono ?_
        rintro e w12 ⟨A12, cap12, rfl, hr12, hb12⟩
        have T12 := Lib.hid (T11.out.below hb12)
        have R12 := Lib.hid (R11.out.keep hb12)
        have S12 := Lib.hid (S11.out.keep hb12)
        have U12 := Lib.hid hr12
        clear hb12 T11 R11 hr12 S11
        go_wp2_with fail
        refine (same_calls A11 A12 cap11 cap12 (left Q u) _ S12.out U12.out (by omega) (fun x hx => HFQ.out x (mem_left.1 hx).1)).mono ?_
        rintro e w13 ⟨rfl, hb13⟩
        have T13 := Lib.hid (T12.out.below hb13)
        have R13 := Lib.hid (R12.out.keep hb13)
        clear hb13 T12 R12 S12 U12
        go_wp2_with fail
        refine (C.len_ T13.out.2.1).mono ?_
        rintro e w14 ⟨rfl, hb14⟩
        have T14 := Lib.hid (T13.out.below hb14)
        have R14 := Lib.hid (R13.out.keep hb14)
        clear hb14 T13 R13
        have hws : IntKind.i64.wrap (((left Q u).length : Int) + ((due Q u).length : Int)) = (Q.length : Int) := by rw [IntKind.wrap_i64]; omega
        have hws2 : ((left Q u).length : Int) + ((due Q u).length : Int) = (Q.length : Int) := by omega
        have tne : ((Q.length : Int) != (Q.length : Int)) = false := bne_self_eq_false _
        go_wp2_with fail
        clear hws hws2 tne
        go_loopw [16] (fun i wr => ∃ j : Nat, j ≤ (due Q u).length ∧ i = .int .i64 (j : Nat) ∧ Hid (Two C w wr o6 o7 vx vy last last (left Q u) (left Q u) ∧ Dues (Free (o6 ++ o7) w7) wr A7 (due Q u))) (fun i _ => (due Q u).length - (intOf i).toNat)
        case atStart => exact ⟨0, Nat.zero_le _, rfl, T14.out, R14.out⟩
        case round =>
          clear T14 R14
          obtain ⟨j, hj, rfl, H⟩ := hrel
          obtain ⟨h1, h2⟩ := Hid.out H
          have T15 := Lib.hid h1
          have R15 := Lib.hid h2
          clear H h1 h2
          by_cases hlt2 : j < (due Q u).length
          · obtain ⟨a7, ra7, -, c0, c1, -⟩ := R15.out.at_ hlt2
            have hmem := List.getElem_mem hlt2
            have hgn := left_not HG.out hmem
            have htl := (mem_due.1 hmem).2
            have hidb := (HG.out.fits _ (mem_due.1 hmem).1).2.1
            have hlk' : last < 4611686018427387904 := by omega
            have hprev : ∀ (i : Nat) (h : j = i + 1), Lt ((due Q u)[i]'(by omega)) (due Q u)[j] := fun i hi => by
              subst hi
              exact due_step HG.out hlt2
            generalize (due Q u)[j] = d at c0 c1 hgn htl hidb hprev
            clear hmem
            obtain ⟨id, till, ls⟩ := d
            simp only at c0 c1 hgn htl hidb
            have HGN := Lib.hid hgn
            have HPV := Lib.hid hprev
            clear hgn hprev
            subst ra7
            have hi64 : I64 ((id : Nat) : Int) := ⟨by omega, by omega⟩
            have HI := Lib.hid hi64
            clear hi64
            go_wp2_with fail
            refine (C.get_ T15.out.2.1 (id : Nat) HI.out).mono ?_
            rw [HGN.out, show od (none : Option (Du (List Lim))) = (0, 0, []) from rfl]
            simp only [Option.isSome_none]
            rintro e w16 ⟨A16, cap16, rfl, -, -, hb16⟩
            have hbx : Below wr.heap.size wr (w16.alloc (.cells #[.int .i64 0, .int .i64 0, .slice A16 0 cap16] 38)) := hb16.alloc hb16.size _
            have T16 := Lib.hid (T15.out.below hbx)
            have R16 := Lib.hid (R15.out.keep hbx)
            have e0 := keep2 hbx c0
            have e1 := keep2 hbx c1
            have tlt : ¬ (u : Int) < (till : Int) := by omega
            have tlt2 : decide ((u : Int) < (till : Int)) = false := decide_eq_false tlt
            have tlt3 : ¬ u < till := by omega
            have tlt4 : decide (u < till) = false := decide_eq_false tlt3
            have hlen2 : (j : Int) < ((due Q u).length : Int) := by omega
            have hi5 : ¬ ((j : Int) < 0) := by omega
            by_cases hz : 0 < j
            · obtain ⟨i, hji⟩ : ∃ i, j = i + 1 := ⟨j - 1, by omega⟩
              obtain ⟨a4, ea, -, d0, d1, -⟩ := R16.out.at_ (i := i) (by omega)
              injection ea with ea
              subst ea
              have hp := HPV.out i hji
              generalize ((due Q u)[i]'(by omega)) = d' at d0 d1 hp
              obtain ⟨id', till', ls'⟩ := d'
              simp only at d0 d1
              unfold Lt at hp
              simp only at hp
              clear HPV hbx hb16 c0 c1 T15 R15
              have hi1 : (j : Int) - 1 = (i : Int) := by omega
              have hi2 : decide ((0 : Int) < (j : Int)) = true := decide_eq_true (by omega)
              have hi6 : decide (0 < j) = true := decide_eq_true (by omega)
              have hi7 : 0 < j := by omega
              have hi3 : (i : Int) < ((due Q u).length : Int) := by omega
              have hi4 : ¬ ((i : Int) < 0) := by omega
              have hiw : IntKind.i64.wrap (i : Int) = (i : Int) := by rw [IntKind.wrap_i64]; omega
              clear hji hz
              rcases hp with hp | ⟨hp, hq⟩
              · have q1 : ¬ (till : Int) < (till' : Int) := by omega
                have q2 : decide ((till : Int) < (till' : Int)) = false := decide_eq_false q1
                have q3 : ((till : Int) == (till' : Int)) = false := beq_eq_false_iff_ne.2 (by omega)
                have q6 : ¬ till < till' := by omega
                have q7 : decide (till < till') = false := decide_eq_false q6
                have q8 : (till == till') = false := beq_eq_false_iff_ne.2 (by omega)
                have q9 : decide (till = till') = false := decide_eq_false (by omega)
                clear hp
                go_upto_region 24 with (fail)
                go_quiet (fail)
                have T17 := Lib.hid (T16.out.below (below_drewN (Below.refl _ _) nq))
                have R17 := Lib.hid (R16.out.keep (below_drewN (Below.refl _ _) nq))
                clear T16 R16
                go_wp2_with fail
                go_roundw
                case rel => exact ⟨j + 1, by omega, by go_num, T17.out, R17.out⟩
                case measure => simp [intOf]; omega
              · subst hp
                have q1 : ¬ (till' : Int) < (till' : Int) := by omega
                have q3 : ((till' : Int) == (till' : Int)) = true := beq_self_eq_true _
                have q4 : (id' : Int) < (id : Int) := by omega
                have q5 : ¬ (id : Int) ≤ (id' : Int) := by omega
                have q6 : id' < id := by omega
                have q7 : decide (id ≤ id') = false := decide_eq_false (by omega)
                have q8 : decide ((id : Int) ≤ (id' : Int)) = false := decide_eq_false q5
                clear hq
                go_upto_region 24 with (fail)
                go_quiet (fail)
                have T17 := Lib.hid (T16.out.below (below_drewN (Below.refl _ _) nq))
                have R17 := Lib.hid (R16.out.keep (below_drewN (Below.refl _ _) nq))
                clear T16 R16
                go_wp2_with fail
                go_roundw
                case rel => exact ⟨j + 1, by omega, by go_num, T17.out, R17.out⟩
                case measure => simp [intOf]; omega
            · have hi2 : decide ((0 : Int) < (j : Int)) = false := decide_eq_false (by omega)
              have hi6 : decide (0 < j) = false := decide_eq_false (by omega)
              have hi7 : ¬ 0 < j := by omega
              clear HPV hz hbx hb16 c0 c1 T15 R15
              go_upto_region 24 with (fail)
              go_quiet (fail)
              have T17 := Lib.hid (T16.out.below (below_drewN (Below.refl _ _) nq))
              have R17 := Lib.hid (R16.out.keep (below_drewN (Below.refl _ _) nq))
              clear T16 R16
              go_wp2_with fail
              go_roundw
              case rel => exact ⟨j + 1, by omega, by go_num, T17.out, R17.out⟩
              case measure => simp [intOf]; omega
          · go_wp2_with fail
            refine (C.all_ T15.out.2.1).mono ?_
            rintro e w16 ⟨A16, cap16, rfl, hr16, hb16⟩
            have T16 := Lib.hid (T15.out.below hb16)
            have R16 := Lib.hid (hr16.mono (T := fun _ => True) fun _ _ => trivial)
            clear hr16 hb16 T15 R15
            go_wp2_with fail
            go_loopw [20] (fun i wr => ∃ j : Nat, j ≤ (left Q u).length ∧ i = .int .i64 (j : Nat) ∧ Hid (Two C w wr o6 o7 vx vy last last (left Q u) (left Q u) ∧ Dues (fun _ => True) wr A16 (left Q u))) (fun i _ => (left Q u).length - (intOf i).toNat)
            case atStart => exact ⟨0, Nat.zero_le _, rfl, T16.out, R16.out⟩
            case round =>
              clear T16 R16
              obtain ⟨i, hi, rfl, H⟩ := hrel
              obtain ⟨h1, h2⟩ := Hid.out H
              have T17 := Lib.hid h1
              have R17 := Lib.hid h2
              clear H h1 h2
              by_cases hlt3 : i < (left Q u).length
              · obtain ⟨a8, ra8, -, c0, c1, -⟩ := R17.out.at_ hlt3
                have htl := (mem_left.1 (List.getElem_mem hlt3)).2
                generalize (left Q u)[i] = d at c0 c1 htl
                obtain ⟨id, till, ls⟩ := d
                simp only at c0 c1 htl
                subst ra8
                have q1 : (u : Int) < (till : Int) := by omega
                have q2 : ¬ (till : Int) ≤ (u : Int) := by omega
                have q3 : decide ((till : Int) ≤ (u : Int)) = false := decide_eq_false q2
                have q4 : ¬ till ≤ u := by omega
                have q5 : decide (till ≤ u) = false := decide_eq_false q4
                go_wp2_with fail
                go_roundw
                case rel => exact ⟨i + 1, by omega, by go_num, T17.out, R17.out⟩
                case measure => simp [intOf]; omega
              · go_wp2_with fail
                refine (known_calls C _).mono ?_
                rintro e w8 ⟨rfl, hb8⟩
                have T18 := Lib.hid (T17.out.below hb8)
                clear hb8
                go_wp2_with fail
                go_ret
                exact ⟨rfl, T18.out.1⟩
end Go.Proofs.Ytplinlgafgfepaa.Ld
