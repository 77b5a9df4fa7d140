/-
  The walk of LedgerSteps.
-/
import Derived.Test.YtplinlgafgfepaaLedDoc
import Derived.Deep.DeepCutAuto
namespace Go.Proofs.Ytplinlgafgfepaa.Ld
open Go.RowKit
open Pr (Box Row tc tbox tzb rstep_calls rget_calls rnext_calls ev oe)

theorem Dues.set {W : World} {A : Option Addr} {l : LL (List Lim)} {b : Nat} (h : Dues (fun x => x ≠ b) W A l) (j : Nat) (v : Value) : Dues (fun x => x ≠ b) (W.setCell ⟨b, j, none⟩ v) A l :=
  h.goes fun x hx => ⟨Below.heap_setCell _ _ _ _ hx, hx⟩
theorem made_below {w4 w5 : World} {x y : Value} (hb : Below (w4.alloc tzb).drew.heap.size (w4.alloc tzb).drew w5) : Below w4.heap.size w4 ((w5.setCell ⟨w4.heap.size, 0, none⟩ x).setCell ⟨w4.heap.size, 1, none⟩ y) := by
  have hk : Below w4.heap.size w4 (w4.alloc tzb).drew := ((Below.refl _ _).alloc (Nat.le_refl _) _).drew
  exact ((hk.trans (hb.mono hk.size)).setCell (Nat.le_refl _) _).setCell (Nat.le_refl _) _
theorem made2_below {w4 w5 : World} {o : Obj} (hb : Below w4.drew.heap.size w4.drew w5) : Below w4.heap.size w4 (w5.alloc o) := by
  have hk : Below w4.heap.size w4 w4.drew := (Below.refl _ _).drew
  have h := hk.trans (hb.mono hk.size)
  exact h.alloc h.size _
abbrev dc (d : Du (List Lim)) (A : Option Addr) (cap : Nat) : Array Value := #[.int .i64 (d.1 : Nat), .int .i64 (d.2.1 : Nat), .slice A d.2.2.length cap]
/-- what lies in memory ahead of the comparisons -/
structure Six (C : LC) (w W : World) (own : List Nat) (v ub last : Nat) (R : LL Pa) (A : Option Addr) (cap : Nat) (rr : LL (List Lim)) (A3 A4 : Option Addr) (d1 d2 : Du (List Lim)) (g13 g15 g17 g19 : Nat) (A13 A15 A17 A19 : Option Addr) (c13 c15 c17 c19 : Nat) : Prop where
  one : One C w W own v last (mapP pf R)
  doc : Doc w W own ub last R A (mapP pf R).length cap
  ds : Dues (fun _ => True) W A3 rr
  es : Dues (fun _ => True) W A4 rr
  ts : Dues (fun _ => True) W A (mapP pf R)
  b13 : Box W g13 38 (dc d1 A13 c13)
  l13 : Lims (fun _ => True) W A13 d1.2.2
  b15 : Box W g15 38 (dc d1 A15 c15)
  l15 : Lims (fun _ => True) W A15 d1.2.2
  b17 : Box W g17 38 (dc d2 A17 c17)
  l17 : Lims (fun _ => True) W A17 d2.2.2
  b19 : Box W g19 38 (dc d2 A19 c19)
  l19 : Lims (fun _ => True) W A19 d2.2.2
theorem Six.below {C : LC} {w W W' : World} {own : List Nat} {v ub last cap g13 g15 g17 g19 c13 c15 c17 c19 : Nat} {R : LL Pa} {A A3 A4 A13 A15 A17 A19 : Option Addr} {rr : LL (List Lim)} {d1 d2 : Du (List Lim)}
    (h : Six C w W own v ub last R A cap rr A3 A4 d1 d2 g13 g15 g17 g19 A13 A15 A17 A19 c13 c15 c17 c19) (hb : Below W.heap.size W W') : Six C w W' own v ub last R A cap rr A3 A4 d1 d2 g13 g15 g17 g19 A13 A15 A17 A19 c13 c15 c17 c19 :=
  ⟨h.one.below hb, h.doc.below hb, h.ds.keep hb, h.es.keep hb, h.ts.keep hb, h.b13.keep hb, h.l13.keep hb, h.b15.keep hb, h.l15.keep hb, h.b17.keep hb, h.l17.keep hb, h.b19.keep hb, h.l19.keep hb⟩
theorem id_ext {α : Type} {L : LL α} {last : Nat} (h : Good last L) : L.length ≤ 1000 := h.few

set_option maxHeartbeats 16000000 in
set_option maxRecDepth 100000 in
theorem steps_law (C : LC) (A : Option Addr) (cap : Nat) (L : List Dow) (id : Int) (w : World) (hD : Dos (fun b => b < w.heap.size) w A L) (hK : Fits L) (hZ : L.length ≤ 1048576) (hid : I64 id) :
    Calls Try.prog 3 #[.slice A L.length cap, .int .i64 id] w fun e w' => e = .returned (.bool true) ∧ Below w.heap.size w w' := by
  have HD := Lib.hid hD
  have HK := Lib.hid hK
  have HID := Lib.hid hid
  clear hD hK hid
  by_cases hL : 60 < L.length
  · have t1 : decide ((60 : Int) < (L.length : Int)) = true := decide_eq_true (by omega)
    go_enter Try.func3, Try.ntmps3
    go_wp2_with fail
    refine (known_calls C _).mono ?_
    rintro e w8 ⟨rfl, hb8⟩
    go_wp2_with fail
    go_ret
    exact ⟨rfl, hb8⟩
  have t1 : decide ((60 : Int) < (L.length : Int)) = false := decide_eq_false (by omega)
  go_enter Try.func3, Try.ntmps3
  go_wp2_with fail
  refine (Long_calls A cap L w HD.out (by omega)).mono ?_
  rintro e w1 ⟨⟨m1, rfl⟩, hb1⟩
  have B1 := Lib.hid hb1
  clear hb1
  by_cases hm : 300 < m1
  · have t2 : decide ((300 : Int) < m1) = true := decide_eq_true hm
    go_wp2_with fail
    refine (known_calls C _).mono ?_
    rintro e w8 ⟨rfl, hb8⟩
    go_wp2_with fail
    go_ret
    exact ⟨rfl, B1.out.trans (hb8.mono B1.out.size)⟩
  have t2 : decide ((300 : Int) < m1) = false := decide_eq_false hm
  go_wp2_with fail
  refine (C.new_ _).mono ?_
  rintro e w2 ⟨v, o1, rfl, a1, b1, l1⟩
  have T0 : Hid (∃ own last R A n cap, last ≤ 0 ∧ One C w (w2.alloc tzb) own v last (mapP pf R) ∧ RepL w R ∧ Good last R ∧ Doc w (w2.alloc tzb) own w2.heap.size last R A n cap) := Lib.hid (by
    have h0 : One C w w2 o1 v 0 (mapP pf []) := ⟨B1.out.trans (b1.mono B1.out.size), a1, fun x hx => Nat.le_trans B1.out.size (l1 x hx)⟩
    have hf : Free o1 (w2.alloc tzb) w2.heap.size := ⟨by simp, fun hc => Nat.lt_irrefl _ ((C.good a1).2.1 _ hc)⟩
    exact ⟨o1, 0, [], none, 0, 0, Nat.le_refl _, h0.below ((Below.refl _ _).alloc (Nat.le_refl _) _), RepL.nil _, Good.nil _, ⟨Box.new _ _ _, ⟨rfl, .nil _ _, fun _ => rfl, fun a ha => by cases ha⟩, hf, h0.1.size, fun a ha => by cases ha⟩⟩)
  clear a1 b1 l1 B1
  go_wp2_with fail
  generalize w2.heap.size = ub at T0 ⊢
  generalize w2.alloc _ = w5 at T0 ⊢
  go_loopw [7] (fun i wr => ∃ k : Nat, k ≤ L.length ∧ i = .int .i64 (k : Nat) ∧ Hid (∃ own last R A n cap, last ≤ k ∧ One C w wr own v last (mapP pf R) ∧ RepL w R ∧ Good last R ∧ Doc w wr own ub last R A n cap)) (fun i _ => L.length - (intOf i).toNat)
  case atStart => exact ⟨0, by omega, rfl, T0.out⟩
  case round =>
    clear T0
    obtain ⟨k, hk, rfl, H⟩ := hrel
    obtain ⟨own, last, R, A1, n1, cap1, hlk, hO, hR, hG, hDc⟩ := Hid.out H
    have O5 := Lib.hid hO
    have R5 := Lib.hid hR
    have G5 := Lib.hid hG
    have D5 := Lib.hid hDc
    clear H hO hR hG hDc
    by_cases hl : k < L.length
    · obtain ⟨a, ra, c0, c1, X1, capX, hXn, c2, hX⟩ := HD.out.at_ hl
      have hfit := HK.out L[k] (List.getElem_mem hl)
      subst ra
      generalize L[k] = d at c0 c1 c2 hX hfit
      obtain ⟨kd, nn, ls⟩ := d
      simp only at c0 c1 c2 hX hfit
      have C0 := Lib.hid c0
      have C1 := Lib.hid c1
      have C2 := Lib.hid c2
      have HX1 := Lib.hid hX
      have HXN1 := Lib.hid hXn
      have HFIT := Lib.hid hfit
      clear c0 c1 c2 hX hXn hfit
      have e0 := keep2 O5.out.1 C0.out
      have e1 := keep2 O5.out.1 C1.out
      have e2 := keep2 O5.out.1 C2.out
      go_wp2_with fail
      refine (did_calls O5.out.2.1 kd nn X1 capX ls (by omega) HFIT.out.1 ((HX1.out.keep O5.out.1).mono fun b hb => (O5.out.begun b hb).2) HXN1.out HFIT.out.2).mono ?_
      rw [stI_map, stR_map]
      rintro e w7 ⟨o7, A3, cap3, rfl, hr7, hA7, hk7⟩
      rw [stL_map (x := (ls, X1, ls.length, capX)) (f := pf), stN_map] at hA7
      have O7 := Lib.hid (O5.out.turn hA7 hk7)
      have D7 := Lib.hid (D5.out.goes (Kept.stands hk7) hk7.1.size)
      have R7 := Lib.hid (R5.out.step (k := kd) (n := nn) (cap := capX) (last := last) HX1.out HFIT.out.2)
      have G7 := Lib.hid (st_good G5.out kd nn (ls, X1, ls.length, capX))
      have S7 : Hid (Dues (fun b => b ≠ ub) w7 A3 (mapP pf (stR R kd nn))) := Lib.hid (hr7.mono fun b hb e => by
        subst e
        rcases hb.2 with h | h
        · cases h
        · have := D5.out.fb.1; omega)
      have Q7 := Lib.hid (R5.out.sub (Q := stR R kd nn) (fun d hd => mem_stR hd))
      have hlk2 := stN_le R last kd
      have hrl : (stR R kd nn).length ≤ 1000 := by
        have := G5.out.few
        unfold stR
        split
        · simp
        · split
          · cases getO R nn <;> simp
          · have := due_length (L := R) (clip nn); omega
      have HRL := Lib.hid hrl
      have HST : Hid (∀ W, Row W A1 n1 cap1 (mapP ps R) → Calls Try.prog 13 #[Pr.tv A1 n1 cap1 last, Pr.dv2 kd nn (X1, ls.length, capX)] W fun e w' => ∃ A' n' cap' A2 n2 cap2, e = .returned (.tuple #[Pr.tv A' n' cap' (stN R last kd), .int .i64 (stI R last kd nn), .slice A2 n2 cap2]) ∧ Row w' A' n' cap' (mapP ps (stL R last kd nn (ls, X1, ls.length, capX))) ∧ Pr.Src W.heap.size A1 A' ∧ Row w' A2 n2 cap2 (mapP ps (stR R kd nn)) ∧ Below W.heap.size W w') := Lib.hid (fun W hr => by
        have h := rstep_calls (mapP ps R) A1 n1 cap1 last kd nn (X1, ls.length, capX) W hr G5.out.mapP (by omega)
        rw [stN_map, stI_map, stR_map, show (X1, ls.length, capX) = ps (ls, X1, ls.length, capX) from rfl, stL_map] at h
        exact h)
      have u0 := D7.out.c0
      have u1 := D7.out.c1
      clear e0 e1 e2 hr7 hA7 hk7 O5 D5 R5 G5 hrl
      have e0 := keep2 O7.out.1 C0.out
      have e1 := keep2 O7.out.1 C1.out
      have e2 := keep2 O7.out.1 C2.out
      have i1 : (k : Int) < (L.length : Int) := by omega
      have i0 : ¬ (k : Int) < 0 := by omega
      generalize stL R last kd nn (ls, X1, ls.length, capX) = R2 at O7 R7 G7 HST
      generalize stN R last kd = la2 at O7 G7 HST hlk2
      generalize stI R last kd nn = x2 at HST ⊢
      generalize stR R kd nn = rr2 at HST S7 Q7 HRL ⊢
      go_upto_region 9 with (fail)
      go_cut [10, 11, 12] (fun s10 s11 s12 wx => ∃ vb2 A2 n2 cap2 A4 cap4, s10 = .pointer (some ⟨vb2, 0, none⟩) ∧ s11 = .int .i64 x2 ∧ s12 = .slice A4 (mapP pf rr2).length cap4 ∧ Hid (Nxt w wx o7 (fun W => One C w W o7 v la2 (mapP pf R2)) ub vb2 last la2 R R2 A1 A2 n1 cap1 n2 cap2 ∧ Dues (fun b => b ≠ ub) wx A3 (mapP pf rr2) ∧ Row wx A4 (mapP pf rr2).length cap4 (mapP ps rr2)))
      case first =>
        have hubl := D7.out.box.lt
        have zb : (a.add (k * 3)).block < w7.heap.size := World.block_lt_of_cell? w7 _ e0
        go_region_with (go_at_call 13; first | (refine (HST.out _ (D7.out.below (Below.refl _ _).drew).row).mono ?_; rintro e w9 ⟨A5, n5, cap5, A6, n6, cap6, rfl, hp5, hs5, hp6, hb5⟩; obtain rfl : n6 = (mapP pf rr2).length := (by rw [hp6.1, mapP_length, mapP_length]); have HN5 := Lib.hid (Nxt.made2 (last2 := la2) One.inv O7.out D7.out hb5 hp5 hs5); have HS5 := Lib.hid (S7.out.keep (made2_below (o := tbox A5 n5 cap5 la2) hb5)); have HP5 := Lib.hid (hp6.keep ((Below.refl w9.heap.size w9).alloc (Nat.le_refl _) (tbox A5 n5 cap5 la2))); clear hp5 hb5 hs5 hp6) | (refine (HST.out _ (D7.out.below ((Below.refl _ _).alloc (Nat.le_refl _) _).drew).row).mono ?_; rintro e w9 ⟨A5, n5, cap5, A6, n6, cap6, rfl, hp5, hs5, hp6, hb5⟩; obtain rfl : n6 = (mapP pf rr2).length := (by rw [hp6.1, mapP_length, mapP_length]); have BV5 : Box w9 w7.heap.size 29 #[.slice none 0 0, .int .i64 0] := (Box.drew (Box.new w7 _ _)).keep hb5; have v50 : w9.cell? ⟨w7.heap.size, 0, none⟩ = some (.slice none 0 0) := BV5.cell 0; have v51 : w9.cell? ⟨w7.heap.size, 1, none⟩ = some (.int .i64 0) := BV5.cell 1; have vf0 := BV5.free 0; have vf1 := BV5.free 1; have HN5 := Lib.hid (Nxt.made (last2 := la2) One.inv O7.out D7.out hb5 hp5 hs5); have HS5 := Lib.hid (S7.out.keep (made_below (x := .slice A5 n5 cap5) (y := .int .i64 (la2 : Nat)) hb5)); have HP5 := Lib.hid ((hp6.setBox BV5 (by decide) 0 (.slice A5 n5 cap5)).setBox (heap_setCell_same _ _ 0 _ _ _ BV5) (by decide) 1 (.int .i64 (la2 : Nat))); clear hp5 hb5 hs5 hp6 BV5))
        all_goals
          go_wp2_with fail
          go_meet
          case rel => exact ⟨_, _, _, _, _, _, rfl, rfl, rfl, HN5.out, HS5.out, HP5.out⟩
      case rest =>
        obtain ⟨vb2, A2, n2, cap2, A4, cap4, rfl, rfl, rfl, HC⟩ := hcut
        obtain ⟨hnx, hs, hp⟩ := Hid.out (show Hid (Nxt w wc o7 (fun W => One C w W o7 v la2 (mapP pf R2)) ub vb2 last la2 R R2 A1 A2 n1 cap1 n2 cap2 ∧ Dues (fun b => b ≠ ub) wc A3 (mapP pf rr2) ∧ Row wc A4 (mapP pf rr2).length cap4 (mapP ps rr2)) from HC)
        obtain rfl : n2 = (mapP pf R2).length := by rw [hnx.row.1, mapP_length, mapP_length]
        have v0 : wc.cell? ⟨vb2, 0, none⟩ = some (.slice A2 (mapP pf R2).length cap2) := hnx.box.cell 0
        have v1 : wc.cell? ⟨vb2, 1, none⟩ = some (.int .i64 (la2 : Nat)) := hnx.box.cell 1
        have w0' := hnx.doc.c0
        have w1' := hnx.doc.c1
        have uf0 := hnx.doc.box.free 0
        have uf1 := hnx.doc.box.free 1
        obtain ⟨hO8, hD8⟩ := hnx.over One.inv
        have O8 := Lib.hid hO8
        have D8 := Lib.hid hD8
        have S8 := Lib.hid ((hs.set 0 (.slice A2 (mapP pf R2).length cap2)).set 1 (.int .i64 (la2 : Nat)))
        have P8 := Lib.hid ((hp.setBox hnx.doc.box (by decide) 0 (.slice A2 (mapP pf R2).length cap2)).setBox (heap_setCell_same _ _ 0 _ _ _ hnx.doc.box) (by decide) 1 (.int .i64 (la2 : Nat)))
        clear O7 D7 e0 e1 e2 u0 u1 HC HST hnx hs hp hO8 hD8 S7
        have HRF := Lib.hid (fits_map Q7.out)
        have HTF := Lib.hid (fits_map R7.out)
        obtain ⟨f1, hf1⟩ : ∃ b, (getO R2 id).isSome = b := ⟨_, rfl⟩
        obtain ⟨f2, hf2⟩ : ∃ b, (nxt R2).isSome = b := ⟨_, rfl⟩
        go_upto_region 11 with (fail)
        generalize (wc.setCell _ _).setCell _ _ = W0 at O8 D8 S8 P8 ⊢
        clear v0 v1 w0' w1' uf0 uf1
        have u0 := D8.out.c0
        have u1 := D8.out.c1
        go_wp2_with fail
        have HD1 : Hid (∀ W, Below w.heap.size w W → ∃ A' cap', ev (oe ((getO R2 id).map (mapD ps))) = dv (od ((getO R2 id).map (mapD pf))) A' cap' ∧ Lims (fun _ => True) W A' (od ((getO R2 id).map (mapD pf))).2.2 ∧ (od ((getO R2 id).map (mapD pf))).2.2.length ≤ 1048576) := Lib.hid (fun W hb => R7.out.one hb (fun d h => (getO_mem h).1))
        have HD2 : Hid (∀ W, Below w.heap.size w W → ∃ A' cap', ev (oe ((nxt R2).map (mapD ps))) = dv (od ((nxt R2).map (mapD pf))) A' cap' ∧ Lims (fun _ => True) W A' (od ((nxt R2).map (mapD pf))).2.2 ∧ (od ((nxt R2).map (mapD pf))).2.2.length ≤ 1048576) := Lib.hid (fun W hb => R7.out.one hb (fun d h => ((nxt_some G7.out).1 h).1))
        generalize hg1 : od ((getO R2 id).map (mapD pf)) = d1 at HD1
        generalize hg2 : od ((nxt R2).map (mapD pf)) = d2 at HD2
        obtain ⟨i1', t1', l1'⟩ := d1
        obtain ⟨i2', t2', l2'⟩ := d2
        refine (C.get_ O8.out.2.1 id HID.out).mono ?_
        rw [mapP_getO, Option.isSome_map, hf1, hg1]
        rintro e w11 ⟨A13, c13, rfl, hl13, -, hb11⟩
        have hba : Below W0.heap.size W0 (w11.alloc (.cells (dc (i1', t1', l1') A13 c13) 38)) := hb11.alloc hb11.size _
        have O9 := Lib.hid (O8.out.below hba)
        have D9 := Lib.hid (D8.out.below hba)
        have S9 := Lib.hid (S8.out.keep hba)
        have P9 := Lib.hid (P8.out.keep hba)
        have X13 := Lib.hid (Box.new w11 38 (dc (i1', t1', l1') A13 c13))
        have L13 : Hid (Lims (fun _ => True) (w11.alloc (.cells (dc (i1', t1', l1') A13 c13) 38)) A13 l1') := Lib.hid ((hl13.mono fun _ _ => trivial).keep ((Below.refl _ _).alloc (Nat.le_refl _) _))
        clear hl13 hb11 hba O8 D8 S8 P8 u0 u1
        unfold dc at O9 D9 S9 P9 X13 L13
        go_upto_region 12 with (fail)
        generalize w11.heap.size = g13 at X13 ⊢
        generalize w11.alloc _ = W1 at O9 D9 S9 P9 X13 L13 ⊢
        have u0 := D9.out.c0
        have u1 := D9.out.c1
        go_wp2_with fail
        refine (rget_calls (mapP ps R2) A2 _ cap2 la2 id _ (by rw [mapP_length, mapP_length]) D9.out.row.2.1.1 (by rw [mapP_length]; have := G7.out.few; omega)).mono ?_
        obtain ⟨A15, c15, hev1, hl15, hlen1⟩ := HD1.out _ O9.out.1
        rw [mapP_getO, Option.isSome_map, hf1, hev1]
        rintro e w12 ⟨rfl, hb12⟩
        have hba : Below W1.heap.size W1 (w12.alloc (.cells (dc (i1', t1', l1') A15 c15) 38)) := hb12.alloc hb12.size _
        have O10 := Lib.hid (O9.out.below hba)
        have D10 := Lib.hid (D9.out.below hba)
        have S10 := Lib.hid (S9.out.keep hba)
        have P10 := Lib.hid (P9.out.keep hba)
        have Y13 := Lib.hid (X13.out.keep hba)
        have M13 := Lib.hid (L13.out.keep hba)
        have X15 := Lib.hid (Box.new w12 38 (dc (i1', t1', l1') A15 c15))
        have L15 := Lib.hid (hl15.keep hba)
        clear hb12 hba O9 D9 S9 P9 X13 L13 hev1 hl15 u0 u1 HD1
        unfold dc at O10 D10 S10 P10 Y13 M13 X15 L15
        go_upto_region 13 with (fail)
        generalize w12.heap.size = g15 at X15 ⊢
        generalize w12.alloc _ = W2 at O10 D10 S10 P10 Y13 M13 X15 L15 ⊢
        go_wp2_with fail
        refine (C.next_ O10.out.2.1).mono ?_
        rw [mapP_nxt, Option.isSome_map, hf2, hg2]
        rintro e w13 ⟨A17, c17, rfl, hl17, hb13⟩
        have hba : Below W2.heap.size W2 (w13.alloc (.cells (dc (i2', t2', l2') A17 c17) 38)) := hb13.alloc hb13.size _
        have O11 := Lib.hid (O10.out.below hba)
        have D11 := Lib.hid (D10.out.below hba)
        have S11 := Lib.hid (S10.out.keep hba)
        have P11 := Lib.hid (P10.out.keep hba)
        have Z13 := Lib.hid (Y13.out.keep hba)
        have N13 := Lib.hid (M13.out.keep hba)
        have Y15 := Lib.hid (X15.out.keep hba)
        have M15 := Lib.hid (L15.out.keep hba)
        have X17 := Lib.hid (Box.new w13 38 (dc (i2', t2', l2') A17 c17))
        have L17 : Hid (Lims (fun _ => True) (w13.alloc (.cells (dc (i2', t2', l2') A17 c17) 38)) A17 l2') := Lib.hid ((hl17.mono fun _ _ => trivial).keep ((Below.refl _ _).alloc (Nat.le_refl _) _))
        clear hl17 hb13 hba O10 D10 S10 P10 Y13 M13 X15 L15
        unfold dc at O11 D11 S11 P11 Z13 N13 Y15 M15 X17 L17
        go_upto_region 14 with (fail)
        generalize w13.heap.size = g17 at X17 ⊢
        generalize w13.alloc _ = W3 at O11 D11 S11 P11 Z13 N13 Y15 M15 X17 L17 ⊢
        have u0 := D11.out.c0
        have u1 := D11.out.c1
        go_wp2_with fail
        refine (rnext_calls (mapP ps R2) A2 _ cap2 la2 _ (by rw [mapP_length, mapP_length]) D11.out.row.2.1.1 G7.out.mapP).mono ?_
        obtain ⟨A19, c19, hev2, hl19, hlen2⟩ := HD2.out _ O11.out.1
        rw [mapP_nxt, Option.isSome_map, hf2, hev2]
        rintro e w14 ⟨rfl, hb14⟩
        have hba : Below W3.heap.size W3 (w14.alloc (.cells (dc (i2', t2', l2') A19 c19) 38)) := hb14.alloc hb14.size _
        have O12 := O11.out.below hba
        have D12 := D11.out.below hba
        have SIX : Hid (Six C w (w14.alloc (.cells #[.int .i64 (i2' : Nat), .int .i64 (t2' : Nat), .slice A19 l2'.length c19] 38)) o7 v ub la2 R2 A2 cap2 (mapP pf rr2) A3 A4 (i1', t1', l1') (i2', t2', l2') g13 g15 g17 w14.heap.size A13 A15 A17 A19 c13 c15 c17 c19) := Lib.hid
          ⟨O12, D12, (S11.out.keep hba).mono fun _ _ => trivial, (Q7.out.dues O12.1 (P11.out.keep hba)).1, (R7.out.dues O12.1 D12.row).1, Z13.out.keep hba, N13.out.keep hba, Y15.out.keep hba, M15.out.keep hba, X17.out.keep hba, L17.out.keep hba, Box.new _ _ _, hl19.keep hba⟩
        clear hb14 hba O11 D11 S11 P11 Z13 N13 Y15 M15 X17 L17 hev2 hl19 u0 u1 HD2 O12 D12
        have hrq : (mapP pf R2).length ≤ 1048576 := by rw [mapP_length]; have := G7.out.few; omega
        have hrr : (mapP pf rr2).length ≤ 1048576 := by rw [mapP_length]; have := HRL.out; omega
        have HREL : Hid (∀ W, One C w W o7 v la2 (mapP pf R2) → Doc w W o7 ub la2 R2 A2 (mapP pf R2).length cap2 → ∃ own last R A n cap, last ≤ k + 1 ∧ One C w W own v last (mapP pf R) ∧ RepL w R ∧ Good last R ∧ Doc w W own ub last R A n cap) := Lib.hid (fun W ho hd => ⟨o7, la2, R2, A2, _, cap2, by omega, ho, R7.out, G7.out, hd⟩)
        clear hg1 hg2 hf1 hf2 R7 G7 Q7 HRL
        go_upto_region 15 with (fail)
        generalize w14.heap.size = g19 at SIX ⊢
        generalize w14.alloc _ = W4 at SIX ⊢
        generalize hrqe : (mapP pf R2).length = rq at HREL ⊢
        generalize hrre : (mapP pf rr2).length = rrl at ⊢
        have HRQ := Lib.hid hrqe
        have HRR := Lib.hid hrre
        clear hrqe hrre
        have HSA : Hid (∀ W, Dues (fun _ => True) W A3 (mapP pf rr2) → Dues (fun _ => True) W A4 (mapP pf rr2) → Calls Try.prog 18 #[.slice A3 rrl cap3, .slice A4 rrl cap4] W fun e w' => e = .returned (.bool true) ∧ Below W.heap.size W w') := Lib.hid (fun W h1 h2 => by rw [← HRR.out]; exact same_calls A3 A4 cap3 cap4 (mapP pf rr2) W h1 h2 hrr HRF.out)
        have HSB : Hid (∀ W A9 cap9, Dues (fun _ => True) W A9 (mapP pf R2) → Dues (fun _ => True) W A2 (mapP pf R2) → Calls Try.prog 18 #[.slice A9 rq cap9, .slice A2 rq cap2] W fun e w' => e = .returned (.bool true) ∧ Below W.heap.size W w') := Lib.hid (fun W A9 cap9 h1 h2 => by rw [← HRQ.out]; exact same_calls A9 A2 cap9 cap2 (mapP pf R2) W h1 h2 hrq HTF.out)
        have tx : (x2 != x2) = false := bne_self_eq_false x2
        have tb1 : (f1 == f1) = true := beq_self_eq_true f1
        have tb2 : (f2 == f2) = true := beq_self_eq_true f2
        have tb3 : (f1 != f1) = false := bne_self_eq_false f1
        have tb4 : (f2 != f2) = false := bne_self_eq_false f2
        have tl : ((rq : Int) != (rq : Int)) = false := bne_self_eq_false _
        go_cut [126] (fun s126 wx => s126 = .bool false ∧ Hid (One C w wx o7 v la2 (mapP pf R2) ∧ Doc w wx o7 ub la2 R2 A2 (mapP pf R2).length cap2))
        case first =>
          have K0 := Lib.hid (SIX.out.below (Below.refl _ _).drew)
          have s0 : W4.cell? ⟨ub, 0, none⟩ = some (.slice A2 rq cap2) := (by rw [← HRQ.out]; exact SIX.out.doc.box.cell 0)
          have s1 : W4.cell? ⟨g13, 0, none⟩ = some (.int .i64 (i1' : Nat)) := SIX.out.b13.cell 0
          have s2 : W4.cell? ⟨g13, 1, none⟩ = some (.int .i64 (t1' : Nat)) := SIX.out.b13.cell 1
          have s3 : W4.cell? ⟨g13, 2, none⟩ = some (.slice A13 l1'.length c13) := SIX.out.b13.cell 2
          have s4 : W4.cell? ⟨g15, 0, none⟩ = some (.int .i64 (i1' : Nat)) := SIX.out.b15.cell 0
          have s5 : W4.cell? ⟨g15, 1, none⟩ = some (.int .i64 (t1' : Nat)) := SIX.out.b15.cell 1
          have s6 : W4.cell? ⟨g15, 2, none⟩ = some (.slice A15 l1'.length c15) := SIX.out.b15.cell 2
          have s7 : W4.cell? ⟨g17, 0, none⟩ = some (.int .i64 (i2' : Nat)) := SIX.out.b17.cell 0
          have s8 : W4.cell? ⟨g17, 1, none⟩ = some (.int .i64 (t2' : Nat)) := SIX.out.b17.cell 1
          have s9 : W4.cell? ⟨g17, 2, none⟩ = some (.slice A17 l2'.length c17) := SIX.out.b17.cell 2
          have s10 : W4.cell? ⟨g19, 0, none⟩ = some (.int .i64 (i2' : Nat)) := SIX.out.b19.cell 0
          have s11 : W4.cell? ⟨g19, 1, none⟩ = some (.int .i64 (t2' : Nat)) := SIX.out.b19.cell 1
          have s12 : W4.cell? ⟨g19, 2, none⟩ = some (.slice A19 l2'.length c19) := SIX.out.b19.cell 2
          go_region_held3 (fun w' => w'.cell? ⟨ub, 0, none⟩ = some (.slice A2 rq cap2) ∧ w'.cell? ⟨g13, 0, none⟩ = some (.int .i64 (i1' : Nat)) ∧ w'.cell? ⟨g13, 1, none⟩ = some (.int .i64 (t1' : Nat)) ∧ w'.cell? ⟨g13, 2, none⟩ = some (.slice A13 l1'.length c13) ∧ w'.cell? ⟨g15, 0, none⟩ = some (.int .i64 (i1' : Nat)) ∧ w'.cell? ⟨g15, 1, none⟩ = some (.int .i64 (t1' : Nat)) ∧ w'.cell? ⟨g15, 2, none⟩ = some (.slice A15 l1'.length c15) ∧ w'.cell? ⟨g17, 0, none⟩ = some (.int .i64 (i2' : Nat)) ∧ w'.cell? ⟨g17, 1, none⟩ = some (.int .i64 (t2' : Nat)) ∧ w'.cell? ⟨g17, 2, none⟩ = some (.slice A17 l2'.length c17) ∧ w'.cell? ⟨g19, 0, none⟩ = some (.int .i64 (i2' : Nat)) ∧ w'.cell? ⟨g19, 1, none⟩ = some (.int .i64 (t2' : Nat)) ∧ w'.cell? ⟨g19, 2, none⟩ = some (.slice A19 l2'.length c19)) (go_keep) (first | (go_at_call 18; refine (HSA.out _ K0.out.ds K0.out.es).mono ?_; rintro e wa ⟨rfl, hb0⟩; have K1 := Lib.hid (K0.out.below hb0); have k1_0 : wa.cell? ⟨ub, 0, none⟩ = some (.slice A2 rq cap2) := (by rw [← HRQ.out]; exact K1.out.doc.box.cell 0); have k1_1 : wa.cell? ⟨g13, 0, none⟩ = some (.int .i64 (i1' : Nat)) := K1.out.b13.cell 0; have k1_2 : wa.cell? ⟨g13, 1, none⟩ = some (.int .i64 (t1' : Nat)) := K1.out.b13.cell 1; have k1_3 : wa.cell? ⟨g13, 2, none⟩ = some (.slice A13 l1'.length c13) := K1.out.b13.cell 2; have k1_4 : wa.cell? ⟨g15, 0, none⟩ = some (.int .i64 (i1' : Nat)) := K1.out.b15.cell 0; have k1_5 : wa.cell? ⟨g15, 1, none⟩ = some (.int .i64 (t1' : Nat)) := K1.out.b15.cell 1; have k1_6 : wa.cell? ⟨g15, 2, none⟩ = some (.slice A15 l1'.length c15) := K1.out.b15.cell 2; have k1_7 : wa.cell? ⟨g17, 0, none⟩ = some (.int .i64 (i2' : Nat)) := K1.out.b17.cell 0; have k1_8 : wa.cell? ⟨g17, 1, none⟩ = some (.int .i64 (t2' : Nat)) := K1.out.b17.cell 1; have k1_9 : wa.cell? ⟨g17, 2, none⟩ = some (.slice A17 l2'.length c17) := K1.out.b17.cell 2; have k1_10 : wa.cell? ⟨g19, 0, none⟩ = some (.int .i64 (i2' : Nat)) := K1.out.b19.cell 0; have k1_11 : wa.cell? ⟨g19, 1, none⟩ = some (.int .i64 (t2' : Nat)) := K1.out.b19.cell 1; have k1_12 : wa.cell? ⟨g19, 2, none⟩ = some (.slice A19 l2'.length c19) := K1.out.b19.cell 2; clear hb0 K0) | (go_at_call 19; refine (sameDue_calls (i1', t1', l1') A13 A15 c13 c15 _ K1.out.l13 K1.out.l15 hlen1).mono ?_; rintro e wb ⟨rfl, hb1⟩; have K2 := Lib.hid (K1.out.below hb1); have k2_0 : wb.cell? ⟨ub, 0, none⟩ = some (.slice A2 rq cap2) := (by rw [← HRQ.out]; exact K2.out.doc.box.cell 0); have k2_1 : wb.cell? ⟨g13, 0, none⟩ = some (.int .i64 (i1' : Nat)) := K2.out.b13.cell 0; have k2_2 : wb.cell? ⟨g13, 1, none⟩ = some (.int .i64 (t1' : Nat)) := K2.out.b13.cell 1; have k2_3 : wb.cell? ⟨g13, 2, none⟩ = some (.slice A13 l1'.length c13) := K2.out.b13.cell 2; have k2_4 : wb.cell? ⟨g15, 0, none⟩ = some (.int .i64 (i1' : Nat)) := K2.out.b15.cell 0; have k2_5 : wb.cell? ⟨g15, 1, none⟩ = some (.int .i64 (t1' : Nat)) := K2.out.b15.cell 1; have k2_6 : wb.cell? ⟨g15, 2, none⟩ = some (.slice A15 l1'.length c15) := K2.out.b15.cell 2; have k2_7 : wb.cell? ⟨g17, 0, none⟩ = some (.int .i64 (i2' : Nat)) := K2.out.b17.cell 0; have k2_8 : wb.cell? ⟨g17, 1, none⟩ = some (.int .i64 (t2' : Nat)) := K2.out.b17.cell 1; have k2_9 : wb.cell? ⟨g17, 2, none⟩ = some (.slice A17 l2'.length c17) := K2.out.b17.cell 2; have k2_10 : wb.cell? ⟨g19, 0, none⟩ = some (.int .i64 (i2' : Nat)) := K2.out.b19.cell 0; have k2_11 : wb.cell? ⟨g19, 1, none⟩ = some (.int .i64 (t2' : Nat)) := K2.out.b19.cell 1; have k2_12 : wb.cell? ⟨g19, 2, none⟩ = some (.slice A19 l2'.length c19) := K2.out.b19.cell 2; clear hb1 K1; clear k1_0 k1_1 k1_2 k1_3 k1_4 k1_5 k1_6 k1_7 k1_8 k1_9 k1_10 k1_11 k1_12) | (go_at_call 19; refine (sameDue_calls (i2', t2', l2') A17 A19 c17 c19 _ K2.out.l17 K2.out.l19 hlen2).mono ?_; rintro e wd ⟨rfl, hb2⟩; have K3 := Lib.hid (K2.out.below hb2); have k3_0 : wd.cell? ⟨ub, 0, none⟩ = some (.slice A2 rq cap2) := (by rw [← HRQ.out]; exact K3.out.doc.box.cell 0); have k3_1 : wd.cell? ⟨g13, 0, none⟩ = some (.int .i64 (i1' : Nat)) := K3.out.b13.cell 0; have k3_2 : wd.cell? ⟨g13, 1, none⟩ = some (.int .i64 (t1' : Nat)) := K3.out.b13.cell 1; have k3_3 : wd.cell? ⟨g13, 2, none⟩ = some (.slice A13 l1'.length c13) := K3.out.b13.cell 2; have k3_4 : wd.cell? ⟨g15, 0, none⟩ = some (.int .i64 (i1' : Nat)) := K3.out.b15.cell 0; have k3_5 : wd.cell? ⟨g15, 1, none⟩ = some (.int .i64 (t1' : Nat)) := K3.out.b15.cell 1; have k3_6 : wd.cell? ⟨g15, 2, none⟩ = some (.slice A15 l1'.length c15) := K3.out.b15.cell 2; have k3_7 : wd.cell? ⟨g17, 0, none⟩ = some (.int .i64 (i2' : Nat)) := K3.out.b17.cell 0; have k3_8 : wd.cell? ⟨g17, 1, none⟩ = some (.int .i64 (t2' : Nat)) := K3.out.b17.cell 1; have k3_9 : wd.cell? ⟨g17, 2, none⟩ = some (.slice A17 l2'.length c17) := K3.out.b17.cell 2; have k3_10 : wd.cell? ⟨g19, 0, none⟩ = some (.int .i64 (i2' : Nat)) := K3.out.b19.cell 0; have k3_11 : wd.cell? ⟨g19, 1, none⟩ = some (.int .i64 (t2' : Nat)) := K3.out.b19.cell 1; have k3_12 : wd.cell? ⟨g19, 2, none⟩ = some (.slice A19 l2'.length c19) := K3.out.b19.cell 2; clear hb2 K2; clear k2_0 k2_1 k2_2 k2_3 k2_4 k2_5 k2_6 k2_7 k2_8 k2_9 k2_10 k2_11 k2_12) | (go_at_call 20; refine (C.len_ K3.out.one.2.1).mono ?_; rw [HRQ.out]; rintro e we ⟨rfl, hb3⟩; have K4 := Lib.hid (K3.out.below hb3); have k4_0 : we.cell? ⟨ub, 0, none⟩ = some (.slice A2 rq cap2) := (by rw [← HRQ.out]; exact K4.out.doc.box.cell 0); have k4_1 : we.cell? ⟨g13, 0, none⟩ = some (.int .i64 (i1' : Nat)) := K4.out.b13.cell 0; have k4_2 : we.cell? ⟨g13, 1, none⟩ = some (.int .i64 (t1' : Nat)) := K4.out.b13.cell 1; have k4_3 : we.cell? ⟨g13, 2, none⟩ = some (.slice A13 l1'.length c13) := K4.out.b13.cell 2; have k4_4 : we.cell? ⟨g15, 0, none⟩ = some (.int .i64 (i1' : Nat)) := K4.out.b15.cell 0; have k4_5 : we.cell? ⟨g15, 1, none⟩ = some (.int .i64 (t1' : Nat)) := K4.out.b15.cell 1; have k4_6 : we.cell? ⟨g15, 2, none⟩ = some (.slice A15 l1'.length c15) := K4.out.b15.cell 2; have k4_7 : we.cell? ⟨g17, 0, none⟩ = some (.int .i64 (i2' : Nat)) := K4.out.b17.cell 0; have k4_8 : we.cell? ⟨g17, 1, none⟩ = some (.int .i64 (t2' : Nat)) := K4.out.b17.cell 1; have k4_9 : we.cell? ⟨g17, 2, none⟩ = some (.slice A17 l2'.length c17) := K4.out.b17.cell 2; have k4_10 : we.cell? ⟨g19, 0, none⟩ = some (.int .i64 (i2' : Nat)) := K4.out.b19.cell 0; have k4_11 : we.cell? ⟨g19, 1, none⟩ = some (.int .i64 (t2' : Nat)) := K4.out.b19.cell 1; have k4_12 : we.cell? ⟨g19, 2, none⟩ = some (.slice A19 l2'.length c19) := K4.out.b19.cell 2; clear hb3 K3; clear k3_0 k3_1 k3_2 k3_3 k3_4 k3_5 k3_6 k3_7 k3_8 k3_9 k3_10 k3_11 k3_12) | (go_at_call 21; refine (C.all_ K4.out.one.2.1).mono ?_; rw [HRQ.out]; rintro e wf ⟨A9, cap9, rfl, hr9, hb4⟩; have K5 := Lib.hid (K4.out.below hb4); have R9 := Lib.hid (hr9.mono (T := fun _ => True) fun _ _ => trivial); clear hr9; have k5_0 : wf.cell? ⟨ub, 0, none⟩ = some (.slice A2 rq cap2) := (by rw [← HRQ.out]; exact K5.out.doc.box.cell 0); have k5_1 : wf.cell? ⟨g13, 0, none⟩ = some (.int .i64 (i1' : Nat)) := K5.out.b13.cell 0; have k5_2 : wf.cell? ⟨g13, 1, none⟩ = some (.int .i64 (t1' : Nat)) := K5.out.b13.cell 1; have k5_3 : wf.cell? ⟨g13, 2, none⟩ = some (.slice A13 l1'.length c13) := K5.out.b13.cell 2; have k5_4 : wf.cell? ⟨g15, 0, none⟩ = some (.int .i64 (i1' : Nat)) := K5.out.b15.cell 0; have k5_5 : wf.cell? ⟨g15, 1, none⟩ = some (.int .i64 (t1' : Nat)) := K5.out.b15.cell 1; have k5_6 : wf.cell? ⟨g15, 2, none⟩ = some (.slice A15 l1'.length c15) := K5.out.b15.cell 2; have k5_7 : wf.cell? ⟨g17, 0, none⟩ = some (.int .i64 (i2' : Nat)) := K5.out.b17.cell 0; have k5_8 : wf.cell? ⟨g17, 1, none⟩ = some (.int .i64 (t2' : Nat)) := K5.out.b17.cell 1; have k5_9 : wf.cell? ⟨g17, 2, none⟩ = some (.slice A17 l2'.length c17) := K5.out.b17.cell 2; have k5_10 : wf.cell? ⟨g19, 0, none⟩ = some (.int .i64 (i2' : Nat)) := K5.out.b19.cell 0; have k5_11 : wf.cell? ⟨g19, 1, none⟩ = some (.int .i64 (t2' : Nat)) := K5.out.b19.cell 1; have k5_12 : wf.cell? ⟨g19, 2, none⟩ = some (.slice A19 l2'.length c19) := K5.out.b19.cell 2; clear hb4 K4; clear k4_0 k4_1 k4_2 k4_3 k4_4 k4_5 k4_6 k4_7 k4_8 k4_9 k4_10 k4_11 k4_12) | (go_at_call 18; refine (HSB.out _ A9 cap9 R9.out K5.out.ts).mono ?_; rintro e wg ⟨rfl, hb5⟩; have K6 := Lib.hid (K5.out.below hb5); have k6_0 : wg.cell? ⟨ub, 0, none⟩ = some (.slice A2 rq cap2) := (by rw [← HRQ.out]; exact K6.out.doc.box.cell 0); have k6_1 : wg.cell? ⟨g13, 0, none⟩ = some (.int .i64 (i1' : Nat)) := K6.out.b13.cell 0; have k6_2 : wg.cell? ⟨g13, 1, none⟩ = some (.int .i64 (t1' : Nat)) := K6.out.b13.cell 1; have k6_3 : wg.cell? ⟨g13, 2, none⟩ = some (.slice A13 l1'.length c13) := K6.out.b13.cell 2; have k6_4 : wg.cell? ⟨g15, 0, none⟩ = some (.int .i64 (i1' : Nat)) := K6.out.b15.cell 0; have k6_5 : wg.cell? ⟨g15, 1, none⟩ = some (.int .i64 (t1' : Nat)) := K6.out.b15.cell 1; have k6_6 : wg.cell? ⟨g15, 2, none⟩ = some (.slice A15 l1'.length c15) := K6.out.b15.cell 2; have k6_7 : wg.cell? ⟨g17, 0, none⟩ = some (.int .i64 (i2' : Nat)) := K6.out.b17.cell 0; have k6_8 : wg.cell? ⟨g17, 1, none⟩ = some (.int .i64 (t2' : Nat)) := K6.out.b17.cell 1; have k6_9 : wg.cell? ⟨g17, 2, none⟩ = some (.slice A17 l2'.length c17) := K6.out.b17.cell 2; have k6_10 : wg.cell? ⟨g19, 0, none⟩ = some (.int .i64 (i2' : Nat)) := K6.out.b19.cell 0; have k6_11 : wg.cell? ⟨g19, 1, none⟩ = some (.int .i64 (t2' : Nat)) := K6.out.b19.cell 1; have k6_12 : wg.cell? ⟨g19, 2, none⟩ = some (.slice A19 l2'.length c19) := K6.out.b19.cell 2; clear hb5 K5; clear k5_0 k5_1 k5_2 k5_3 k5_4 k5_5 k5_6 k5_7 k5_8 k5_9 k5_10 k5_11 k5_12))
          all_goals
            go_wp2_with fail
            go_meet
            case rel => exact ⟨rfl, K6.out.one, K6.out.doc⟩
        case rest =>
          obtain ⟨rfl, HC⟩ := hcut
          obtain ⟨hO, hDo⟩ := Hid.out (show Hid (One C w wc o7 v la2 (mapP pf R2) ∧ Doc w wc o7 ub la2 R2 A2 (mapP pf R2).length cap2) from HC)
          have HR2 := Lib.hid (HREL.out wc hO (by rw [← HRQ.out]; exact hDo))
          clear hO hDo HC SIX
          go_wp2_with fail
          go_roundw
          case rel => exact ⟨k + 1, by omega, by go_num, HR2.out⟩
          case measure => simp [intOf]; omega
    · go_wp2_with fail
      refine (known_calls C _).mono ?_
      rintro e w8 ⟨rfl, hb8⟩
      have O6 := Lib.hid (O5.out.below hb8)
      clear hb8
      go_wp2_with fail
      go_ret
      exact ⟨rfl, O6.out.1⟩
end Go.Proofs.Ytplinlgafgfepaa.Ld
