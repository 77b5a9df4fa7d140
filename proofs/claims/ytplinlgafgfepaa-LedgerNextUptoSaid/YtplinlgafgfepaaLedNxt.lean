/-
  The walk of LedgerNext.
-/
import Derived.Test.YtplinlgafgfepaaLedQ
namespace Go.Proofs.Ytplinlgafgfepaa.Ld
open Go.RowKit
open Pr (Box)

variable {C : LC}
/-- a due's box, as it comes out of a call -/
theorem dbox_cells {w : World} {g : Nat} {d : Du (List Lim)} {A : Option Addr} {cap : Nat} (h : Box w g 38 #[.int .i64 (d.1 : Nat), .int .i64 (d.2.1 : Nat), .slice A d.2.2.length cap]) :
    w.cell? ⟨g, 0, none⟩ = some (.int .i64 (d.1 : Nat)) ∧ w.cell? ⟨g, 1, none⟩ = some (.int .i64 (d.2.1 : Nat)) ∧ w.cell? ⟨g, 2, none⟩ = some (.slice A d.2.2.length cap) := ⟨h.cell 0, h.cell 1, h.cell 2⟩
theorem due_drop {last : Nat} {L : LL (List Lim)} {T : Nat} (hg : Good last L) {x : Du (List Lim)} {D : LL (List Lim)} (h : due L T = x :: D) (hT : ∀ y ∈ L, y.2.1 ≤ T) : nxt L = some x ∧ due (rem L x.1) T = D := by
  have hx : nxt L = some x := by
    refine (nxt_some hg).2 ⟨(mem_due.1 (by rw [h]; simp)).1, fun y hy hne => ?_⟩
    have hs := due_sorted hg T
    rw [h, List.pairwise_cons] at hs
    have hm : y ∈ due L T := mem_due.2 ⟨hy, hT y hy⟩
    rw [h] at hm
    exact hs.1 y ((List.mem_cons.1 hm).resolve_left hne)
  have h2 := (due_cons hg hx (t := T) (mem_due.1 (show x ∈ due L T by rw [h]; simp)).2).1
  rw [h] at h2
  injection h2 with _ h3
  exact ⟨hx, h3.symm⟩

/-- the things to do are done, one by one -/
theorem did_one {w0 w : World} {own : List Nat} {v last : Nat} {L : LL (List Lim)} (h : One C w0 w own v last L) (k n : Int) (X : Option Addr) (cap : Nat) (ls : List Lim) (hlast : last < 4611686018427387904) (hn : I64 n) (hX : Lims (fun b => b < w0.heap.size) w X ls) (hXn : X = none → cap = 0) (hl : ls.length ≤ 1048576) :
    Calls Try.prog 12 #[.pointer (some ⟨v, 0, none⟩), .agg #[.int .i64 k, .int .i64 n, .slice X ls.length cap]] w fun e w' => ∃ own' A cap', e = .returned (.tuple #[.int .i64 (stI L last k n), .slice A (stR L k n).length cap']) ∧ Dues (Out own own' w w') w' A (stR L k n) ∧ One C w0 w' own' v (stN L last k) (stL L last k n ls) ∧ Kept own w own' w' :=
  (did_calls h.2.1 k n X cap ls hlast hn (hX.mono fun b hb => (h.begun b hb).2) hXn hl).mono fun _ _ ⟨o', A, c, e, h1, h2, h3⟩ => ⟨o', A, c, e, h1, h.turn h2 h3, h3⟩

set_option maxHeartbeats 8000000 in
set_option maxRecDepth 100000 in
theorem next_law (C : LC) (A : Option Addr) (cap : Nat) (L : List Dow) (w : World) (hD : Dos (fun b => b < w.heap.size) w A L) (hK : Fits L) (hZ : L.length ≤ 1048576) :
    Calls Try.prog 7 #[.slice A L.length cap] w fun e w' => e = .returned (.bool true) ∧ Below w.heap.size w w' := by
  have HD := Lib.hid hD
  have HK := Lib.hid hK
  clear hD hK
  by_cases hL : 60 < L.length
  · have t1 : decide ((60 : Int) < (L.length : Int)) = true := decide_eq_true (by omega)
    go_enter Try.func7, Try.ntmps7
    go_wp2_with fail
    refine (known_calls C _).mono ?_
    rintro e w8 ⟨rfl, hb8⟩
    go_wp2_with fail
    go_ret
    exact ⟨rfl, hb8⟩
  have t1 : decide ((60 : Int) < (L.length : Int)) = false := decide_eq_false (by omega)
  go_enter Try.func7, Try.ntmps7
  go_wp2_with fail
  refine (Long_calls A cap L w HD.out (by omega)).mono ?_
  rintro e w1 ⟨⟨m1, rfl⟩, hb1⟩
  have B1 := Lib.hid hb1
  clear hb1
  by_cases hm : 300 < m1
  · have t2 : decide ((300 : Int) < m1) = true := decide_eq_true hm
    go_wp2_with fail
    refine (known_calls C _).mono ?_
    rintro e w8 ⟨rfl, hb8⟩
    go_wp2_with fail
    go_ret
    exact ⟨rfl, B1.out.trans (hb8.mono B1.out.size)⟩
  have t2 : decide ((300 : Int) < m1) = false := decide_eq_false hm
  go_wp2_with fail
  refine (C.new_ _).mono ?_
  rintro e w2 ⟨v, o1, rfl, a1, b1, l1⟩
  have H1 : Hid (∃ own last Q, last ≤ 0 ∧ One C w w2 own v last Q) := Lib.hid ⟨o1, 0, [], Nat.le_refl _, B1.out.trans (b1.mono B1.out.size), a1, fun x hx => Nat.le_trans B1.out.size (l1 x hx)⟩
  clear a1 b1 l1 B1
  go_wp2_with fail
  go_loopw [4] (fun i wr => ∃ k : Nat, k ≤ L.length ∧ i = .int .i64 (k : Nat) ∧ Hid (∃ own last Q, last ≤ k ∧ One C w wr own v last Q)) (fun i _ => L.length - (intOf i).toNat)
  case atStart => exact ⟨0, by omega, rfl, H1.out⟩
  case round =>
    clear H1
    obtain ⟨k, hk, rfl, H⟩ := hrel
    obtain ⟨own, last, Q, hlk, h⟩ := Hid.out H
    have H2 := Lib.hid h
    clear H h
    by_cases hlt : k < L.length
    · obtain ⟨a, rfl, c0, c1, X, capX, hXn, c2, hX⟩ := (HD.out.keep H2.out.1).at_ hlt
      have hfit := HK.out L[k] (List.getElem_mem hlt)
      generalize L[k] = d at c0 c1 c2 hX hfit
      obtain ⟨kd, nn, ls⟩ := d
      simp only at c0 c1 c2 hX hfit
      have HX := Lib.hid hX
      have HXN := Lib.hid hXn
      have HFIT := Lib.hid hfit
      clear hX hfit hXn
      go_wp2_with fail
      refine (did_one H2.out kd nn X capX ls (by omega) HFIT.out.1 HX.out HXN.out HFIT.out.2).mono ?_
      rintro e w3 ⟨o3, A3, cap3, rfl, -, h3, -⟩
      have H3 := Lib.hid h3
      have hl3 := stN_le Q last kd
      clear h3 H2 c0 c1 c2
      go_wp2_with fail
      go_roundw
      case rel => exact ⟨k + 1, by omega, by go_num, _, _, _, by omega, H3.out⟩
      case measure => simp [intOf]; omega
    · have hg := H2.out.good
      have HG := Lib.hid hg
      clear hg
      go_wp2_with fail
      refine (C.copy_ H2.out.2.1).mono ?_
      rintro e w3 ⟨u, o3, rfl, a3, l3, b3⟩
      have T3 : Hid (Two C w w3 own o3 v u last last Q Q) := Lib.hid (H2.out.copied a3 l3 b3)
      clear a3 l3 b3 H2
      go_wp2_with fail
      refine (C.due_ T3.out.2.2.1 9007199254740992 (by omega)).mono ?_
      have hcl : clip 9007199254740992 = 9007199254740992 := by decide
      rw [hcl]
      rintro e w4 ⟨o4, A4, cap4, rfl, -, hr, a4, k4⟩
      obtain ⟨D, hD⟩ : ∃ D, due Q 9007199254740992 = D := ⟨_, rfl⟩
      rw [hD] at hr ⊢
      have hall : left Q 9007199254740992 = [] := left_all HG.out (Nat.le_refl _)
      rw [hall] at a4
      have T4 := Lib.hid (T3.out.rot.turn a4 k4).rot
      have R4 : Hid (Dues (Free (own ++ o4) w4) w4 A4 D) := Lib.hid (hr.mono fun b hb => by
        have := T3.out.rot.out (C := C) hb
        exact ⟨this.1, fun hc => this.2 (List.mem_append.2 ((List.mem_append.1 hc).symm))⟩)
      have HDL : Hid (D.length ≤ 1000) := Lib.hid (by have := due_length (L := Q) 9007199254740992; have := HG.out.few; rw [hD] at *; omega)
      have HDF : Hid (∀ x ∈ D, x.2.2.length ≤ 1048576) := Lib.hid (fun x hx => (C.good T3.out.2.1).2.2 x (by rw [← hD] at hx; exact (mem_due.1 hx).1))
      have HD4 := Lib.hid hD
      clear hr a4 k4 T3 hall hD
      go_wp2_with fail
      go_loopw [7] (fun i wr => ∃ j : Nat, j ≤ D.length ∧ i = .int .i64 (j : Nat) ∧ Hid (∃ o1 P, Two C w wr o1 o4 v u last last P [] ∧ Dues (Free (o1 ++ o4) wr) wr A4 D ∧ due P 9007199254740992 = D.drop j)) (fun i _ => D.length - (intOf i).toNat)
      case atStart => exact ⟨0, Nat.zero_le _, rfl, own, Q, T4.out, R4.out, HD4.out⟩
      case round =>
        clear T4 R4 HD4 HG
        obtain ⟨j, hj, rfl, H⟩ := hrel
        obtain ⟨o5, P, hT, hR, hE⟩ := Hid.out H
        have T5 := Lib.hid hT
        have R5 := Lib.hid hR
        have E5 := Lib.hid hE
        clear H hT hR hE
        have hgP : Good last P := T5.out.fst.good
        have hdl : D.length ≤ 1000 := HDL.out
        have hPT : ∀ y ∈ P, y.2.1 ≤ 9007199254740992 := fun y hy => (hgP.fits y hy).2.2
        by_cases hlt : j < D.length
        · have hdr : due P 9007199254740992 = D[j] :: D.drop (j + 1) := by rw [E5.out, List.drop_eq_getElem_cons hlt]
          obtain ⟨hnx, hrest⟩ := due_drop hgP hdr hPT
          have hgo := getO_some hgP (((nxt_some hgP).1 hnx).1)
          have hi64 : I64 ((D[j].1 : Nat) : Int) := ⟨by omega, by have := (hgP.fits _ (((nxt_some hgP).1 hnx).1)).2.1; omega⟩
          have hfx := HDF.out _ (List.getElem_mem hlt)
          obtain ⟨a4, ra, -, d0, d1, A', cap', d2, hLd⟩ := R5.out.at_ hlt
          generalize D[j] = d at hnx hrest hgo hi64 hfx d0 d1 d2 hLd
          clear hdr
          have HNX := Lib.hid hnx
          have HRE := Lib.hid hrest
          have HGO := Lib.hid hgo
          have HI := Lib.hid hi64
          have HFX := Lib.hid hfx
          have HLD := Lib.hid hLd
          clear hnx hrest hgo hi64 hfx hLd hgP hPT E5
          subst ra
          go_wp2_with fail
          refine (C.next_ T5.out.2.1).mono ?_
          rw [HNX.out, show od (some d) = d from rfl]
          simp only [Option.isSome_some]
          rintro e w6 ⟨A6, cap6, rfl, hl6, hb6⟩
          have hbx : Below wr.heap.size wr (w6.alloc (.cells #[.int .i64 (d.1 : Nat), .int .i64 (d.2.1 : Nat), .slice A6 d.2.2.length cap6] 38)) := hb6.alloc hb6.size _
          have T6 := Lib.hid (T5.out.below hbx)
          have R6 := Lib.hid (R5.out.goes (T := Free (o5 ++ o4) (w6.alloc (.cells #[.int .i64 (d.1 : Nat), .int .i64 (d.2.1 : Nat), .slice A6 d.2.2.length cap6] 38))) (Below.stands hbx))
          have L6 : Hid (Lims (Free (o5 ++ o4) (w6.alloc (.cells #[.int .i64 (d.1 : Nat), .int .i64 (d.2.1 : Nat), .slice A6 d.2.2.length cap6] 38))) (w6.alloc (.cells #[.int .i64 (d.1 : Nat), .int .i64 (d.2.1 : Nat), .slice A6 d.2.2.length cap6] 38)) A6 d.2.2) :=
            Lib.hid ((show Lims (Out [] o5 wr w6) w6 A6 d.2.2 from hl6).goes fun b hb => by
              have := T5.out.out0 hb
              exact Free.below this ((Below.refl _ _).alloc (Nat.le_refl _) _))
          have X6 := Lib.hid (Pr.Box.new w6 38 #[.int .i64 (d.1 : Nat), .int .i64 (d.2.1 : Nat), .slice A6 d.2.2.length cap6])
          have F6 : Hid (Free (o5 ++ o4) (w6.alloc (.cells #[.int .i64 (d.1 : Nat), .int .i64 (d.2.1 : Nat), .slice A6 d.2.2.length cap6] 38)) w6.heap.size) := Lib.hid ⟨by simp, fun hc => by
            have h1 := hb6.size
            rcases List.mem_append.1 hc with hc | hc
            · have := (C.good T5.out.2.1).2.1 _ hc; omega
            · have := (C.good T5.out.2.2.1).2.1 _ hc; omega⟩
          have HLDx := Lib.hid (HLD.out.keep hbx)
          have e0 := keep2 hbx d0
          have e1 := keep2 hbx d1
          have e2 := keep2 hbx d2
          clear hl6 hbx d0 d1 d2 T5 R5 HLD hb6
          obtain ⟨id, till, ls⟩ := d
          simp only at *
          go_upto_region 14 with (fail)
          generalize hgb : w6.heap.size = gb at X6 F6 ⊢
          generalize w6.alloc _ = W at T6 R6 L6 X6 F6 HLDx e0 e1 e2 ⊢
          obtain ⟨x0, x1, x2⟩ := dbox_cells (d := (id, till, ls)) X6.out
          have g0 := fun g : Grow W => g.cell x0
          have g1 := fun g : Grow W => g.cell x1
          have g2 := fun g : Grow W => g.cell x2
          have y0 := fun g : Grow W => g.cell e0
          have y1 := fun g : Grow W => g.cell e1
          have y2 := fun g : Grow W => g.cell e2
          have i1 : (j : Int) < (D.length : Int) := by omega
          refine wp_region_grow (by kernel_rfl) (by kernel_rfl) ?_
          repeat (go_big_quiet_step ((go_at_call 19; exact grow_call (sameDue_calls (id, till, ls) A6 A' cap6 cap' _ (L6.out.keep (Grow.below _)) (HLDx.out.keep (Grow.below _)) HFX.out))))
          refine wpQuiet_nil ?_
          intro _ hw'
          obtain ⟨gq, hw''⟩ := hw'
          subst hw''
          have hb7 := gq.below
          have T7 := Lib.hid (T6.out.below hb7)
          have R7 := Lib.hid (R6.out.goes (Below.stands (own := o5 ++ o4) hb7))
          have L7 := Lib.hid (L6.out.goes (Below.stands (own := o5 ++ o4) hb7))
          have X7 := Lib.hid (X6.out.keep hb7)
          have F7 := Lib.hid (F6.out.below hb7).2
          clear g0 g1 g2 y0 y1 y2 e0 e1 e2 x0 x1 x2 HLDx T6 R6 L6 X6 F6 hb7
          generalize gq.w = W7 at T7 R7 L7 X7 F7 ⊢
          obtain ⟨x0, x1, x2⟩ := dbox_cells (d := (id, till, ls)) X7.out
          go_wp2_with fail
          refine (C.rem_ T7.out.2.1 (id : Nat) HI.out).mono ?_
          rw [HGO.out, show od (some (id, till, ls)) = (id, till, ls) from rfl]
          simp only [Option.isSome_some]
          rintro e w8 ⟨o8, A8, cap8, rfl, hl8, a8, k8⟩
          have hst := T7.out.stands k8
          have hbx : Below w8.heap.size w8 (w8.alloc (.cells #[.int .i64 (id : Nat), .int .i64 (till : Nat), .slice A8 ls.length cap8] 38)) := (Below.refl _ _).alloc (Nat.le_refl _) _
          have T8 := Lib.hid ((T7.out.turn a8 k8).below hbx)
          have hst2 := hst.trans (Below.stands (own := o8 ++ o4) hbx)
          have R8 := Lib.hid (R7.out.goes hst2)
          have L8 := Lib.hid (L7.out.goes hst2)
          have X8 : Hid (Pr.Box (w8.alloc (.cells #[.int .i64 (id : Nat), .int .i64 (till : Nat), .slice A8 ls.length cap8] 38)) gb 38 #[.int .i64 (id : Nat), .int .i64 (till : Nat), .slice A6 ls.length cap6]) := Lib.hid (((hst2 _ F7.out).1).trans X7.out)
          have M8 : Hid (Lims (Free (o8 ++ o4) (w8.alloc (.cells #[.int .i64 (id : Nat), .int .i64 (till : Nat), .slice A8 ls.length cap8] 38))) (w8.alloc (.cells #[.int .i64 (id : Nat), .int .i64 (till : Nat), .slice A8 ls.length cap8] 38)) A8 ls) :=
            Lib.hid ((show Lims (Out o5 o8 W7 w8) w8 A8 ls from hl8).goes fun b hb => Free.below (T7.out.out hb) hbx)
          have Y8 := Lib.hid (Pr.Box.new w8 38 #[.int .i64 (id : Nat), .int .i64 (till : Nat), .slice A8 ls.length cap8])
          have Z8 : Hid (gb < w8.heap.size) := Lib.hid (Nat.lt_of_lt_of_le F7.out.1 k8.1.size)
          have z8 := Z8.out
          have q0 : w8.cell? ⟨gb, 0, none⟩ = some (.int .i64 (id : Nat)) := by
            have := ((hst _ F7.out).1).trans X7.out
            exact Pr.Box.cell (w := w8) this 0
          clear hst hst2 hl8 a8 k8 hbx T7 R7 L7 X7 F7 x0 x1 x2
          go_wp2_with fail
          refine (C.get_ T8.out.2.1 (id : Nat) HI.out).mono ?_
          rw [getO_rem, show od (none : Option (Du (List Lim))) = (0, 0, []) from rfl]
          simp only [Option.isSome_none]
          rintro e w9 ⟨A9, cap9, rfl, -, -, hb9⟩
          have hbx : Below (w8.alloc (.cells #[.int .i64 (id : Nat), .int .i64 (till : Nat), .slice A8 ls.length cap8] 38)).heap.size (w8.alloc (.cells #[.int .i64 (id : Nat), .int .i64 (till : Nat), .slice A8 ls.length cap8] 38)) (w9.alloc (.cells #[.int .i64 0, .int .i64 0, .slice A9 ([] : List Lim).length cap9] 38)) := hb9.alloc hb9.size _
          have T9 := Lib.hid (T8.out.below hbx)
          have R9 := Lib.hid (R8.out.goes (Below.stands (own := o8 ++ o4) hbx))
          have L9 := Lib.hid (L8.out.keep hbx)
          have M9 := Lib.hid (M8.out.keep hbx)
          obtain ⟨x0, x1, x2⟩ := dbox_cells (d := (id, till, ls)) (X8.out.keep hb9)
          obtain ⟨y0, y1, y2⟩ := dbox_cells (d := (id, till, ls)) (Y8.out.keep hb9)
          have z11 := hb9.size
          rw [World.size_alloc] at z11
          have z10 : w8.heap.size < w9.heap.size := z11
          have z9 : gb < w9.heap.size := Nat.lt_trans z8 z10
          simp only at x0 x1 x2 y0 y1 y2
          clear hbx T8 R8 L8 M8 X8 Y8 Z8 q0 z8 hb9 z11
          go_wp2_with fail
          refine (sameDue_calls (id, till, ls) A8 A6 cap8 cap6 _ M9.out L9.out HFX.out).mono ?_
          rintro e w10 ⟨rfl, hb10⟩
          have T10 := Lib.hid (T9.out.below hb10)
          have R10 := Lib.hid (R9.out.goes (Below.stands (own := o8 ++ o4) hb10))
          clear hb10 T9 R9 L9 M9 x0 x1 x2 y0 y1 y2 z9 z10
          go_wp2_with fail
          go_roundw
          case rel => exact ⟨j + 1, by omega, by go_num, _, _, T10.out, R10.out, HRE.out⟩
          case measure => simp [intOf]; omega
        · have hP : P = [] := by
            have h1 := due_length (L := P) 9007199254740992
            rw [E5.out, left_all hgP (Nat.le_refl _), List.drop_eq_nil_of_le (by omega)] at h1
            exact List.eq_nil_of_length_eq_zero h1.symm
          subst hP
          have hnn : nxt ([] : LL (List Lim)) = none := rfl
          clear hgP hPT E5 R5
          go_wp2_with fail
          refine (C.next_ T5.out.2.1).mono ?_
          rw [hnn, show od (none : Option (Du (List Lim))) = (0, 0, []) from rfl]
          simp only [Option.isSome_none]
          rintro e w6 ⟨A6, cap6, rfl, -, hb6⟩
          have T6 := Lib.hid (T5.out.below (hb6.alloc hb6.size (.cells #[.int .i64 0, .int .i64 0, .slice A6 ([] : List Lim).length cap6] 38)))
          clear hb6 T5
          go_wp2_with fail
          refine (C.len_ T6.out.2.1).mono ?_
          rintro e w7 ⟨rfl, hb7⟩
          have T7 := Lib.hid (T6.out.below hb7)
          clear hb7 T6
          go_wp2_with fail
          refine (C.len_ T7.out.2.2.1).mono ?_
          rintro e w9 ⟨rfl, hb9⟩
          have T9 := Lib.hid (T7.out.below hb9)
          clear hb9 T7
          go_wp2_with fail
          refine (known_calls C _).mono ?_
          rintro e w8 ⟨rfl, hb8⟩
          have T8 := Lib.hid (T9.out.below hb8)
          clear hb8 T9
          go_wp2_with fail
          go_ret
          exact ⟨rfl, T8.out.1⟩
end Go.Proofs.Ytplinlgafgfepaa.Ld
