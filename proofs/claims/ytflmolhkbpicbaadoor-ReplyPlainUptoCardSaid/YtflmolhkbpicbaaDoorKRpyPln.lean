/-
  ReplyPlain: what is plain stays so; two answers have the same bytes just if they are plain alike.
-/
import Derived.Test.YtflmolhkbpicbaaDoorKRpyBx4
import Derived.Deep.RegionHeld3
namespace Go.Proofs.YtflmolhkbpicbaaDoor.Ry
open Go.RowKit
open Gw

/-- what lies in memory ahead of the comparisons -/
structure Pln (w W : World) (x y p q : Rep) (g5 g6 : Nat) (A1 A2 V3 V4 : Option Addr) (c1 c2 : Nat) : Prop where
  below : Below w.heap.size w W
  bp : Bx W g5 p A1 c1
  rp : Rd4 W p A1 c1
  bq : Bx W g6 q A2 c2
  rq : Rd4 W q A2 c2
  vx : Bts W V3 (enc x)
  vy : Bts W V4 (enc y)
section
variable {w W W' : World} {x y p q : Rep} {g5 g6 : Nat} {A1 A2 V3 V4 : Option Addr} {c1 c2 : Nat}
set_option maxRecDepth 100000 in
theorem Pln.keep (h : Pln w W x y p q g5 g6 A1 A2 V3 V4 c1 c2) (hb : Below W.heap.size W W') : Pln w W' x y p q g5 g6 A1 A2 V3 V4 c1 c2 :=
  ⟨h.below.trans (hb.mono h.below.size), h.bp.keep hb, h.rp.keep hb, h.bq.keep hb, h.rq.keep hb, h.vx.keep hb, h.vy.keep hb⟩
set_option maxRecDepth 100000 in
theorem Pln.alloc (h : Pln w W x y p q g5 g6 A1 A2 V3 V4 c1 c2) (o : Obj) : Pln w (W.alloc o) x y p q g5 g6 A1 A2 V3 V4 c1 c2 := h.keep ((Below.refl _ _).alloc (Nat.le_refl _) _)
set_option maxRecDepth 100000 in
theorem Pln.cells (h : Pln w W x y p q g5 g6 A1 A2 V3 V4 c1 c2) :
    W.cell? ⟨g5, 0, none⟩ = some (.int .i64 p.k) ∧ W.cell? ⟨g5, 1, none⟩ = some (.string (bat p.t)) ∧ W.cell? ⟨g5, 2, none⟩ = some (.int .i64 p.n) ∧ W.cell? ⟨g5, 3, none⟩ = some (.slice A1 p.l.length c1) ∧
    W.cell? ⟨g6, 0, none⟩ = some (.int .i64 q.k) ∧ W.cell? ⟨g6, 1, none⟩ = some (.string (bat q.t)) ∧ W.cell? ⟨g6, 2, none⟩ = some (.int .i64 q.n) ∧ W.cell? ⟨g6, 3, none⟩ = some (.slice A2 q.l.length c2) :=
  ⟨h.bp.cell 0, h.bp.cell 1, h.bp.cell 2, h.bp.cell 3, h.bq.cell 0, h.bq.cell 1, h.bq.cell 2, h.bq.cell 3⟩
end

set_option maxHeartbeats 4000000 in
set_option maxRecDepth 100000 in
theorem plain_law (C : YC) (x y : Rep) (A D : Option Addr) (ca cd : Nat) (w : World) (hA : Rd4 w x A ca) (hD : Rd4 w y D cd) (hl : longR x + longR y ≤ 4611686018427387904) (hx : N64 x) (hy : N64 y) :
    Calls Tryd.prog 7 #[rv x A ca, rv y D cd] w fun e w' => e = .returned (.bool true) ∧ Below w.heap.size w w' := by
  have HA := Lib.hid hA
  have HD := Lib.hid hD
  have HX := Lib.hid hx
  have HY := Lib.hid hy
  clear hA hD hx hy
  have KC := known_calls C
  unfold rv
  go_enter Tryd.func7, Tryd.ntmps7
  go_wp2_with fail
  obtain ⟨X0, Y0, L0, B0⟩ := front3 w x y A D ca cd #[.int .i64 x.k, .string (bat x.t), .int .i64 x.n, .slice A x.l.length ca, .int .i64 y.k, .string (bat y.t), .int .i64 y.n, .slice D y.l.length cd]
  generalize ((w.alloc _).alloc _).alloc _ = W0 at X0 Y0 L0 B0 ⊢
  have LC := long2_calls L0 (HA.out.keep B0) (HD.out.keep B0) hl
  clear L0
  refine LC.mono ?_
  clear LC
  rintro e w0 ⟨rfl, hw0⟩
  subst hw0
  by_cases hg : 1000 < longR x + longR y
  · have i1 : (1000 : Int) < ((longR x + longR y : Nat) : Int) := by omega
    have B1 := Lib.hid B0
    clear X0 Y0 B0 hg
    go_wp2_with fail
    refine (KC _).mono ?_
    rintro e w1 ⟨rfl, hb1⟩
    have HB := Lib.hid (B1.out.trans (hb1.mono B1.out.size))
    clear hb1
    go_wp2_with fail
    go_ret
    exact ⟨rfl, HB.out⟩
  have i1 : ¬ (1000 : Int) < ((longR x + longR y : Nat) : Int) := by omega
  have HG : Hid (longR x ≤ 1000 ∧ longR y ≤ 1000) := Lib.hid (by omega)
  clear hl hg
  have PX := C.plain_ x A ca W0 (HA.out.keep B0) (by have := HG.out; omega) HX.out
  unfold rv at PX
  have hB0 := Lib.hid B0
  have hX0 := Lib.hid X0
  have hY0 := Lib.hid Y0
  obtain ⟨a0, a1, a2, a3⟩ := X0.four
  clear X0 Y0 B0
  go_wp2_with fail
  refine PX.mono ?_
  clear PX a0 a1 a2 a3 i1
  rintro e w1 ⟨⟨A1, c1, rfl, hr1⟩, hb1⟩
  generalize hp : plain x = p at hr1 ⊢
  have HP := Lib.hid hp
  clear hp
  go_upto_region 4 with (fail)
  obtain ⟨P1, k1⟩ := made4 w1 p A1 c1
  have K1 : Below W0.heap.size W0 (w1.alloc (.cells #[.int .i64 p.k, .string (bat p.t), .int .i64 p.n, .slice A1 p.l.length c1] 25)) := hb1.trans (k1.mono hb1.size)
  have R1 := hr1.keep k1
  generalize w1.alloc _ = W1 at P1 K1 R1 ⊢
  generalize w1.heap.size = g5 at P1 ⊢
  have B1 := Lib.hid (hB0.out.trans (K1.mono hB0.out.size))
  have X1 := Lib.hid (hX0.out.keep K1)
  have Y1 := Lib.hid (hY0.out.keep K1)
  have hP1 := Lib.hid P1
  have hR1 := Lib.hid R1
  clear hr1 hb1 k1 K1 P1 R1 hB0 hX0 hY0
  obtain ⟨a0, a1, a2, a3⟩ := Bx.four Y1.out
  have PY := C.plain_ y D cd W1 (HD.out.keep B1.out) (by have := HG.out; omega) HY.out
  unfold rv at PY
  go_wp2_with fail
  refine PY.mono ?_
  clear PY a0 a1 a2 a3
  rintro e w2 ⟨⟨A2, c2, rfl, hr2⟩, hb2⟩
  generalize hq : plain y = q at hr2 ⊢
  have HQ := Lib.hid hq
  clear hq
  go_upto_region 5 with (fail)
  obtain ⟨P2, k2⟩ := made4 w2 q A2 c2
  have K2 : Below W1.heap.size W1 (w2.alloc (.cells #[.int .i64 q.k, .string (bat q.t), .int .i64 q.n, .slice A2 q.l.length c2] 25)) := hb2.trans (k2.mono hb2.size)
  have R2 := hr2.keep k2
  generalize w2.alloc _ = W2 at P2 K2 R2 ⊢
  generalize w2.heap.size = g6 at P2 ⊢
  have B2 := Lib.hid (B1.out.trans (K2.mono B1.out.size))
  have X2 := Lib.hid (X1.out.keep K2)
  have Y2 := Lib.hid (Y1.out.keep K2)
  have hQ2 := Lib.hid (hP1.out.keep K2)
  have hS2 := Lib.hid (hR1.out.keep K2)
  have hP2 := Lib.hid P2
  have hR2 := Lib.hid R2
  clear hr2 hb2 k2 K2 P2 R2 B1 X1 Y1 hP1 hR1
  obtain ⟨a0, a1, a2, a3⟩ := Bx.four X2.out
  go_wp2_with fail
  obtain ⟨L2, k2⟩ := made4 W2 x A ca
  refine (encode1_calls C L2 (HA.out.keep (B2.out.trans (k2.mono B2.out.size))) (by have := HG.out; omega) HX.out).mono ?_
  clear L2 a0 a1 a2 a3
  rintro e w3 ⟨⟨V3, d3, rfl, hv3⟩, hb3⟩
  have K3 : Below W2.heap.size W2 w3 := k2.trans (hb3.mono k2.size)
  generalize hn3 : (enc x).length = n3 at ⊢
  have HN3 := Lib.hid hn3
  have hV3 := Lib.hid hv3
  have B3 := Lib.hid (B2.out.trans (K3.mono B2.out.size))
  have Y3 := Lib.hid (Y2.out.keep K3)
  have hP3 := Lib.hid (hP2.out.keep K3)
  have hR3 := Lib.hid (hR2.out.keep K3)
  have hQ3 := Lib.hid (hQ2.out.keep K3)
  have hS3 := Lib.hid (hS2.out.keep K3)
  clear hn3 hv3 hb3 k2 K3 B2 X2 Y2 hP2 hR2 hQ2 hS2
  obtain ⟨a0, a1, a2, a3⟩ := Bx.four Y3.out
  go_wp2_with fail
  obtain ⟨L3, k3⟩ := made4 w3 y D cd
  refine (encode1_calls C L3 (HD.out.keep (B3.out.trans (k3.mono B3.out.size))) (by have := HG.out; omega) HY.out).mono ?_
  clear L3 a0 a1 a2 a3
  rintro e w4 ⟨⟨V4, d4, rfl, hv4⟩, hb4⟩
  have K4 : Below w3.heap.size w3 w4 := k3.trans (hb4.mono k3.size)
  generalize hn4 : (enc y).length = n4 at ⊢
  have HN4 := Lib.hid hn4
  have hV4 := Lib.hid hv4
  have hU4 := Lib.hid (hV3.out.keep K4)
  have B4 := Lib.hid (B3.out.trans (K4.mono B3.out.size))
  have hP4 := Lib.hid (hP3.out.keep K4)
  have hR4 := Lib.hid (hR3.out.keep K4)
  have hQ4 := Lib.hid (hQ3.out.keep K4)
  have hS4 := Lib.hid (hS3.out.keep K4)
  clear hn4 hv4 hb4 k3 K4 B3 Y3 hP3 hR3 hQ3 hS3 hV3
  go_upto_region 7 with (fail)
  have PLN : Hid (Pln w w4 x y p q g5 g6 A1 A2 V3 V4 c1 c2) := Lib.hid ⟨B4.out, hQ4.out, hS4.out, hP4.out, hR4.out, hU4.out, hV4.out⟩
  clear B4 hQ4 hS4 hP4 hR4 hU4 hV4
  have hpl : longR p ≤ 1000 := by have := long_plain x; rw [HP.out] at this; have := HG.out; omega
  have hql : longR q ≤ 1000 := by have := long_plain y; rw [HQ.out] at this; have := HG.out; omega
  have hpm := txL_max (x := p) (by omega)
  have hqm := txL_max (x := q) (by omega)
  have hpn : N64 p := by rw [← HP.out]; exact n64_plain HX.out
  have hpp : plain p = p := by rw [← HP.out]; exact plain_plain x
  have hpe : enc p = enc x := by rw [← HP.out]; exact enc_plain x
  have hiff : enc x = enc y ↔ p = q := by rw [← HP.out, ← HQ.out]; exact enc_iff (long_fit (by have := HG.out; omega) HX.out) (long_fit (by have := HG.out; omega) HY.out)
  obtain ⟨b, hb⟩ : ∃ b, b = decide (p = q) := ⟨_, rfl⟩
  have hb2 : decide (enc x = enc y) = b := by rw [hb]; exact decide_eq_decide.2 hiff
  have HPC : Hid (∀ W, Pln w W x y p q g5 g6 A1 A2 V3 V4 c1 c2 → Calls Tryd.prog 13 #[.agg #[.int .i64 p.k, .string (bat p.t), .int .i64 p.n, .slice A1 p.l.length c1]] W fun e w' => (∃ A' c', e = .returned (.agg #[.int .i64 p.k, .string (bat p.t), .int .i64 p.n, .slice A' p.l.length c']) ∧ Rd4 w' p A' c') ∧ Below W.heap.size W w') := Lib.hid fun W h => by
    have := C.plain_ p A1 c1 W h.rp (by omega) hpn
    rw [hpp] at this
    exact this
  have HSC : Hid (∀ W A' c', Pln w W x y p q g5 g6 A1 A2 V3 V4 c1 c2 → Rd4 W p A' c' → Calls Tryd.prog 12 #[.agg #[.int .i64 p.k, .string (bat p.t), .int .i64 p.n, .slice A' p.l.length c'], .agg #[.int .i64 p.k, .string (bat p.t), .int .i64 p.n, .slice A1 p.l.length c1]] W fun e w' => e = .returned (.bool true) ∧ Below W.heap.size W w') := Lib.hid fun W A' c' h h2 => by
    have := rsame_calls p p A' A1 c' c1 W h2.txs h.rp.txs (by omega) (by omega)
    rw [decide_eq_true rfl] at this
    exact this
  have HRC : Hid (∀ W, Pln w W x y p q g5 g6 A1 A2 V3 V4 c1 c2 → Calls Tryd.prog 14 #[.agg #[.int .i64 p.k, .string (bat p.t), .int .i64 p.n, .slice A1 p.l.length c1]] W fun e w' => e = .returned (.bool true) ∧ Below W.heap.size W w') := Lib.hid fun W h => by
    have := C.right_ p A1 c1 W h.rp (by omega) hpn
    rw [decide_eq_true hpp] at this
    exact this
  have HEC : Hid (∀ W, Pln w W x y p q g5 g6 A1 A2 V3 V4 c1 c2 → Calls Tryd.prog 16 #[.slice (some ⟨W.heap.size, 0, none⟩) 1 1] (W.alloc (.cells #[.int .i64 p.k, .string (bat p.t), .int .i64 p.n, .slice A1 p.l.length c1] 25)) fun e w' => (∃ V c, e = .returned (.slice V n3 c) ∧ Bts w' V (enc x)) ∧ Below W.heap.size W w') := Lib.hid fun W h => by
    obtain ⟨L9, k9⟩ := made4 W p A1 c1
    refine (encode1_calls C L9 (h.rp.keep k9) (by omega) hpn).mono ?_
    rw [hpe, HN3.out]
    rintro e w' ⟨h1, h2⟩
    exact ⟨h1, k9.trans (h2.mono k9.size)⟩
  have HBS : Hid (∀ W V d, Pln w W x y p q g5 g6 A1 A2 V3 V4 c1 c2 → Bts W V (enc x) → Calls Tryd.prog 15 #[.slice V n3 d, .slice V3 n3 d3] W fun e w' => e = .returned (.bool true) ∧ Below W.heap.size W w') := Lib.hid fun W V d h h2 => by
    have := bsame_calls V V3 d d3 (enc x) (enc x) W h2 h.vx
    rw [decide_eq_true rfl, HN3.out] at this
    exact this
  have HBT : Hid (∀ W, Pln w W x y p q g5 g6 A1 A2 V3 V4 c1 c2 → Calls Tryd.prog 15 #[.slice V3 n3 d3, .slice V4 n4 d4] W fun e w' => e = .returned (.bool b) ∧ Below W.heap.size W w') := Lib.hid fun W h => by
    have := bsame_calls V3 V4 d3 d4 (enc x) (enc y) W h.vx h.vy
    rw [hb2, HN3.out, HN4.out] at this
    exact this
  have HST : Hid (∀ W, Pln w W x y p q g5 g6 A1 A2 V3 V4 c1 c2 → Calls Tryd.prog 12 #[.agg #[.int .i64 p.k, .string (bat p.t), .int .i64 p.n, .slice A1 p.l.length c1], .agg #[.int .i64 q.k, .string (bat q.t), .int .i64 q.n, .slice A2 q.l.length c2]] W fun e w' => e = .returned (.bool b) ∧ Below W.heap.size W w') := Lib.hid fun W h => by
    have := rsame_calls p q A1 A2 c1 c2 W h.rp.txs h.rq.txs (by omega) (by omega)
    rw [← hb] at this
    exact this
  have tb : (b == b) = true := beq_self_eq_true b
  have K0 := Lib.hid (PLN.out.keep (Below.refl _ _).drew)
  clear PLN hpl hql hpm hqm hpn hpp hpe hiff hb hb2 HA HD HX HY HG HP HQ HN3 HN4
  go_region_held3 (fun w' => w'.cell? ⟨g5, 0, none⟩ = some (.int .i64 p.k) ∧ w'.cell? ⟨g5, 1, none⟩ = some (.string (bat p.t)) ∧ w'.cell? ⟨g5, 2, none⟩ = some (.int .i64 p.n) ∧ w'.cell? ⟨g5, 3, none⟩ = some (.slice A1 p.l.length c1) ∧ w'.cell? ⟨g6, 0, none⟩ = some (.int .i64 q.k) ∧ w'.cell? ⟨g6, 1, none⟩ = some (.string (bat q.t)) ∧ w'.cell? ⟨g6, 2, none⟩ = some (.int .i64 q.n) ∧ w'.cell? ⟨g6, 3, none⟩ = some (.slice A2 q.l.length c2)) (first | exact K0.out.cells | exact K1.out.cells | exact K2.out.cells | exact K3.out.cells | exact (K3.out.alloc _).cells | exact K4.out.cells | exact K5.out.cells | exact K6.out.cells | exact K7.out.cells | exact K8.out.cells) (first | (go_at_call 13; refine (HPC.out _ K0.out).mono ?_; rintro e wa ⟨⟨A9, c9, rfl, hr9⟩, hba⟩; have H9 := Lib.hid hr9; have K1 := Lib.hid (K0.out.keep hba); clear hr9 hba K0) | (go_at_call 12; refine (HSC.out _ _ _ K1.out H9.out).mono ?_; rintro e wb ⟨rfl, hbb⟩; have K2 := Lib.hid (K1.out.keep hbb); clear hbb K1 H9) | (go_at_call 14; refine (HRC.out _ K2.out).mono ?_; rintro e wc ⟨rfl, hbc⟩; have K3 := Lib.hid (K2.out.keep hbc); clear hbc K2) | (go_at_call 16; refine (HEC.out _ K3.out).mono ?_; rintro e wd ⟨⟨V9, d9, rfl, hv9⟩, hbd⟩; have H8 := Lib.hid hv9; have K4 := Lib.hid (K3.out.keep hbd); clear hv9 hbd K3) | (go_at_call 15; refine (HBS.out _ _ _ K4.out H8.out).mono ?_; rintro e we ⟨rfl, hbe⟩; have K5 := Lib.hid (K4.out.keep hbe); clear hbe K4 H8) | (go_at_call 15; refine (HBT.out _ K5.out).mono ?_; rintro e wf ⟨rfl, hbf⟩; have K6 := Lib.hid (K5.out.keep hbf); clear hbf K5) | (go_at_call 12; refine (HST.out _ K6.out).mono ?_; rintro e wg ⟨rfl, hbg⟩; have K7 := Lib.hid (K6.out.keep hbg); clear hbg K6) | (go_at_call 10; refine (KC _).mono ?_; rintro e wh ⟨rfl, hbh⟩; have K8 := Lib.hid (K7.out.keep hbh); clear hbh K7))
  all_goals
    go_wp2_with fail
    go_ret
    exact ⟨rfl, K8.out.below⟩
end Go.Proofs.YtflmolhkbpicbaaDoor.Ry
