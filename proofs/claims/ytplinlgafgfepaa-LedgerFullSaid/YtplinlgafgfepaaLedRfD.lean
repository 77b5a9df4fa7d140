/-
  What the document's own Remove (of a ledger) answers, in any world.
-/
import Derived.Test.YtplinlgafgfepaaLedRfC
namespace Go.Proofs.Ytplinlgafgfepaa.Ld
open Go.RowKit
namespace Pr

theorem rem_take {l : LL Sl} {id : Int} {k : Nat} (hk : k < l.length) : rem (l.take (k + 1)) id = rem (l.take k) id ++ if (l[k].1 : Int) = id then [] else [(l[k].1, l[k].2.1, l[k].2.2)] := by
  unfold rem
  rw [List.take_succ_eq_append_getElem hk, List.filter_append]
  by_cases hc : (l[k].1 : Int) = id <;> simp [hc]
theorem rem_len_le (l : LL Sl) (id : Int) : (rem l id).length ≤ l.length := List.length_filter_le _ _
theorem Own.setLow {w : World} {B b : Nat} {v : Value} {l : LL Sl} (h : Own w B v l) (hb : b < B) (j : Nat) (u : Value) : Own (w.setCell ⟨b, j, none⟩ u) B v l := by
  refine ⟨h.1, ?_⟩
  rcases h.2 with h2 | ⟨g, cap, cur, hv, hbg, hg, r⟩
  · exact .inl h2
  · refine .inr ⟨g, cap, cur, hv, hbg, ?_, r⟩
    rw [Below.heap_setCell _ _ _ _ (by show g ≠ b; omega)]; exact hg

/-- what stands in memory while the dues are gone through -/
structure Del (w wr : World) (l : LL Sl) (A : Option Addr) (cap last : Nat) (id : Int) (g : Nat) (d : Du Sl) (k : Nat) (v : Value) : Prop where
  bel : Below w.heap.size w wr
  g_gt : w.heap.size + 1 + 1 < g
  bT : Box wr w.heap.size 29 (tc A l.length cap last)
  bR : Box wr (w.heap.size + 1) 29 #[.slice none 0 0, .int .i64 0]
  bS : Box wr (w.heap.size + 1 + 1) 38 #[.int .i64 0, .int .i64 0, .slice none 0 0]
  bD : Box wr g 38 (ec d)
  bU : Box wr (g + 1) 29 #[v, .int .i64 (last : Nat)]
  own : Own wr (g + 1 + 1) v (rem (l.take k) id)
variable {w wr : World} {l : LL Sl} {A : Option Addr} {cap last : Nat} {id : Int} {g : Nat} {d : Du Sl} {k : Nat} {v : Value}
theorem Del.skip (h : Del w wr l A cap last id g d k v) (hk : k < l.length) (hx : (l[k].1 : Int) = id) : Del w wr l A cap last id g d (k + 1) v := by
  refine ⟨h.bel, h.g_gt, h.bT, h.bR, h.bS, h.bD, h.bU, ?_⟩
  rw [rem_take hk, if_pos hx, List.append_nil]; exact h.own
theorem Del.more {w5 : World} {v' : Value} (h : Del w wr l A cap last id g d k v) (hk : k < l.length) (hx : ¬ (l[k].1 : Int) = id) (o : Obj)
    (ho : Own w5 (g + 1 + 1) v' (rem (l.take k) id ++ [(l[k].1, l[k].2.1, l[k].2.2)])) (hgr : ((wr.alloc o).drew).grownBy w5 v.ownBlock) : Del w (w5.setCell ⟨g + 1, 0, none⟩ v') l A cap last id g d (k + 1) v' := by
  obtain ⟨h1, h0, h2, h3, h4, h5, h6, h7⟩ := h
  have hoa : Own ((wr.alloc o).drew) (g + 1 + 1) v (rem (l.take k) id) := (h7.alloc o).drewN 1
  have hbel : Below w.heap.size w w5 := (below_drewN (h1.alloc h1.size o) 1).grown hgr (Nat.le_trans h1.size (by simp)) (fun q hq => by have := (World.ownsRow.lt hoa q hq).1; omega)
  have hu : Box w5 (g + 1) 29 #[v, .int .i64 (last : Nat)] := Box.grownOwn ((h6.alloc o).drewN 1) hoa (by omega) hgr
  refine ⟨hbel.setCell (by show w.heap.size ≤ g + 1; omega) _, h0,
    (Box.grownOwn ((h2.alloc o).drewN 1) hoa (by omega) hgr).far1 (by omega) _ _, (Box.grownOwn ((h3.alloc o).drewN 1) hoa (by omega) hgr).far1 (by omega) _ _,
    (Box.grownOwn ((h4.alloc o).drewN 1) hoa (by omega) hgr).far1 (by omega) _ _, (Box.grownOwn ((h5.alloc o).drewN 1) hoa (by omega) hgr).far1 (by omega) _ _, heap_setCell_same _ _ 0 _ _ v' hu, ?_⟩
  rw [rem_take hk, if_neg hx]
  exact ho.setLow (by omega) _ _
theorem Del.drew (h : Del w wr l A cap last id g d k v) : Del w wr.drew l A cap last id g d k v :=
  ⟨below_drewN h.bel 1, h.g_gt, h.bT.drewN 1, h.bR.drewN 1, h.bS.drewN 1, h.bD.drewN 1, h.bU.drewN 1, h.own.drewN 1⟩

abbrev tzb : Obj := .cells #[.slice none 0 0, .int .i64 0] 29
/-- the two results, written -/
theorem Del.wrote (h : Del w wr l A cap last id g d k v) (hk : ¬ k < l.length) (a b x y z : Value) :
    Box (((((wr.setCell ⟨w.heap.size + 1, 0, none⟩ a).setCell ⟨w.heap.size + 1, 1, none⟩ b).setCell ⟨w.heap.size + 1 + 1, 0, none⟩ x).setCell ⟨w.heap.size + 1 + 1, 1, none⟩ y).setCell ⟨w.heap.size + 1 + 1, 2, none⟩ z).drew (w.heap.size + 1) 29 #[a, b] ∧
    Box (((((wr.setCell ⟨w.heap.size + 1, 0, none⟩ a).setCell ⟨w.heap.size + 1, 1, none⟩ b).setCell ⟨w.heap.size + 1 + 1, 0, none⟩ x).setCell ⟨w.heap.size + 1 + 1, 1, none⟩ y).setCell ⟨w.heap.size + 1 + 1, 2, none⟩ z).drew (w.heap.size + 1 + 1) 38 #[x, y, z] ∧
    Own (((((wr.setCell ⟨w.heap.size + 1, 0, none⟩ a).setCell ⟨w.heap.size + 1, 1, none⟩ b).setCell ⟨w.heap.size + 1 + 1, 0, none⟩ x).setCell ⟨w.heap.size + 1 + 1, 1, none⟩ y).setCell ⟨w.heap.size + 1 + 1, 2, none⟩ z).drew (g + 1 + 1) v (rem l id) ∧
    Below w.heap.size w (((((wr.setCell ⟨w.heap.size + 1, 0, none⟩ a).setCell ⟨w.heap.size + 1, 1, none⟩ b).setCell ⟨w.heap.size + 1 + 1, 0, none⟩ x).setCell ⟨w.heap.size + 1 + 1, 1, none⟩ y).setCell ⟨w.heap.size + 1 + 1, 2, none⟩ z).drew := by
  have hg := h.g_gt
  have h2 := h.bR.set2 a b
  have h3 : Box ((wr.setCell ⟨w.heap.size + 1, 0, none⟩ a).setCell ⟨w.heap.size + 1, 1, none⟩ b) (w.heap.size + 1 + 1) 38 #[.int .i64 0, .int .i64 0, .slice none 0 0] := h.bS.far2 (by omega) _ _
  refine ⟨(h2.far3 (by omega) _ _ _).drew, (h3.set3 x y z).drew, ?_, below_drewN (below_set3 (below_set2 h.bel (by omega) _ _) (by omega) _ _ _) 1⟩
  have ho := h.own
  rw [List.take_of_length_le (by omega)] at ho
  exact (((((ho.setLow (by omega) _ _).setLow (by omega) _ _).setLow (by omega) _ _).setLow (by omega) _ _).setLow (by omega) _ _).drewN 1
theorem three_boxes (w : World) (o : Obj) : Below w.heap.size w (((w.alloc o).alloc tzb).alloc zbox) ∧ Box (((w.alloc o).alloc tzb).alloc zbox) (w.heap.size + 1) 29 #[.slice none 0 0, .int .i64 0] ∧ Box (((w.alloc o).alloc tzb).alloc zbox) (w.heap.size + 1 + 1) 38 #[.int .i64 0, .int .i64 0, .slice none 0 0] := by
  refine ⟨(((Below.refl _ _).alloc (Nat.le_refl _) _).alloc (by simp) _).alloc (by simp; omega) _, (Box.new1 _ _ _ _).alloc _, ?_⟩
  have := Box.new1 (w.alloc o) 38 #[.int .i64 0, .int .i64 0, .slice none 0 0] tzb
  simpa using this

set_option maxHeartbeats 4000000 in
set_option maxRecDepth 100000 in
theorem rrem_calls (l : LL Sl) (A : Option Addr) (n cap last : Nat) (id : Int) (w : World) (hA : Row w A n cap l) (hl : l.length ≤ 1000) :
    Calls Try.prog 28 #[tv A n cap last, .int .i64 id] w fun e w' => ∃ A' n' cap', e = .returned (.tuple #[tv A' n' cap' last, ev (oe (getO l id)), .bool (getO l id).isSome]) ∧ Own w' w.heap.size (.slice A' n' cap') (rem l id) ∧ Below w.heap.size w w' := by
  obtain ⟨rfl, hP, hnil, -⟩ := hA
  obtain ⟨hb3, hr3, hs3⟩ := three_boxes w (tbox A l.length cap last)
  have HB3 := Lib.hid hb3
  have HR3 := Lib.hid hr3
  have HS3 := Lib.hid hs3
  have HT3 : Hid (Box (((w.alloc (tbox A l.length cap last)).alloc tzb).alloc zbox) w.heap.size 29 (tc A l.length cap last)) := Lib.hid (((Box.new _ _ _).alloc _).alloc _)
  have HA := Lib.hid (hP.1)
  clear hP hb3 hr3 hs3 hnil
  go_enter Try.func28, Try.ntmps28
  go_wp2_with fail
  refine (rget_calls l A _ cap last id _ rfl (HA.out.keep HB3.out) (by omega)).mono ?_
  rintro e w1 ⟨rfl, hb1⟩
  obtain ⟨d, hd⟩ : ∃ d, oe (getO l id) = d := ⟨_, rfl⟩
  obtain ⟨bo, hbo⟩ : ∃ b, (getO l id).isSome = b := ⟨_, rfl⟩
  rw [hd, hbo]
  have HB1 := Lib.hid (HB3.out.trans (hb1.mono HB3.out.size))
  have HT1 := Lib.hid (HT3.out.keep hb1)
  have HR1 := Lib.hid (HR3.out.keep hb1)
  have HS1 := Lib.hid (HS3.out.keep hb1)
  have t1 : w1.cell? ⟨w.heap.size, 1, none⟩ = some (.int .i64 (last : Nat)) := HT1.out.cell 1
  have z1 : w.heap.size + 1 + 1 < w1.heap.size := HS1.out.lt
  have z0 : w.heap.size < w1.heap.size := HT1.out.lt
  have HG0 : Hid (Del w ((w1.alloc (ebox d)).alloc (tbox none 0 0 last)) l A cap last id w1.heap.size d 0 (.slice none 0 0)) := Lib.hid
    ⟨(HB1.out.alloc HB1.out.size _).alloc (by simp; omega) _, z1, (HT1.out.alloc _).alloc _, (HR1.out.alloc _).alloc _, (HS1.out.alloc _).alloc _, (Box.new _ _ _).alloc _, Box.new1 _ _ _ _, Own.nil _ _⟩
  obtain ⟨i0, t0, s0, m0, q0⟩ := d
  clear hb1 HB3 HR3 HS3 HT3
  go_wp2_with fail
  go_loopw [10] (fun i wr => ∃ (k : Nat) (v : Value), k ≤ l.length ∧ i = .int .i64 (k : Nat) ∧ Hid (Del w wr l A cap last id w1.heap.size (i0, t0, s0, m0, q0) k v)) (fun i _ => l.length - (intOf i).toNat)
  case atStart => exact ⟨0, _, Nat.zero_le _, rfl, HG0.out⟩
  case round =>
    clear HG0
    obtain ⟨k, v, hk, rfl, H⟩ := hrel
    have H := Lib.hid (show Del w wr l A cap last id w1.heap.size (i0, t0, s0, m0, q0) k v from H)
    have d1 : wr.cell? ⟨w.heap.size, 0, none⟩ = some (.slice A l.length cap) := H.out.bT.cell 0
    by_cases hlt : k < l.length
    · obtain ⟨a, rfl, c0, c1, c2⟩ := (HA.out.keep H.out.bel).at_ hlt
      have i1 : (k : Int) < (l.length : Int) := by omega
      have i2 : ¬ (k : Int) < 0 := by omega
      by_cases hx : (l[k].1 : Int) = id
      · have tq : ((l[k].1 : Int) == id) = true := beq_iff_eq.2 hx
        have HS := Lib.hid (H.out.skip hlt hx)
        clear hx
        go_wp2_with fail
        go_roundw
        case rel => exact ⟨k + 1, v, by omega, by go_num, HS.out⟩
        case measure => simp [intOf]; omega
      · have tq : ((l[k].1 : Int) == id) = false := beq_eq_false_iff_ne.2 hx
        have HX := Lib.hid hx
        obtain ⟨Av, nv, cv, rfl, ev'⟩ := H.out.own.form
        clear ev' hx
        have u1 : wr.cell? ⟨w1.heap.size + 1, 0, none⟩ = some (.slice Av nv cv) := H.out.bU.cell 0
        have uf : wr.frozen? ⟨w1.heap.size + 1, 0, none⟩ = false := H.out.bU.free 0
        have zt : w1.heap.size + 1 < wr.heap.size := H.out.bU.lt
        have HE : Hid ((l[k].1, l[k].2.1, l[k].2.2) = l[k]) := Lib.hid rfl
        generalize hl1 : l[k].1 = e1 at c0 tq
        generalize hl2 : l[k].2.1 = e2 at c1
        generalize hl3 : l[k].2.2 = e3 at c2
        have HL1 := Lib.hid hl1
        have HL2 := Lib.hid hl2
        have HL3 := Lib.hid hl3
        clear hl1 hl2 hl3
        have HMORE : Hid (∀ (g5 : Nat) (cap5 : Nat) (w5 : World), Own w5 (w1.heap.size + 1 + 1) (.slice (some ⟨g5, 0, none⟩) ((rem (l.take k) id).length + 1) cap5) (rem (l.take k) id ++ [(e1, e2, e3)]) → ((wr.alloc (ebox (e1, e2, e3))).drew).grownBy w5 (Value.slice Av nv cv).ownBlock →
            Del w (w5.setCell ⟨w1.heap.size + 1, 0, none⟩ (.slice (some ⟨g5, 0, none⟩) ((rem (l.take k) id).length + 1) cap5)) l (some a) cap last id w1.heap.size (i0, t0, s0, m0, q0) (k + 1) (.slice (some ⟨g5, 0, none⟩) ((rem (l.take k) id).length + 1) cap5)) :=
          Lib.hid fun g5 cap5 w5 ho hg => H.out.more hlt HX.out _ (by rw [HL1.out, HL2.out, HL3.out]; exact ho) hg
        have HOW := Lib.hid H.out.own
        have HKL := Lib.hid (show (rem (l.take k) id).length ≤ 10000 by have := rem_len_le (l.take k) id; have := List.length_take_le k l; omega)
        have ag : Value.ownBlock (.slice Av nv cv) ≠ some (w1.heap.size + 1) := fun e => by have := (World.ownsRow.lt H.out.own _ e).1; omega
        generalize rem (l.take k) id = lk at HMORE HOW HKL
        have HTF := Lib.hid (show ∀ o, ((wr.alloc o).drew).frozen? ⟨w1.heap.size + 1, 0, none⟩ = false from fun o => (World.frozen?_alloc_past o _ _ zt).trans uf)
        have HTC := Lib.hid (show ∀ o, ((wr.alloc o).drew).cell? ⟨w1.heap.size + 1, 0, none⟩ = some (.slice Av nv cv) from fun o => (World.cell?_alloc_past o _ _ zt).trans u1)
        have HLT := Lib.hid (show ∀ o, w1.heap.size + 1 < ((wr.alloc o).drew).heap.size from fun o => by simp; omega)
        have HZB := Lib.hid (show ∀ o, w1.heap.size + 1 + 1 ≤ ((wr.alloc o).drew).heap.size from fun o => by simp; omega)
        go_wp2_with fail
        go_region_law (refine step_append_due (by rfl) _ _ (by rfl) (w1.heap.size + 1 + 1) (.slice Av nv cv) lk (by rfl) ((HOW.out.alloc _).keep (Below.refl _ _).drew) wr.heap.size (e1, e2, e3) (by rfl) (heap_alloc_new wr _) HKL.out (HZB.out _) ?_; intro g5 cap5 w5 ho5 hgr5; have tf5 := (hgr5.frozen_far ⟨w1.heap.size + 1, 0, none⟩ (HLT.out _) (Ne.symm ag)).trans (HTF.out _); have tc5 := (hgr5.cell_far ⟨w1.heap.size + 1, 0, none⟩ (HLT.out _) (Ne.symm ag)).trans (HTC.out _); have HM := Lib.hid (HMORE.out _ _ _ ho5 hgr5); clear hgr5 ho5)
        all_goals
          go_wp2_with fail
          go_roundw
          case rel => exact ⟨k + 1, _, by omega, by go_num, HM.out⟩
          case measure => simp [intOf]; omega
    · have HS := Lib.hid (show rem (l.take k) id = rem l id by rw [List.take_of_length_le (by omega)])
      obtain ⟨A5, n5, cap5, rfl, e5⟩ := H.out.own.form
      clear e5
      have x0 : wr.cell? ⟨w1.heap.size + 1, 0, none⟩ = some (.slice A5 n5 cap5) := H.out.bU.cell 0
      have x1 : wr.cell? ⟨w1.heap.size + 1, 1, none⟩ = some (.int .i64 (last : Nat)) := H.out.bU.cell 1
      have y0 : wr.cell? ⟨w1.heap.size, 0, none⟩ = some (.int .i64 (i0 : Nat)) := H.out.bD.cell 0
      have y1 : wr.cell? ⟨w1.heap.size, 1, none⟩ = some (.int .i64 (t0 : Nat)) := H.out.bD.cell 1
      have y2 : wr.cell? ⟨w1.heap.size, 2, none⟩ = some (.slice s0 m0 q0) := H.out.bD.cell 2
      have r0 : wr.cell? ⟨w.heap.size + 1, 0, none⟩ = some (.slice none 0 0) := H.out.bR.cell 0
      have r1 : wr.cell? ⟨w.heap.size + 1, 1, none⟩ = some (.int .i64 0) := H.out.bR.cell 1
      have rf0 : wr.frozen? ⟨w.heap.size + 1, 0, none⟩ = false := H.out.bR.free 0
      have rf1 : wr.frozen? ⟨w.heap.size + 1, 1, none⟩ = false := H.out.bR.free 1
      have p0 : wr.cell? ⟨w.heap.size + 1 + 1, 0, none⟩ = some (.int .i64 0) := H.out.bS.cell 0
      have p1 : wr.cell? ⟨w.heap.size + 1 + 1, 1, none⟩ = some (.int .i64 0) := H.out.bS.cell 1
      have p2 : wr.cell? ⟨w.heap.size + 1 + 1, 2, none⟩ = some (.slice none 0 0) := H.out.bS.cell 2
      have pf0 : wr.frozen? ⟨w.heap.size + 1 + 1, 0, none⟩ = false := H.out.bS.free 0
      have pf1 : wr.frozen? ⟨w.heap.size + 1 + 1, 1, none⟩ = false := H.out.bS.free 1
      have pf2 : wr.frozen? ⟨w.heap.size + 1 + 1, 2, none⟩ = false := H.out.bS.free 2
      have nn1 : ¬ w1.heap.size + 1 = w.heap.size + 1 := by omega
      have nn2 : ¬ w1.heap.size + 1 = w.heap.size + 1 + 1 := by omega
      have nn3 : ¬ w1.heap.size = w.heap.size + 1 := by omega
      have nn4 : ¬ w1.heap.size = w.heap.size + 1 + 1 := by omega
      go_wp2_with fail
      have HR := Lib.hid H.out
      have HF := Lib.hid (H.out.own)
      clear H HA
      go_region_law (fail)
      all_goals
        go_wp2_with fail
        obtain ⟨b1, b2, o3, b4⟩ := HR.out.wrote hlt (.slice A5 n5 cap5) (.int .i64 (last : Nat)) (.int .i64 (i0 : Nat)) (.int .i64 (t0 : Nat)) (.slice s0 m0 q0)
        refine ret_td (c := .bool bo) Try.results28 ?_ ?_ ?_ ?_ b1 b2 ?_
        · rfl
        · rfl
        · rfl
        · rfl
        · exact ⟨A5, n5, cap5, by rw [hd, hbo], o3.mono (by omega), b4⟩
end Pr
end Go.Proofs.Ytplinlgafgfepaa.Ld
