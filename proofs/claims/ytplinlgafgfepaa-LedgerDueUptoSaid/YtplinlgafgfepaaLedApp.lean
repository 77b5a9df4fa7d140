/-
  All dues: the library's Collect over the iterator.
-/
import Derived.Test.YtplinlgafgfepaaLedCol
namespace Go.Proofs.Ytplinlgafgfepaa.Ld
open Go.RowKit Go.Maps Pr Go.Shelf
attribute [local go_sem] Oper.semAt_some

theorem YR.after {L : LL (List Lim)} {n0 B bT : Nat} {ow : List Nat} {pre : List Yx} {W w3 : World} {vv : Value} {arr : Obj} (h : YR L n0 B bT ow pre W vv) (hgr : (W.alloc arr).grownBy w3 vv.ownBlock) : Box w3 bT 27 #[vv] := by
  have h1a : Box (W.alloc arr) bT 27 #[vv] := h.1.alloc arr
  refine (hgr.block bT h1a.lt fun e => ?_).trans h1a
  obtain ⟨cur, fz, hk⟩ := row_ty (h.2.1.alloc arr) e.symm
  rw [show (W.alloc arr).heap[bT]? = _ from h1a] at hk
  simp at hk

set_option maxRecDepth 100000 in
set_option maxHeartbeats 4000000 in
theorem appendSeq_calls {w wq : World} {L : LL (List Lim)} {T rs : List Nat} {B b0 b1 b2 : Nat} (hE : Each Fence.wide 5 Try.prog 46 #[.pointer (some ⟨b0, 0, none⟩), .pointer (some ⟨b1, 0, none⟩), .pointer (some ⟨b2, 0, none⟩)] (yv L) (Fr B L T) (fun xs => xs.map (·.1) = T) (fun ow => ∀ r ∈ rs, r ∉ ow) wq)
    (hq : Below wq.heap.size wq w) (hrs : ∀ r ∈ rs, r < wq.heap.size) (hB : B ≤ wq.heap.size) (hT : T.length ≤ 1000) (ds : LL (List Lim)) (hd : T = ds.map (·.1)) (hf : ∀ d ∈ ds, fnd L d.1 = d) :
    Calls Try.prog 43 #[.slice none 0 0, .func (.func 46) #[] #[.pointer (some ⟨b0, 0, none⟩), .pointer (some ⟨b1, 0, none⟩), .pointer (some ⟨b2, 0, none⟩)]] w fun e w' =>
      ∃ A cap, e = .returned (.slice A ds.length cap) ∧ (A = none → cap = 0) ∧ Dues (fun k => k < w'.heap.size ∧ B ≤ k) w' A ds ∧ Below w.heap.size w w' := by
  obtain ⟨i0, hi, hz0, hz1, hz2⟩ := due_zero
  have b2' := Box.new w 27 #[.slice none 0 0]
  have hbw : Below w.heap.size w (w.alloc (.cells #[.slice none 0 0] 27)) := (Below.refl _ _).alloc (Nat.le_refl _) _
  have hsz : (w.alloc (.cells #[.slice none 0 0] 27)).heap.size = w.heap.size + 1 := by simp
  have HD := Lib.hid (And.intro hd (And.intro hf hT))
  have HB := Lib.hid hB
  clear hd hf hT hB
  refine (callsIn_wide (n := 6)).1 ?_
  refine callsIn_of_wp_marks Try.func43 rfl trivial ?_ rfl
  simp only [Try.ntmps43, List.size_toArray, List.length_cons, List.length_nil, Nat.reduceAdd, Nat.reduceSub, Array.replicate_succ, Array.replicate_zero, List.push_toArray, List.append_toArray, List.nil_append, List.cons_append]
  gi_wp2_with (first | gi_in)
  generalize w.alloc (.cells #[.slice none 0 0] 27) = W1 at b2' hbw hsz ⊢
  refine wpIn_each rfl (by omega) (gf := 46) (lb := #[.pointer (some ⟨b0, 0, none⟩), .pointer (some ⟨b1, 0, none⟩), .pointer (some ⟨b2, 0, none⟩)]) rfl trivial (enters_of Try.func46 (by kernel_rfl) rfl) hE (hq.trans (hbw.mono hq.size)) (fun _ => rfl)
    [w.heap.size] (by simp; omega) (by intro r hr hc; have := hrs r hr; have := hq.size; simp at hc; omega)
    (fun ow1 pre W => ∃ vv, YR L w.heap.size B w.heap.size ow1 pre W vv ∧ Below w.heap.size w W ∧ ∀ y ∈ ow1, w.heap.size ≤ y) (fun _ _ _ _ => False)
    (fun _ _ _ _ ⟨vv, h, hb, hy⟩ hn => ⟨vv, h.near hn, hn.below hb (by omega) hb.size, hy⟩) (fun _ _ _ _ _ h _ => h.elim)
    (fun W' hb => ⟨_, ⟨b2'.keep hb, World.ownsRow_nil _ _ _ _, by simp, by simp, by simp [Value.ownBlock]⟩, hbw.trans (hb.mono hbw.size), by simp⟩) ?round ?done ?stop
  case round =>
    rintro ow1 pre ⟨id, g⟩ W ⟨vv, hY, hbW, hly⟩ ⟨hpl, htk, hmem, hlb⟩ hlt hl
    dsimp only at hlb
    obtain ⟨⟨id2, till, ls⟩, hfz⟩ : ∃ d, fnd L id = d := ⟨_, rfl⟩
    have hpl2 : pre.length < 1000 := by have := HD.out.2.2; omega
    have HF := Lib.hid hfz
    have HL := Lib.hid hlb
    have HLY := Lib.hid hly
    have HYR := Lib.hid (And.intro hY (And.intro hbW hlt))
    simp only [yv, hfz]
    clear hly hlb hY hbW hpl htk hmem hfz hlt
    gi_wp2_with (first | gi_in)
    refine ⟨(Below.refl _ _).alloc (Nat.le_refl _) _, fun Wb hN hsz2 => ?_⟩
    have y5 := (Box.new W 38 #[.int .i64 (id : Nat), .int .i64 (till : Nat), .slice (la g ls.length) ls.length ls.length]).near hN
    have hYb := (HYR.out.1.below ((Below.refl _ _).alloc (Nat.le_refl _) (.cells #[.int .i64 (id : Nat), .int .i64 (till : Nat), .slice (la g ls.length) ls.length ls.length] 38))).near hN
    have hbb : Below w.heap.size w Wb := hN.below (HYR.out.2.1.alloc HYR.out.2.1.size _) (by omega) (by have := HYR.out.2.1.size; simp; omega)
    have a0 := y5.cell 0
    have a1 := y5.cell 1
    have a2 := y5.cell 2
    have q0 := hYb.1.cell 0
    simp only [List.getElem?_toArray, List.getElem?_cons_zero, List.getElem?_cons_succ] at a0 a1 a2 q0
    have hlb2 : (fnd L id).2.2 ≠ [] → B ≤ g ∧ LBlk Wb g (fnd L id).2.2 := fun h0 => ⟨(HL.out h0).1, ((HL.out h0).2.2.below ((Below.refl _ _).alloc (Nat.le_refl _) (.cells #[.int .i64 (id : Nat), .int .i64 (till : Nat), .slice (la g ls.length) ls.length ls.length] 38))).near hN⟩
    have HY2 := Lib.hid hYb
    have HB2 := Lib.hid hbb
    have HL2 := Lib.hid hlb2
    have HSB := Lib.hid (show ∀ y ∈ ow1, y < Wb.heap.size from fun y hy => by have := HYR.out.2.2 y hy; rw [hsz2]; simp; omega)
    clear y5 hYb hbb hlb2 HL HYR hN hsz2 hl
    gi_wp2_with (first
      | (gi_at_builtin; refine wpListIn_append_own_at _ rfl _ _ 27 rfl w.heap.size 38 i0 zdue 3 40 Try.underlying27 hi hz0 hz1 hz2 rfl (by decide) vv _ _ rfl (HY2.out.2.1.alloc _) ⟨Wb.heap.size, 0, none⟩ 1 1 [.int .i64 (id : Nat), .int .i64 (till : Nat), .slice (la g ls.length) ls.length ls.length] rfl rfl (three_new _ _ _ _ _ _ rfl) (three_one _ _ _ _ _) (by unfold maxLen; omega) (by omega) (by have := HB2.out.size; simp; omega) ?_; intro v3 w3 hown3 hgr3 _ hob3; obtain ⟨g', cap', rfl⟩ := ownsRow_succ hown3; have hb3 := HY2.out.after hgr3; have s0 := hb3.cell 0; have s1 := hb3.free 0; simp only [List.getElem?_toArray, List.getElem?_cons_zero] at s0; have HO3 := Lib.hid hown3; have HG3 := Lib.hid hgr3; have HOB := Lib.hid hob3; clear hown3 hgr3 hob3 hb3)
      | gi_in)
    have hown3 := HO3.out
    have e3 : [Value.int .i64 (id : Nat), .int .i64 (till : Nat), .slice (la g ls.length) ls.length ls.length] = y3 L (id, g) := by
      unfold y3
      rw [HF.out]
    rw [e3] at hown3
    obtain ⟨p1, p2, p3, -⟩ := HY2.out.push (x := (id, g)) HY2.out.1.lt hown3 HG3.out HOB.out HL2.out
    exact ⟨_, p2, ⟨_, p1, p2.1.below HB2.out HLY.out HB2.out.size, fun y hy => (p2.2 y hy).elim (HLY.out y) (fun h => Nat.le_trans HB2.out.size h)⟩, fun y hy => p3 y hy (by
        rcases List.mem_cons.1 hy with rfl | hy
        · exact .inr rfl
        · exact .inl (HSB.out y hy))⟩
  case done =>
    rintro Dd ow1 xs W rfl hS ⟨vv, hY, hbW, -⟩ hK
    have q0 := hY.1.cell 0
    simp only [List.getElem?_toArray, List.getElem?_cons_zero] at q0
    gi_wp2_with (first | gi_in)
    have hne : ∀ k : Nat, (∃ (cur : Array Value) (fz : Nat × Nat) (t : TypeId), W.heap[k]? = some (.cells cur t fz)) → (W.putObj W1.heap.size (.deferred none)).heap[k]? = W.heap[k]? := fun k ⟨cur, fz, t, hk⟩ => World.putObj_heap_other (fun e => by
      subst e
      rw [hK] at hk
      cases hk)
    have hqs := hq.size
    have hBo := HB.out
    obtain ⟨A, cap, rfl, hn, hdu⟩ := hY.dues (W' := W.putObj W1.heap.size (.deferred none)) (S := fun k => k < (W.putObj W1.heap.size (.deferred none)).heap.size ∧ B ≤ k) ds (by rw [hS]; exact HD.out.1) HD.out.2.1 hne (fun k hk h => ⟨hk, by omega⟩)
    refine ⟨by simp, .inl ⟨_, _, rfl, run_takeDeferred hK, ?_⟩⟩
    exact ⟨_, results_tmp rfl _ _ _, A, cap, rfl, hn, hdu, hbW.trans (belowK_b (w := w) (Nat.le_refl _) _ _ _ _ (by omega) hK rfl rfl)⟩
  case stop =>
    rintro Dd c ow1 pre W rfl h hK
    exact h.elim
end Go.Proofs.Ytplinlgafgfepaa.Ld
