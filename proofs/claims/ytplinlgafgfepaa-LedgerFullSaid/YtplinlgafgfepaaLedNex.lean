/-
  The first due.
-/
import Derived.Test.YtplinlgafgfepaaLedUse
namespace Go.Proofs.Ytplinlgafgfepaa.Ld
open Go.RowKit Go.Maps Pr Go.Shelf
attribute [local go_sem] Oper.semAt_some

section
variable {w w' : World} {own : List Nat} {v p m last : Nat} {L : LL (List Lim)} {bl : Nat → Nat} {rs : List Nat} {D : Dt}
abbrev dzo : Obj := .cells #[.int .i64 0, .int .i64 0, .slice none 0 0] 38
abbrev bzo : Obj := .cells #[.bool false] 4
theorem next_world (w : World) : Below w.heap.size w (((w.alloc dzo).alloc dzo).alloc bzo) ∧ Box (((w.alloc dzo).alloc dzo).alloc bzo) w.heap.size 38 #[.int .i64 0, .int .i64 0, .slice none 0 0] ∧
    Box (((w.alloc dzo).alloc dzo).alloc bzo) (w.heap.size + 1) 38 #[.int .i64 0, .int .i64 0, .slice none 0 0] ∧ Box (((w.alloc dzo).alloc dzo).alloc bzo) (w.heap.size + 1 + 1) 4 #[.bool false] := by
  refine ⟨(((Below.refl _ _).alloc (Nat.le_refl _) _).alloc (by simp) _).alloc (by simp; omega) _, ((Box.new w _ _).alloc _).alloc _, (Box.new1 w _ _ _).alloc _, ?_⟩
  have := Box.new ((w.alloc dzo).alloc dzo) 4 #[.bool false]
  simpa using this

theorem LBlk.near {l : Nat} {W W' : World} {g : Nat} {ls : List Lim} (h : LBlk W g ls) (hn : Near l W W') : LBlk W' g ls := by
  obtain ⟨cur, h1, h2⟩ := h
  exact ⟨cur, hn.at_ h1 (fun r e => by cases e), h2⟩
theorem Pr.Box.near {l : Nat} {W W' : World} {b : Nat} {t : TypeId} {cs : Array Value} (h : Box W b t cs) (hn : Near l W W') : Box W' b t cs := hn.at_ h (fun r e => by cases e)
theorem due_max {last : Nat} {L : LL (List Lim)} (h : Good last L) : due L 9007199254740992 = srt L := by
  unfold due
  rw [List.filter_eq_self]
  intro x hx
  simpa using (h.fits x (mem_srt.1 hx)).2.2
theorem first_is {last : Nat} {L : LL (List Lim)} (h : Good last L) {id : Nat} (ht : [id] = ((due L 9007199254740992).map (·.1)).take 1) : ∃ till ls, nxt L = some (id, till, ls) ∧ (id, till, ls) ∈ L ∧ fnd L id = (id, till, ls) := by
  rw [due_max h] at ht
  unfold nxt
  cases hs : srt L with
  | nil => rw [hs] at ht; simp at ht
  | cons y l =>
    obtain ⟨id2, till, ls⟩ := y
    rw [hs] at ht
    simp at ht
    subst ht
    have hm : (id, till, ls) ∈ L := mem_srt.1 (by rw [hs]; simp)
    exact ⟨till, ls, rfl, hm, fnd_is h hm⟩

def NI (w : World) (ow1 : List Nat) (pre : List Yx) (W : World) : Prop := ow1 = [w.heap.size + 1, w.heap.size + 1 + 1] ∧ pre = [] ∧ Box W w.heap.size 38 #[.int .i64 0, .int .i64 0, .slice none 0 0] ∧ Box W (w.heap.size + 1) 38 #[.int .i64 0, .int .i64 0, .slice none 0 0] ∧ Box W (w.heap.size + 1 + 1) 4 #[.bool false] ∧ Below w.heap.size w W
def NX (L : LL (List Lim)) (w : World) (c : Code) (_ : List Nat) (_ : List Yx) (W : World) : Prop := c = .exit 0 ∧ ∃ id till ls g, nxt L = some (id, till, ls) ∧ Box W w.heap.size 38 #[.int .i64 0, .int .i64 0, .slice none 0 0] ∧ Box W (w.heap.size + 1) 38 #[.int .i64 (id : Nat), .int .i64 (till : Nat), .slice (la g ls.length) ls.length ls.length] ∧ Box W (w.heap.size + 1 + 1) 4 #[.bool true] ∧ (ls ≠ [] → w.heap.size + 6 ≤ g ∧ LBlk W g ls) ∧ Below w.heap.size w W
theorem NI.near {w : World} {l : Nat} {ow1 : List Nat} {pre : List Yx} {W W' : World} (h : NI w ow1 pre W) (hl : w.heap.size ≤ l) (hn : Near l W W') : NI w ow1 pre W' := by
  obtain ⟨a, b, c, d, e, f⟩ := h
  exact ⟨a, b, c.near hn, d.near hn, e.near hn, hn.below f hl f.size⟩
theorem NX.near {L : LL (List Lim)} {w : World} {c : Code} {l : Nat} {ow1 : List Nat} {pre : List Yx} {W W' : World} (h : NX L w c ow1 pre W) (hl : w.heap.size ≤ l) (hn : Near l W W') : NX L w c ow1 pre W' := by
  obtain ⟨a, id, till, ls, g, b, c, d, e, f, i⟩ := h
  exact ⟨a, id, till, ls, g, b, c.near hn, d.near hn, e.near hn, fun h0 => ⟨(f h0).1, (f h0).2.near hn⟩, hn.below i hl i.size⟩

set_option maxRecDepth 100000 in
set_option maxHeartbeats 4000000 in
theorem Next_calls (h : In w own v p m last L bl rs D) :
    Calls Try.prog 16 #[.pointer (some ⟨v, 0, none⟩)] w fun e w' => ∃ A cap, e = .returned (.tuple #[dv (od (nxt L)) A cap, .bool (nxt L).isSome]) ∧ Lims (Out [] own w w') w' A (od (nxt L)).2.2 ∧ Below w.heap.size w w' := by
  obtain ⟨hb0, b2, b4, b5⟩ := next_world w
  have hbz : Below w.heap.size w (w.alloc dzo) := (Below.refl _ _).alloc (Nat.le_refl _) _
  have H0 := Lib.hid (h.below hb0)
  have cz := (h.below hbz).vc
  have c1 := H0.out.vc
  have H := Lib.hid h
  obtain ⟨hb1, -, -, -⟩ := seq_world (((w.alloc dzo).alloc dzo).alloc bzo) p (9007199254740992 : Nat) 40
  have hE := until_each H0.out 9007199254740992 5 (by omega)
  simp only [World.size_alloc] at hE
  rw [show ((9007199254740992 : Nat) : Int) = 9007199254740992 from rfl] at hE hb1
  have HE := Lib.hid hE
  clear hE
  have hb01 := hb0.trans (hb1.mono hb0.size)
  have hsz : ((((((w.alloc dzo).alloc dzo).alloc bzo).alloc (o0 p)).alloc (o1 9007199254740992)).alloc (o2 40)).heap.size = w.heap.size + 6 := by simp
  have d2 := b2.keep hb1
  have d4 := b4.keep hb1
  have d5 := b5.keep hb1
  clear h b2 b4 b5 hb1
  refine (callsIn_wide (n := 6)).1 ?_
  refine callsIn_of_wp_marks Try.func16 rfl trivial ?_ rfl
  simp only [Try.ntmps16, List.size_toArray, List.length_cons, List.length_nil, Nat.reduceAdd, Nat.reduceSub, Array.replicate_succ, Array.replicate_zero, List.push_toArray, List.append_toArray, List.nil_append, List.cons_append]
  gi_wp2_with (first
    | (refine ⟨trivial, ?_⟩; gi_at_call 30; refine (callsIn_wide.2 (made_calls v p _ cz)).mono ?_; rintro e w1 ⟨rfl, rfl⟩)
    | (refine ⟨trivial, ?_⟩; gi_at_call 32; refine (callsIn_wide.2 (until_calls p _ _)).mono ?_; rintro e w1 ⟨rfl, rfl⟩)
    | gi_in)
  generalize ((((((w.alloc dzo).alloc dzo).alloc bzo).alloc (o0 p)).alloc (o1 9007199254740992)).alloc (o2 40)) = W1 at HE hb01 hsz d2 d4 d5 ⊢
  have HO := Lib.hid H.out.old
  have HG := Lib.hid H.out.good
  clear H0 c1 cz hbz hb0
  refine wpIn_each rfl (by omega) (gf := 46) (lb := #[.pointer (some ⟨w.heap.size + 1 + 1 + 1, 0, none⟩), .pointer (some ⟨w.heap.size + 1 + 1 + 1 + 1, 0, none⟩), .pointer (some ⟨w.heap.size + 1 + 1 + 1 + 1 + 1, 0, none⟩)]) rfl trivial (enters_of Try.func46 (by kernel_rfl) rfl) HE.out (Below.refl _ _) (fun _ => rfl)
    [w.heap.size + 1, w.heap.size + 1 + 1] (by simp; omega) (by intro r hr hc; have := HO.out r (H.out.mr hr); simp at hc; omega) (NI w) (NX L w) (fun _ _ _ _ h hn => h.near (by omega) hn) (fun _ _ _ _ _ h hn => h.near (by omega) hn)
    (fun W' hb => ⟨rfl, rfl, d2.keep hb, d4.keep hb, d5.keep hb, hb01.trans (hb.mono hb01.size)⟩) ?round ?done ?stop
  case round =>
    rintro ow1 pre ⟨id, g⟩ W ⟨rfl, rfl, e2, e4, e5, hbw⟩ ⟨hpl, htk, hmem, hlb⟩ hlt hl
    have ht : [id] = ((due L 9007199254740992).map (·.1)).take 1 := htk
    obtain ⟨till, ls, hnx, hmL, hf⟩ := first_is HG.out ht
    dsimp only at hlb
    rw [hf] at hlb
    dsimp only at hlb
    simp only [yv, hf]
    have HN := Lib.hid hnx
    have HL := Lib.hid hlb
    have HP := Lib.hid (And.intro e2 (And.intro e4 (And.intro e5 hbw)))
    clear hnx hlb ht htk hpl hmem hf hmL e2 e4 e5 hbw d2 d4 d5
    gi_wp2_with (first | gi_in)
    refine ⟨(Below.refl _ _).alloc (Nat.le_refl _) _, fun Wb hN hsz2 => ?_⟩
    have y6 := (Box.new W 38 #[.int .i64 (id : Nat), .int .i64 (till : Nat), .slice (la g ls.length) ls.length ls.length]).near hN
    have y2 := (HP.out.1.alloc (.cells #[.int .i64 (id : Nat), .int .i64 (till : Nat), .slice (la g ls.length) ls.length ls.length] 38)).near hN
    have y4 := (HP.out.2.1.alloc (.cells #[.int .i64 (id : Nat), .int .i64 (till : Nat), .slice (la g ls.length) ls.length ls.length] 38)).near hN
    have y5 := (HP.out.2.2.1.alloc (.cells #[.int .i64 (id : Nat), .int .i64 (till : Nat), .slice (la g ls.length) ls.length ls.length] 38)).near hN
    have hbW : Below w.heap.size w Wb := hN.below (HP.out.2.2.2.alloc HP.out.2.2.2.size _) (by omega) (by have := HP.out.2.2.2.size; simp; omega)
    have hlW : ls ≠ [] → w.heap.size + 6 ≤ g ∧ LBlk Wb g ls := fun h0 => ⟨(HL.out h0).1, ((HL.out h0).2.2.below ((Below.refl _ _).alloc (Nat.le_refl _) (.cells #[.int .i64 (id : Nat), .int .i64 (till : Nat), .slice (la g ls.length) ls.length ls.length] 38))).near hN⟩
    have a0 := y6.cell 0
    have a1 := y6.cell 1
    have a2 := y6.cell 2
    have q0 := y4.cell 0
    have q1 := y4.cell 1
    have q2 := y4.cell 2
    have q3 := y5.cell 0
    have f0 := y4.free 0
    have f1 := y4.free 1
    have f2 := y4.free 2
    have f3 := y5.free 0
    simp only [List.getElem?_toArray, List.getElem?_cons_zero, List.getElem?_cons_succ] at a0 a1 a2 q0 q1 q2 q3
    have HY := Lib.hid (And.intro y2 (And.intro y4 (And.intro y5 (And.intro hbW hlW))))
    clear y2 y4 y5 y6 hbW hlW HL HP hN hlt hl
    gi_wp2_with (first | gi_in)
    refine ⟨[w.heap.size + 1, w.heap.size + 1 + 1], ⟨((((Only.refl _ _).set (by simp) _).set (by simp) _).set (by simp) _).set (by simp) _, fun x hx => .inl hx⟩, rfl, id, till, ls, g, HN.out, ?_, ?_, ?_, fun h0 => ⟨(HY.out.2.2.2.2 h0).1, (HY.out.2.2.2.2 h0).2.of ?_⟩, ?_⟩
    · exact (HY.out.1.far3 (by omega) _ _ _).far1 (by omega) _ _
    · exact (Box.set3 HY.out.2.1 _ _ _).far1 (by omega) _ _
    · exact heap_setCell_same _ _ 0 _ _ _ (HY.out.2.2.1.far3 (by omega) _ _ _)
    · have := (HY.out.2.2.2.2 h0).1
      rw [Below.heap_setCell _ _ _ _ (by simp; omega), Below.heap_setCell _ _ _ _ (by simp; omega), Below.heap_setCell _ _ _ _ (by simp; omega), Below.heap_setCell _ _ _ _ (by simp; omega)]
    · exact (below_set3 HY.out.2.2.2.1 (by omega) _ _ _).setCell (by simp; omega) _
  case done =>
    rintro Dd ow1 xs W rfl hS ⟨-, rfl, e2, e4, e5, hbw⟩ hK
    have hde : due L 9007199254740992 = [] := by simpa using hS.symm
    have hn : nxt L = none := by
      rw [due_max HG.out] at hde
      unfold nxt
      rw [hde]; rfl
    have q0 := e4.cell 0
    have q1 := e4.cell 1
    have q2 := e4.cell 2
    have q3 := e5.cell 0
    have p0 := e2.cell 0
    have p1 := e2.cell 1
    have p2 := e2.cell 2
    have f0 := e2.free 0
    have f1 := e2.free 1
    have f2 := e2.free 2
    simp only [List.getElem?_toArray, List.getElem?_cons_zero, List.getElem?_cons_succ] at p0 p1 p2 q0 q1 q2 q3
    gi_wp2_with (first | gi_in)
    gi_big_region
    have hB3 := below_set3 (a := .int .i64 0) (b := .int .i64 0) (c := .slice none 0 0) hbw (Nat.le_refl w.heap.size)
    have hK3 : (((W.setCell ⟨w.heap.size, 0, none⟩ (.int .i64 0)).setCell ⟨w.heap.size, 1, none⟩ (.int .i64 0)).setCell ⟨w.heap.size, 2, none⟩ (.slice none 0 0)).drew.heap[W1.heap.size]? = some (.deferred (some [])) := (set3_other (by omega) _ _ _).trans hK
    have hX3 : Box (((W.setCell ⟨w.heap.size, 0, none⟩ (.int .i64 0)).setCell ⟨w.heap.size, 1, none⟩ (.int .i64 0)).setCell ⟨w.heap.size, 2, none⟩ (.slice none 0 0)).drew w.heap.size 38 #[.int .i64 0, .int .i64 0, .slice none 0 0] := Box.set3 e2 _ _ _
    have HB3 := Lib.hid hB3
    have HX3 := Lib.hid hX3
    clear hB3 hX3
    gi_wp2
    refine ⟨by simp, .inl ⟨_, _, rfl, run_takeDeferred hK3, ?_⟩⟩
    refine ⟨_, results_two Try.results16 _ _ w.heap.size 38 _ (0, 0) _ (.bool false) rfl rfl ((World.putObj_heap_other (by omega)).trans HX3.out) Try.underlying38 rfl d_size, ?_⟩
    rw [hn]
    exact ⟨none, 0, rfl, Lims.nil _ _ _, HB3.out.drew.trans (belowK_b (w := w) (Nat.le_refl _) _ _ _ _ (by omega) hK3 rfl rfl)⟩
  case stop =>
    rintro Dd c ow1 pre W rfl ⟨rfl, id, till, ls, g, hnx, e2, e4, e5, hlb, hbw⟩ hK
    have q0 := e4.cell 0
    have q1 := e4.cell 1
    have q2 := e4.cell 2
    have q3 := e5.cell 0
    have p0 := e2.cell 0
    have p1 := e2.cell 1
    have p2 := e2.cell 2
    have f0 := e2.free 0
    have f1 := e2.free 1
    have f2 := e2.free 2
    simp only [List.getElem?_toArray, List.getElem?_cons_zero, List.getElem?_cons_succ] at p0 p1 p2 q0 q1 q2 q3
    gi_wp2_with (first | gi_in)
    gi_big_region
    have hB3 := below_set3 (a := .int .i64 (id : Nat)) (b := .int .i64 (till : Nat)) (c := .slice (la g ls.length) ls.length ls.length) hbw (Nat.le_refl w.heap.size)
    have hK3 : (((W.setCell ⟨w.heap.size, 0, none⟩ (.int .i64 (id : Nat))).setCell ⟨w.heap.size, 1, none⟩ (.int .i64 (till : Nat))).setCell ⟨w.heap.size, 2, none⟩ (.slice (la g ls.length) ls.length ls.length)).drew.heap[W1.heap.size]? = some (.deferred (some [])) := (set3_other (by omega) _ _ _).trans hK
    have hX3 : Box (((W.setCell ⟨w.heap.size, 0, none⟩ (.int .i64 (id : Nat))).setCell ⟨w.heap.size, 1, none⟩ (.int .i64 (till : Nat))).setCell ⟨w.heap.size, 2, none⟩ (.slice (la g ls.length) ls.length ls.length)).drew w.heap.size 38 #[.int .i64 (id : Nat), .int .i64 (till : Nat), .slice (la g ls.length) ls.length ls.length] := Box.set3 e2 _ _ _
    have HB3 := Lib.hid hB3
    have HX3 := Lib.hid hX3
    clear hB3 hX3
    gi_wp2
    refine ⟨by simp, .inl ⟨_, _, rfl, run_takeDeferred hK3, ?_⟩⟩
    refine ⟨_, results_two Try.results16 _ _ w.heap.size 38 _ (0, 0) _ (.bool true) rfl rfl ((World.putObj_heap_other (by omega)).trans HX3.out) Try.underlying38 rfl d_size, ?_⟩
    rw [hnx]
    have hbp : ∀ k, k ≠ w.heap.size → k ≠ W1.heap.size → ((((W.setCell ⟨w.heap.size, 0, none⟩ (.int .i64 (id : Nat))).setCell ⟨w.heap.size, 1, none⟩ (.int .i64 (till : Nat))).setCell ⟨w.heap.size, 2, none⟩ (.slice (la g ls.length) ls.length ls.length)).drew.putObj W1.heap.size (.deferred none)).heap[k]? = W.heap[k]? := fun k h1 h2 => (World.putObj_heap_other (by omega)).trans (set3_other h1 _ _ _)
    have hlF : ls ≠ [] → w.heap.size + 6 ≤ g ∧ LBlk ((((W.setCell ⟨w.heap.size, 0, none⟩ (.int .i64 (id : Nat))).setCell ⟨w.heap.size, 1, none⟩ (.int .i64 (till : Nat))).setCell ⟨w.heap.size, 2, none⟩ (.slice (la g ls.length) ls.length ls.length)).drew.putObj W1.heap.size (.deferred none)) g ls := fun h0 => by
      obtain ⟨h1, h2⟩ := hlb h0
      refine ⟨h1, h2.of (hbp g (by omega) (fun e => ?_))⟩
      obtain ⟨cur, h3, _⟩ := h2
      rw [e, hK] at h3
      cases h3
    exact ⟨la g ls.length, ls.length, rfl, LBlk.lims fun h0 => ⟨out_new HO.out (by have := (hlF h0).1; omega) (hlF h0).2.lt, (hlF h0).2⟩, HB3.out.drew.trans (belowK_b (w := w) (Nat.le_refl _) _ _ _ _ (by omega) hK3 rfl rfl)⟩
end
end Go.Proofs.Ytplinlgafgfepaa.Ld
