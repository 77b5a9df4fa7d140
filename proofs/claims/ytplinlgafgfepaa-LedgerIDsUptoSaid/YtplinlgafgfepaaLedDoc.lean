/-
  The document's ledger beside the program's: its box, its row, and what one step of it makes of both.
-/
import Derived.Test.YtplinlgafgfepaaLedQ
namespace Go.Proofs.Ytplinlgafgfepaa.Ld
open Go.RowKit
open Pr (Box Row Ents PR Src tc tbox tzb)

theorem Row.stands {S T : Nat → Prop} {w w' : World} {A : Option Addr} {n cap : Nat} {l : LL Pr.Sl} (h : Row w A n cap l) (k : Stands S T w w') (hz : w.heap.size ≤ w'.heap.size) (hs : ∀ a, A = some a → S a.block) : Row w' A n cap l := by
  refine ⟨h.1, ?_, h.2.2.1, fun a ha => Nat.lt_of_lt_of_le (h.2.2.2 a ha) hz⟩
  rcases h.2.1.2 with rfl | ⟨a, cur, fz, rfl, hb⟩
  · exact .nil _ _
  · have hk : w'.heap[a.block]? = w.heap[a.block]? := (k _ (hs a rfl)).1
    refine ⟨fun i hi => ?_, .inr ⟨a, cur, fz, rfl, by rw [hk]; exact hb⟩⟩
    obtain ⟨a', e, c0, c1, c2⟩ := h.2.1.1 i hi
    injection e with e
    subst e
    exact ⟨a, rfl, by rw [Pr.cell_same (w := w) (w' := w') (by rw [add_blk, hk])]; exact c0, by rw [Pr.cell_same (w := w) (w' := w') (by rw [add_blk, hk])]; exact c1, by rw [Pr.cell_same (w := w) (w' := w') (by rw [add_blk, hk])]; exact c2⟩

/-- what holds in worlds that grow, and does not look at blocks that stand -/
structure Inv (w0 : World) (own : List Nat) (I : World → Prop) : Prop where
  below : ∀ {W W' : World}, I W → Below W.heap.size W W' → I W'
  put : ∀ {W : World} {b : Nat}, I W → Free own W b → w0.heap.size ≤ b → ∀ j v, I (W.setCell ⟨b, j, none⟩ v)
  size : ∀ {W : World}, I W → w0.heap.size ≤ W.heap.size
  lt : ∀ {W : World}, I W → ∀ x ∈ own, x < W.heap.size
variable {C : LC} {w0 w : World} {own : List Nat} {v last : Nat} {L : LL (List Lim)} {o1 o2 : List Nat} {a b l1 l2 : Nat} {p q : LL (List Lim)}
theorem only_put {W : World} {b : Nat} (j : Nat) (v : Value) : Only [b] W (W.setCell ⟨b, j, none⟩ v) := (Only.refl [b] W).set (by simp) v
theorem World_setCell_other {W : World} {b x : Nat} (j : Nat) (u : Value) (h : x ≠ b) : (W.setCell ⟨b, j, none⟩ u).heap[x]? = W.heap[x]? := Below.heap_setCell _ _ _ _ h
theorem One.inv : Inv w0 own (fun W => One C w0 W own v last L) where
  below := fun h hb => h.below hb
  put := fun h hf hb j u => ⟨h.1.setCell hb u, C.keep h.2.1 (only_put j u) (fun x hx hc => (hf.2 (by rw [List.mem_singleton] at hc; rw [← hc]; exact hx)).elim), h.2.2⟩
  size := fun h => h.1.size
  lt := fun h => (C.good h.2.1).2.1
theorem Two.inv : Inv w0 (o1 ++ o2) (fun W => Two C w0 W o1 o2 a b l1 l2 p q) where
  below := fun h hb => h.below hb
  put := fun h hf hb j u => ⟨h.1.setCell hb u, C.keep h.2.1 (only_put j u) (fun x hx hc => (hf.2 (by rw [List.mem_singleton] at hc; rw [← hc]; exact List.mem_append.2 (.inl hx))).elim), C.keep h.2.2.1 (only_put j u) (fun x hx hc => (hf.2 (by rw [List.mem_singleton] at hc; rw [← hc]; exact List.mem_append.2 (.inr hx))).elim), h.2.2.2.1, h.2.2.2.2.1, fun x hx hc => (h.2.2.2.2.2 x hx hc).of (World_setCell_other j u (fun e => hf.2 (List.mem_append.2 (.inl (e ▸ hx)))))⟩
  size := fun h => h.1.size
  lt := fun h x hx => (List.mem_append.1 hx).elim ((C.good h.2.1).2.1 x) ((C.good h.2.2.1).2.1 x)

/-- the document's ledger lies in the box ub -/
structure Doc (w0 W : World) (own : List Nat) (ub last : Nat) (R : LL Pa) (A : Option Addr) (n cap : Nat) : Prop where
  box : Box W ub 29 (tc A n cap last)
  row : Row W A n cap (mapP ps R)
  fb : Free own W ub
  ge : w0.heap.size ≤ ub
  fr : ∀ a, A = some a → Free own W a.block
variable {W W' : World} {own' : List Nat} {ub vb last2 n cap n2 cap2 : Nat} {R R' : LL Pa} {A A2 : Option Addr}
theorem Doc.goes (h : Doc w0 W own ub last R A n cap) (k : Stands (Free own W) (Free own' W') W W') (hz : W.heap.size ≤ W'.heap.size) : Doc w0 W' own' ub last R A n cap :=
  ⟨by have := h.box; unfold Box at *; rw [(k _ h.fb).1]; exact this, Row.stands h.row k hz h.fr, (k _ h.fb).2, h.ge, fun a ha => (k _ (h.fr a ha)).2⟩
theorem Doc.below (h : Doc w0 W own ub last R A n cap) (hb : Below W.heap.size W W') : Doc w0 W' own ub last R A n cap := h.goes (Below.stands hb) hb.size
theorem Doc.c0 (h : Doc w0 W own ub last R A n cap) : W.cell? ⟨ub, 0, none⟩ = some (.slice A n cap) := h.box.cell 0
theorem Doc.c1 (h : Doc w0 W own ub last R A n cap) : W.cell? ⟨ub, 1, none⟩ = some (.int .i64 (last : Nat)) := h.box.cell 1
theorem Free.put {b c : Nat} {j : Nat} {u : Value} (h : Free own W b) : Free own (W.setCell ⟨c, j, none⟩ u) b := ⟨by rw [World.size_setCell]; exact h.1, h.2⟩

/-- and what it is next lies in the box vb -/
structure Nxt (w0 W : World) (own : List Nat) (I : World → Prop) (ub vb last last2 : Nat) (R R' : LL Pa) (A A2 : Option Addr) (n cap n2 cap2 : Nat) : Prop where
  inv : I W
  doc : Doc w0 W own ub last R A n cap
  box : Box W vb 29 (tc A2 n2 cap2 last2)
  row : Row W A2 n2 cap2 (mapP ps R')
  fr : ∀ a, A2 = some a → Free own W a.block
  ne : ub ≠ vb
variable {I : World → Prop}
theorem Nxt.over (i : Inv w0 own I) (h : Nxt w0 W own I ub vb last last2 R R' A A2 n cap n2 cap2) :
    I ((W.setCell ⟨ub, 0, none⟩ (.slice A2 n2 cap2)).setCell ⟨ub, 1, none⟩ (.int .i64 (last2 : Nat))) ∧ Doc w0 ((W.setCell ⟨ub, 0, none⟩ (.slice A2 n2 cap2)).setCell ⟨ub, 1, none⟩ (.int .i64 (last2 : Nat))) own ub last2 R' A2 n2 cap2 :=
  ⟨i.put (i.put h.inv h.doc.fb h.doc.ge 0 _) h.doc.fb.put h.doc.ge 1 _, ⟨h.doc.box.set2 _ _, (h.row.setBox h.doc.box (by decide) 0 _).setBox (heap_setCell_same _ _ 0 _ _ _ h.doc.box) (by decide) 1 _, h.doc.fb.put.put, h.doc.ge, fun a ha => (h.fr a ha).put.put⟩⟩
theorem src_free {w5 : World} {B : Nat} (hs : Src B A A2) (hB : ∀ x ∈ own, x < B) (hr : Row w5 A2 n2 cap2 (mapP ps R')) (hf : ∀ a, A = some a → Free own w5 a.block) : ∀ a, A2 = some a → Free own w5 a.block := fun a ha =>
  (hs a ha).elim (fun h => hf a h) (fun h => ⟨hr.2.2.2 a ha, fun hc => by have := hB _ hc; omega⟩)
theorem Nxt.made {w4 w5 : World} (i : Inv w0 own I) (H : I w4) (D : Doc w0 w4 own ub last R A n cap) (hb : Below (w4.alloc tzb).drew.heap.size (w4.alloc tzb).drew w5) (hp : Row w5 A2 n2 cap2 (mapP ps R')) (hs : Src (w4.alloc tzb).drew.heap.size A A2) :
    Nxt w0 ((w5.setCell ⟨w4.heap.size, 0, none⟩ (.slice A2 n2 cap2)).setCell ⟨w4.heap.size, 1, none⟩ (.int .i64 (last2 : Nat))) own I ub w4.heap.size last last2 R R' A A2 n cap n2 cap2 := by
  have hk : Below w4.heap.size w4 (w4.alloc tzb).drew := ((Below.refl _ _).alloc (Nat.le_refl _) _).drew
  have BV : Box w5 w4.heap.size 29 #[.slice none 0 0, .int .i64 0] := (Box.drew (Box.new w4 _ _)).keep hb
  have h1 : I w5 := i.below (i.below H hk) hb
  have h2 := (D.below hk).below hb
  have hne : ub ≠ w4.heap.size := by have := D.box.lt; omega
  have hv : Free own w5 w4.heap.size := ⟨BV.lt, fun hc => Nat.lt_irrefl _ (i.lt H _ hc)⟩
  have hge := i.size H
  have hfr := src_free hs (fun x hx => by have := i.lt H x hx; have := hk.size; omega) hp h2.fr
  refine ⟨i.put (i.put h1 hv hge 0 _) hv.put hge 1 _, ⟨h2.box.far2 hne _ _, (h2.row.setBox BV (by decide) 0 _).setBox (heap_setCell_same _ _ 0 _ _ _ BV) (by decide) 1 _, h2.fb.put.put, h2.ge, fun a ha => (h2.fr a ha).put.put⟩, BV.set2 _ _, (hp.setBox BV (by decide) 0 _).setBox (heap_setCell_same _ _ 0 _ _ _ BV) (by decide) 1 _, fun a ha => (hfr a ha).put.put, hne⟩
theorem Nxt.made2 {w4 w5 : World} (i : Inv w0 own I) (H : I w4) (D : Doc w0 w4 own ub last R A n cap) (hb : Below w4.drew.heap.size w4.drew w5) (hp : Row w5 A2 n2 cap2 (mapP ps R')) (hs : Src w4.drew.heap.size A A2) :
    Nxt w0 (w5.alloc (tbox A2 n2 cap2 last2)) own I ub w5.heap.size last last2 R R' A A2 n cap n2 cap2 := by
  have hk : Below w4.heap.size w4 w4.drew := (Below.refl _ _).drew
  have h1 : I w5 := i.below (i.below H hk) hb
  have h2 := (D.below hk).below hb
  have hne : ub ≠ w5.heap.size := by have := h2.box.lt; omega
  have ha : Below w5.heap.size w5 (w5.alloc (tbox A2 n2 cap2 last2)) := (Below.refl _ _).alloc (Nat.le_refl _) _
  have hfr := src_free hs (fun x hx => i.lt H x hx) hp h2.fr
  exact ⟨i.below h1 ha, h2.below ha, Box.new _ _ _, hp.keep ha, fun a h => (Free.below (hfr a h) ha).2, hne⟩
theorem free_rot {b : Nat} (h : Free (o1 ++ o2) W b) : Free (o2 ++ o1) W b := ⟨h.1, fun hc => h.2 (List.mem_append.2 (List.mem_append.1 hc).symm)⟩
theorem Doc.rot (h : Doc w0 W (o1 ++ o2) ub last R A n cap) : Doc w0 W (o2 ++ o1) ub last R A n cap := ⟨h.box, h.row, free_rot h.fb, h.ge, fun a ha => free_rot (h.fr a ha)⟩
theorem rising_len {α : Type} {l : LL α} (h : l.Pairwise (·.1 < ·.1)) {m last : Nat} (hm : ∀ x ∈ l, m < x.1 ∧ x.1 ≤ last) : l.length ≤ last - m := by
  induction l generalizing m with
  | nil => exact Nat.zero_le _
  | cons x l ih =>
    rw [List.pairwise_cons] at h
    have h1 := hm x (by simp)
    have h2 := ih h.2 (m := x.1) (fun y hy => ⟨h.1 y hy, (hm y (by simp [hy])).2⟩)
    rw [List.length_cons]
    omega
theorem Good.len_le {α : Type} {last : Nat} {l : LL α} (h : Good last l) : l.length ≤ last := by
  have := rising_len h.rise (m := 0) (last := last) (fun x hx => by have := h.fits x hx; omega)
  omega
/-- the first of two does something -/
theorem Two.did {w : World} {k n : Int} {X : Option Addr} {cap : Nat} {ls : List Lim} (h : Two C w0 w o1 o2 a b l1 l2 p q) (hlast : l1 < 4611686018427387904) (hn : I64 n) (hX : Lims (fun b => b < w0.heap.size) w X ls) (hXn : X = none → cap = 0) (hl : ls.length ≤ 1048576) :
    Calls Try.prog 12 #[.pointer (some ⟨a, 0, none⟩), .agg #[.int .i64 k, .int .i64 n, .slice X ls.length cap]] w fun e w' => ∃ o1' A cap', e = .returned (.tuple #[.int .i64 (stI p l1 k n), .slice A (stR p k n).length cap']) ∧ Two C w0 w' o1' o2 a b (stN p l1 k) l2 (stL p l1 k n ls) q ∧ Stands (Free (o1 ++ o2) w) (Free (o1' ++ o2) w') w w' ∧ w.heap.size ≤ w'.heap.size :=
  (did_calls h.2.1 k n X cap ls hlast hn (hX.mono fun b hb => (h.fst.begun b hb).2) hXn hl).mono fun _ _ ⟨o', A, c, e, _, h2, h3⟩ => ⟨o', A, c, e, h.turn h2 h3, h.stands h3, h3.1.size⟩
end Go.Proofs.Ytplinlgafgfepaa.Ld
