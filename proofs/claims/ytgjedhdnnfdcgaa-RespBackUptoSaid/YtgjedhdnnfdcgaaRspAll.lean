/-
  Commands that came, gathered in a row of the call's own, beside a reader.
-/
import Derived.Test.YtgjedhdnnfdcgaaRspBak
import Derived.Maps.AppendAt
namespace Go.Proofs.Ytgjedhdnnfdcgaa.Rp
open Go.RowKit

/-- each command's texts lie in a block of texts that stands -/
def TS (S : Nat → Prop) (w : World) (L : List Cm) : Prop := ∀ x ∈ L, ∃ (a : Addr) (cur : Array Value), x.2.1 = some a ∧ S a.block ∧ w.heap[a.block]? = some (.cells cur 9 (0, 0)) ∧ Texts w x.2.1 (x.1.map bat) ∧ x.1.length ≤ x.2.2
theorem TS.nil (S : Nat → Prop) (w : World) : TS S w [] := fun x hx => by cases hx
theorem TS.goes {S T : Nat → Prop} {w w' : World} {L : List Cm} (h : TS S w L) (k : Stands S T w w') : TS T w' L := fun x hx => by
  obtain ⟨a, cur, e, hs, hb, ht, hc⟩ := h x hx
  exact ⟨a, cur, e, (k _ hs).2, by rw [(k _ hs).1]; exact hb, texts_goes ht k (fun a' e' => by rw [e] at e'; injection e' with e'; rw [← e']; exact hs), hc⟩
theorem TS.append {S : Nat → Prop} {w : World} {L M : List Cm} (h : TS S w L) (k : TS S w M) : TS S w (L ++ M) := fun x hx => (List.mem_append.1 hx).elim (h x) (k x)
theorem TS.mono {S T : Nat → Prop} {w : World} {L : List Cm} (h : TS S w L) (k : ∀ b, S b → T b) : TS T w L := h.goes fun b hb => ⟨rfl, k b hb⟩
theorem Handed.ts {S : Nat → Prop} {w : World} {A : Option Addr} {L : List Cm} (h : Handed S w A L) : TS S w L := fun x hx => by
  obtain ⟨i, hi, rfl⟩ := List.mem_iff_getElem.1 hx
  obtain ⟨a, cur, e, hs, hb, ht⟩ := h.one i hi
  exact ⟨⟨a, 0, none⟩, cur, e, hs, hb, ht, h.cap i hi⟩
theorem RRow.goes {w w' : World} {B : Nat} {v : Value} {l : List Cm} (h : RRow w B v l) (hb : ∀ g, v.ownBlock = some g → w'.heap[g]? = w.heap[g]?) : RRow w' B v l := by
  refine ⟨h.1, ?_⟩
  rcases h.2 with h2 | ⟨g, cap, cur, rfl, hB, hg, r⟩
  · exact .inl h2
  · exact .inr ⟨g, cap, cur, rfl, hB, by rw [hb g rfl]; exact hg, r⟩
theorem RRow.rows {S : Nat → Prop} {w : World} {B : Nat} {v : Value} {l : List Cm} (h : RRow w B v l) (hr : TS S w l) : ∃ A cap, v = .slice A l.length cap ∧ Rows w A (l.map (·.1)) := by
  rcases h.2 with ⟨rfl, h0⟩ | ⟨g, cap, cur, rfl, _⟩
  · obtain rfl : l = [] := List.eq_nil_of_length_eq_zero h0
    exact ⟨none, 0, rfl, Rows.nil _ _⟩
  · refine ⟨some ⟨g, 0, none⟩, cap, rfl, fun i hi => ?_⟩
    have hi' : i < l.length := by simpa using hi
    obtain ⟨a, cur2, e, _, _, ht, hc⟩ := hr l[i] (List.getElem_mem hi')
    refine ⟨_, rfl, l[i].2.1, l[i].2.2, ?_, ?_, ?_, ?_⟩
    · have := World.ownsRow.cells h (g := g) rfl i (Cm.v l[i]) (by simp [hi'])
      rw [this]
      simp [Cm.v]
    · simpa using ht
    · simpa using hc
    · intro e3; rw [e] at e3; cases e3
/-- append of commands that were handed out -/
theorem wpList_append_cms {w : World} {ops : Array Oper} {rest : List Oper} {o : Oper} {a : Act} {Q : Exit → Act → World → Prop} (hgd : o.guard = none) (s x : Operand)
    (ho : o.op = .call { callee := .builtin .append, args := #[s, x], argTypes := #[27, 27] })
    (B : Nat) (v : Value) (l : List Cm) (hs : a.eval s = v) (hown : RRow w B v l) (A : Option Addr) (cap n : Nat) {S : Nat → Prop} (m : List Cm) (hx : a.eval x = .slice A n cap) (hm : Handed S w A m) (hmn : n = m.length) (hnil : A = none → cap = 0)
    (hn : l.length + m.length ≤ 1048576) (hB : B ≤ w.heap.size)
    (h : ∀ v' w', RRow w' B v' (l ++ m) → w.grownBy w' v.ownBlock → (v'.ownBlock = v.ownBlock ∨ v'.ownBlock = some w.heap.size) → wpList Try.prog ops Q rest (a.put o.dst v') w') : wpList Try.prog ops Q (o :: rest) a w := by
  obtain ⟨i0, hi, hz0, hz1, hz2⟩ := sls_parts
  subst hmn
  cases A with
  | none =>
    obtain rfl := hnil rfl
    obtain rfl : m = [] := by
      cases m with
      | nil => rfl
      | cons c m => obtain ⟨_, e, _⟩ := hm.row 0 (by simp); cases e
    refine wpList_append_own_none hgd s x 27 ho B 36 i0 1 Try.underlying27 hi v l.length (l.map Cm.v) hs hown hx ?_
    exact h v w (by rw [List.append_nil]; exact hown) ⟨rfl, rfl, rfl, Nat.le_refl _, fun _ _ _ => rfl⟩ (.inl rfl)
  | some ad =>
    refine wpList_append_own_at w hgd s x 27 ho B 36 i0 _ 1 24 Try.underlying27 hi hz0 hz1 hz2 rfl (by decide) v l.length (l.map Cm.v) hs hown ad m.length cap (m.map Cm.v) hx (by simp) ?_ ?_ (by unfold maxLen; omega) (by omega) hB (fun v' w' h2 h3 _ h5 => h v' w' ?_ h3 h5)
    · intro j u hj
      have hj' : j < m.length := by
        have := (List.getElem?_eq_some_iff.1 hj).1
        simpa using this
      obtain ⟨a', e, _, hc, _⟩ := hm.row j hj'
      injection e with e
      subst e
      rw [hc]
      simp [hj'] at hj
      rw [hj]
    · intro u hu
      obtain ⟨c, _, rfl⟩ := List.mem_map.1 hu
      rfl
    · unfold RRow
      rw [List.length_append, List.map_append]
      exact h2

variable {C : RC} {w0 w w' : World} {own own' : List Nat} {v : Nat} {bs bs' : Bytes} {u u' : Value} {L M : List Cm}
/-- a reader, and what came, gathered -/
structure Sg (C : RC) (w0 w : World) (own : List Nat) (v : Nat) (bs : Bytes) (u : Value) (L : List Cm) : Prop where
  one : One C w0 w own v bs
  row : RRow w w0.heap.size u L
  fr : ∀ g, u.ownBlock = some g → Free own w g
  ts : TS (Free own w) w L
theorem Sg.turn (h : Sg C w0 w own v bs u L) (a : C.At w' own' v bs') (k : Kept own w own' w') : Sg C w0 w' own' v bs' u L where
  one := h.one.turn a k
  row := h.row.goes fun g hg => ((h.fr g hg).kept k).1
  fr := fun g hg => ((h.fr g hg).kept k).2
  ts := h.ts.goes (kept_stands k)
theorem Sg.below (h : Sg C w0 w own v bs u L) (hb : Below w.heap.size w w') : Sg C w0 w' own v bs u L where
  one := h.one.below hb
  row := h.row.below hb
  fr := fun g hg => ((h.fr g hg).below hb).2
  ts := h.ts.goes (below_stands hb)
/-- what stands stays where the row grows, but the row's own block -/
theorem grown_free {b : Nat} (hu : RRow w w0.heap.size u L) (hg : w.grownBy w' u.ownBlock) (hb : Free own w b) {cur : Array Value} (ht : w.heap[b]? = some (.cells cur 9 (0, 0))) : w'.heap[b]? = w.heap[b]? ∧ Free own w' b := by
  refine ⟨hg.block b hb.1 (fun e => ?_), Nat.lt_of_lt_of_le hb.1 hg.size, hb.2⟩
  rcases hu.2 with ⟨rfl, _⟩ | ⟨g, cap, cur', rfl, _, hgg, _⟩
  · cases e
  · simp only [Value.ownBlock, Option.some.injEq] at e
    subst e
    rw [ht] at hgg
    injection hgg with h1
    injection h1 with h1 h2 h3
    revert h2
    decide
theorem TS.grown (h : TS (Free own w) w M) (hu : RRow w w0.heap.size u L) (hg : w.grownBy w' u.ownBlock) : TS (Free own w') w' M := fun x hx => by
  obtain ⟨a, cur, e, hs, hb, ht, hc⟩ := h x hx
  obtain ⟨h1, h2⟩ := grown_free hu hg hs hb
  refine ⟨a, cur, e, h2, by rw [h1]; exact hb, fun i hi => ?_, hc⟩
  obtain ⟨a', e', hv⟩ := ht i hi
  rw [e] at e'
  injection e' with e'
  subst e'
  refine ⟨a, e, ?_⟩
  unfold World.cell? at hv ⊢
  rw [add_blk] at hv ⊢
  rw [h1]
  exact hv
theorem Sg.append (h : Sg C w0 w own v bs u L) (hM : TS (Free own w) w M) (hr : RRow w' w0.heap.size u' (L ++ M)) (hg : w.grownBy w' u.ownBlock) (hu : u'.ownBlock = u.ownBlock ∨ u'.ownBlock = some w.heap.size) : Sg C w0 w' own v bs u' (L ++ M) := by
  have hno : ∀ g, u.ownBlock = some g → g ∉ own := fun g hg => (h.fr g hg).2
  have hlt := C.good h.one.2.1
  have hat : C.At w' own v bs := by
    cases hu : u.ownBlock with
    | none => exact C.keep h.one.2.1 (o2 := []) ⟨hg.os, hg.tape, hg.output, hg.size, fun i hi _ => hg.block i hi (by rw [hu]; simp)⟩ (by simp)
    | some g => exact C.keep h.one.2.1 (o2 := [g]) ⟨hg.os, hg.tape, hg.output, hg.size, fun i hi hn => hg.block i hi (by rw [hu]; intro e; injection e with e; exact hn (by rw [e]; simp))⟩ (fun x hx hc => by rw [List.mem_singleton] at hc; rw [hc] at hx; exact hno g hu hx)
  have hb : Below w0.heap.size w0 w' := RRow.grown h.row hg h.one.1 h.one.1.size
  refine ⟨⟨hb, hat, h.one.2.2⟩, hr, fun g hg2 => ?_, (h.ts.grown h.row hg).append (hM.grown h.row hg)⟩
  have hgl : g < w'.heap.size := (World.ownsRow.lt hr g hg2).2
  refine ⟨hgl, fun hc => ?_⟩
  rcases hu with e | e
  · exact hno g (e.symm.trans hg2) hc
  · rw [e] at hg2
    injection hg2 with hg2
    have := hlt g hc
    omega
end Go.Proofs.Ytgjedhdnnfdcgaa.Rp
