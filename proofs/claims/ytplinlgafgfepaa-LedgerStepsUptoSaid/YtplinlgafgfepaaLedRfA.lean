/-
  Rows of the document's own dues, its ledgers in memory; what a call with such results returns. (Printed out of my own XTabRfA.)
-/
import Derived.Test.YtplinlgafgfepaaLedP
import Derived.Deep.DeepCutAuto
import Derived.Deep.RegionHeld3
import Derived.Deep.RegionLaw
import Derived.Deep.AppendLies
import Derived.Laws.AppendOwnNone
import Derived.Laws.AppendOwn
import Derived.Laws.OwnMore
import Derived.StillTailTactics
namespace Go.Proofs.Ytplinlgafgfepaa.Ld
open Go.RowKit
namespace Pr

/-- a slice as it lies in a cell -/
abbrev Sl := Option Addr × Nat × Nat
abbrev slv (s : Sl) : Value := .slice s.1 s.2.1 s.2.2
/-- a slice's address reads as dues -/
def Ents (w : World) (A : Option Addr) (l : LL Sl) : Prop :=
  ∀ i (h : i < l.length), ∃ a : Addr, A = some a ∧ w.cell? (a.add (i * 3)) = some (.int .i64 (l[i].1 : Nat)) ∧ w.cell? ⟨(a.add (i * 3)).block, (a.add (i * 3)).off + 1, none⟩ = some (.int .i64 (l[i].2.1 : Nat)) ∧ w.cell? ⟨(a.add (i * 3)).block, (a.add (i * 3)).off + 2, none⟩ = some (slv l[i].2.2)
theorem Ents.at_ {w : World} {A : Option Addr} {l : LL Sl} (h : Ents w A l) {i : Nat} (hi : i < l.length) :
    ∃ a : Addr, A = some a ∧ w.cell? (a.add (i * 3)) = some (.int .i64 (l[i].1 : Nat)) ∧ w.cell? ⟨(a.add (i * 3)).block, (a.add (i * 3)).off + 1, none⟩ = some (.int .i64 (l[i].2.1 : Nat)) ∧ w.cell? ⟨(a.add (i * 3)).block, (a.add (i * 3)).off + 2, none⟩ = some (slv l[i].2.2) := h i hi
theorem Ents.keep {w w' : World} {A : Option Addr} {l : LL Sl} (h : Ents w A l) (hb : Below w.heap.size w w') : Ents w' A l := fun i hi => by
  obtain ⟨a, e, c1, c2, c3⟩ := h i hi
  exact ⟨a, e, keep2 hb c1, keep2 hb c2, keep2 hb c3⟩
theorem Ents.nil (w : World) (A : Option Addr) : Ents w A [] := fun i hi => absurd hi (by simp)
theorem Ents.alloc {w : World} {A : Option Addr} {l : LL Sl} (h : Ents w A l) (o : Obj) : Ents (w.alloc o) A l := h.keep ((Below.refl _ _).alloc (Nat.le_refl _) _)
/-- dues as cells -/
def ecells : LL Sl → List Value
  | [] => []
  | e :: l => .int .i64 (e.1 : Nat) :: .int .i64 (e.2.1 : Nat) :: slv e.2.2 :: ecells l
theorem ecells_length (l : LL Sl) : (ecells l).length = l.length * 3 := by
  induction l with
  | nil => rfl
  | cons e l ih => simp [ecells, ih]; omega
theorem ecells_append (k l : LL Sl) : ecells (k ++ l) = ecells k ++ ecells l := by
  induction k with
  | nil => rfl
  | cons e k ih => simp [ecells, ih]
theorem ecells_one (l : LL Sl) : ∀ u ∈ ecells l, u.oneCell' = true := by
  induction l with
  | nil => simp [ecells]
  | cons e l ih =>
    intro u hu
    simp [ecells] at hu
    rcases hu with rfl | rfl | rfl | hu
    · rfl
    · rfl
    · rfl
    · exact ih u hu
theorem ecells_0 (l : LL Sl) (i : Nat) (h : i < l.length) : (ecells l)[i * 3]? = some (.int .i64 (l[i].1 : Nat)) := by
  induction l generalizing i with
  | nil => simp at h
  | cons e l ih =>
    cases i with
    | zero => rfl
    | succ i =>
      rw [show (i + 1) * 3 = i * 3 + 1 + 1 + 1 by omega]
      simpa [ecells] using ih i (by simpa using h)
theorem ecells_1 (l : LL Sl) (i : Nat) (h : i < l.length) : (ecells l)[i * 3 + 1]? = some (.int .i64 (l[i].2.1 : Nat)) := by
  induction l generalizing i with
  | nil => simp at h
  | cons e l ih =>
    cases i with
    | zero => rfl
    | succ i =>
      rw [show (i + 1) * 3 + 1 = i * 3 + 1 + 1 + 1 + 1 by omega]
      simpa [ecells] using ih i (by simpa using h)
theorem ecells_2 (l : LL Sl) (i : Nat) (h : i < l.length) : (ecells l)[i * 3 + 2]? = some (slv l[i].2.2) := by
  induction l generalizing i with
  | nil => simp at h
  | cons e l ih =>
    cases i with
    | zero => rfl
    | succ i =>
      rw [show (i + 1) * 3 + 2 = i * 3 + 2 + 1 + 1 + 1 by omega]
      simpa [ecells] using ih i (by simpa using h)
theorem add_one (a : Addr) (n : Nat) : (⟨(a.add n).block, (a.add n).off + 1, none⟩ : Addr) = a.add (n + 1) := (add_off a n 1 (by decide)).symm
theorem add_two (a : Addr) (n : Nat) : (⟨(a.add n).block, (a.add n).off + 2, none⟩ : Addr) = a.add (n + 2) := (add_off a n 2 (by decide)).symm
/-- what a reading gives: cell by cell -/
theorem Ents.cells {w : World} {a : Addr} {l : LL Sl} (h : Ents w (some a) l) : ∀ j v, (ecells l)[j]? = some v → w.cell? (a.add j) = some v := by
  intro j v hv
  have hj : j < l.length * 3 := by
    have := (List.getElem?_eq_some_iff.1 hv).1
    rwa [ecells_length] at this
  obtain ⟨a', e, c0, c1, c2⟩ := h (j / 3) (by omega)
  injection e with e
  subst e
  have h3 : j % 3 = 0 ∨ j % 3 = 1 ∨ j % 3 = 2 := by omega
  rcases h3 with h0 | h0 | h0
  · have e2 : j = j / 3 * 3 := by omega
    have := ecells_0 l (j / 3) (by omega)
    rw [← e2] at this c0
    rw [c0, ← hv, this]
  · have e2 : j = j / 3 * 3 + 1 := by omega
    have := ecells_1 l (j / 3) (by omega)
    rw [add_one, ← e2] at c1
    rw [← e2] at this
    rw [c1, ← hv, this]
  · have e2 : j = j / 3 * 3 + 2 := by omega
    have := ecells_2 l (j / 3) (by omega)
    rw [add_two, ← e2] at c2
    rw [← e2] at this
    rw [c2, ← hv, this]
/-- and back -/
theorem Ents.of_cells {w : World} {a : Addr} {l : LL Sl} (h : ∀ j v, (ecells l)[j]? = some v → w.cell? (a.add j) = some v) : Ents w (some a) l := fun i hi =>
  ⟨a, rfl, h _ _ (ecells_0 l i hi), by rw [add_one]; exact h _ _ (ecells_1 l i hi), by rw [add_two]; exact h _ _ (ecells_2 l i hi)⟩
/-- a row of the call's own, from block B on, holds these dues -/
def Own (w : World) (B : Nat) (v : Value) (l : LL Sl) : Prop := w.ownsRow B 38 3 v l.length (ecells l)
theorem Own.view {w : World} {B : Nat} {v : Value} {l : LL Sl} (h : Own w B v l) : ∃ A cap, v = .slice A l.length cap ∧ l.length ≤ cap ∧ Ents w A l := by
  rcases h.2 with ⟨rfl, h0⟩ | ⟨g, cap, cur, rfl, hb, hg, hnc, hm, hs, ht⟩
  · obtain rfl : l = [] := List.eq_nil_of_length_eq_zero h0
    exact ⟨none, 0, rfl, Nat.le_refl _, Ents.nil _ _⟩
  · exact ⟨some ⟨g, 0, none⟩, cap, rfl, hnc, Ents.of_cells fun j v hv => World.ownsRow.cells h (g := g) rfl j v hv⟩
theorem Own.nil (w : World) (B : Nat) : Own w B (.slice none 0 0) [] := World.ownsRow_nil _ _ _ _
theorem Own.mono {w : World} {B B' : Nat} {v : Value} {l : LL Sl} (h : Own w B v l) (hB : B' ≤ B) : Own w B' v l := by
  refine ⟨h.1, ?_⟩
  rcases h.2 with h2 | ⟨g, cap, cur, hv, hb, r⟩
  · exact .inl h2
  · exact .inr ⟨g, cap, cur, hv, by omega, r⟩
theorem Own.keep {w w' : World} {B : Nat} {v : Value} {l : LL Sl} (h : Own w B v l) (hb : Below w.heap.size w w') : Own w' B v l := by
  refine ⟨h.1, ?_⟩
  rcases h.2 with h2 | ⟨g, cap, cur, hv, hbg, hg, r⟩
  · exact .inl h2
  · exact .inr ⟨g, cap, cur, hv, hbg, by rw [hb.block g (Array.getElem?_eq_some_iff.1 hg).1]; exact hg, r⟩
theorem entry_info : (Try.prog.info? 38).map (fun i => (i.zero, i.size, i.bytes)) = some (some (.agg #[.int .i64 0, .int .i64 0, .slice none 0 0]), 3, 40) := by kernel_rfl
theorem entry_parts : ∃ i, Try.prog.info? 38 = some i ∧ i.zero = some (.agg #[.int .i64 0, .int .i64 0, .slice none 0 0]) ∧ i.size = 3 ∧ i.bytes = 40 := by
  obtain ⟨i, h, a, b, c⟩ := info_parts entry_info
  exact ⟨i, h, a, b, c⟩
theorem Own.alloc {w : World} {B : Nat} {v : Value} {l : LL Sl} (h : Own w B v l) (o : Obj) : Own (w.alloc o) B v l := h.keep ((Below.refl _ _).alloc (Nat.le_refl _) _)
theorem Own.drewN {w : World} {B : Nat} {v : Value} {l : LL Sl} (h : Own w B v l) (n : Nat) : Own (w.drewN n) B v l := h.keep (below_drewN (Below.refl _ _) _)
theorem Own.grown {w w0 w' : World} {B : Nat} {v : Value} {l : LL Sl} (ho : Own w B v l) (hg : w.grownBy w' v.ownBlock) (hb : Below B w0 w) (hB : B ≤ w.heap.size) : Below B w0 w' :=
  hb.grown hg hB fun k hk => (World.ownsRow.lt ho k hk).1
/-- the append of dues that lie anywhere onto a row of the call's own -/
theorem wpList_append_dues {w : World} {ops : Array Oper} {o : Oper} {a : Go.Act} {rest : List Oper} {Q : Exit → Go.Act → World → Prop} (hgd : o.guard = none) (s x : Operand)
    (ho : o.op = .call { callee := .builtin .append, args := #[s, x], argTypes := #[27, 27] })
    (B : Nat) (v : Value) (l : LL Sl) (hs : a.eval s = v) (hown : Own w B v l) (b : Addr) (n cap : Nat) (m : LL Sl) (hx : a.eval x = .slice (some b) n cap) (hnm : n = m.length)
    (hm : Ents w (some b) m) (hpos : 0 < n) (hn : l.length + m.length ≤ 20000) (hB : B ≤ w.heap.size)
    (h : ∀ g cap w', Own w' B (.slice (some ⟨g, 0, none⟩) (l.length + m.length) cap) (l ++ m) → w.grownBy w' v.ownBlock → wpList Try.prog ops Q rest (a.put o.dst (.slice (some ⟨g, 0, none⟩) (l.length + m.length) cap)) w') : wpList Try.prog ops Q (o :: rest) a w := by
  obtain ⟨i0, hi, hz0, hz1, hz2⟩ := entry_parts
  subst hnm
  refine wpList_append_lies w hgd s x 27 ho B 38 i0 _ 3 40 Try.underlying27 hi hz0 hz1 hz2 rfl (by decide) v l.length (ecells l) hs hown b m.length cap (ecells m) hx (ecells_length m) hm.cells (ecells_one _) hpos (by unfold maxLen; omega) (by omega) hB _ rfl (fun g cap w' h2 h3 _ _ => h g cap w' ?_ h3)
  have h2' := h2
  rw [← ecells_append] at h2'
  unfold Own
  rw [List.length_append]
  exact h2'
/-- the append of dues that lie anywhere, or nowhere -/
theorem wpList_append_any {w : World} {ops : Array Oper} {o : Oper} {a : Go.Act} {rest : List Oper} {Q : Exit → Go.Act → World → Prop} (hgd : o.guard = none) (s x : Operand)
    (ho : o.op = .call { callee := .builtin .append, args := #[s, x], argTypes := #[27, 27] })
    (B : Nat) (v : Value) (l : LL Sl) (hs : a.eval s = v) (hown : Own w B v l) (A : Option Addr) (n cap : Nat) (m : LL Sl) (hx : a.eval x = .slice A n cap) (hnm : n = m.length) (hnil : A = none → cap = 0)
    (hm : Ents w A m) (hn : l.length + m.length ≤ 20000) (hB : B ≤ w.heap.size)
    (h : ∀ v' w', Own w' B v' (l ++ m) → w.grownBy w' v.ownBlock → wpList Try.prog ops Q rest (a.put o.dst v') w') : wpList Try.prog ops Q (o :: rest) a w := by
  obtain ⟨i0, hi, hz0, hz1, hz2⟩ := entry_parts
  subst hnm
  cases A with
  | none =>
    obtain rfl := hnil rfl
    obtain rfl : m = [] := by
      rcases Nat.eq_zero_or_pos m.length with h0 | h0
      · exact List.eq_nil_of_length_eq_zero h0
      · obtain ⟨a, e, _⟩ := hm 0 h0
        cases e
    refine wpList_append_own_none hgd s x 27 ho B 38 i0 3 Try.underlying27 hi v l.length (ecells l) hs hown hx ?_
    exact h v w (by simpa using hown) ⟨rfl, rfl, rfl, Nat.le_refl _, fun _ _ _ => rfl⟩
  | some ad =>
    refine wpList_append_own w hgd s x 27 ho B 38 i0 _ 3 40 Try.underlying27 hi hz0 hz1 hz2 rfl (by decide) v l.length (ecells l) hs hown ad m.length cap (ecells m) hx (ecells_length m) hm.cells (ecells_one _) (by unfold maxLen; omega) (by omega) hB (fun v' w' h2 h3 _ => h v' w' ?_ h3)
    have h2' := h2
    rw [← ecells_append] at h2'
    unfold Own
    rw [List.length_append]
    exact h2'
theorem Ents.one {w : World} {g : Nat} {d : Du Sl} (hg : w.heap[g]? = some (.cells #[.int .i64 (d.1 : Nat), .int .i64 (d.2.1 : Nat), slv d.2.2] 38 (0, 0))) : Ents w (some ⟨g, 0, none⟩) [d] := by
  refine Ents.of_cells fun j u hj => ?_
  have : ((⟨g, 0, none⟩ : Addr).add j) = ⟨g, j, none⟩ := by unfold Addr.add; split <;> simp_all
  rw [this, cell_of_row _ _ _ _ _ _ hg]
  simpa [ecells] using hj
theorem wpList_append_due {w : World} {ops : Array Oper} {o : Oper} {a : Go.Act} {rest : List Oper} {Q : Exit → Go.Act → World → Prop} (hgd : o.guard = none) (s x : Operand)
    (ho : o.op = .call { callee := .builtin .append, args := #[s, x], argTypes := #[27, 27] })
    (B : Nat) (v : Value) (l : LL Sl) (hs : a.eval s = v) (hown : Own w B v l) (g : Nat) (d : Du Sl) (hx : a.eval x = .slice (some ⟨g, 0, none⟩) 1 1)
    (hg : w.heap[g]? = some (.cells #[.int .i64 (d.1 : Nat), .int .i64 (d.2.1 : Nat), slv d.2.2] 38 (0, 0))) (hn : l.length ≤ 10000) (hB : B ≤ w.heap.size)
    (h : ∀ g cap w', Own w' B (.slice (some ⟨g, 0, none⟩) (l.length + 1) cap) (l ++ [d]) → w.grownBy w' v.ownBlock → wpList Try.prog ops Q rest (a.put o.dst (.slice (some ⟨g, 0, none⟩) (l.length + 1) cap)) w') : wpList Try.prog ops Q (o :: rest) a w :=
  wpList_append_dues hgd s x ho B v l hs hown ⟨g, 0, none⟩ 1 1 [d] hx rfl (Ents.one hg) (by decide) (by simp; omega) hB h
theorem step_append_due {w : World} {ops : Array Oper} {o : Oper} {a : Go.Act} {K : Go.Act → World → Prop} {Q : Exit → Go.Act → World → Prop} {E : Prop} (hgd : o.guard = none) (s x : Operand)
    (ho : o.op = .call { callee := .builtin .append, args := #[s, x], argTypes := #[27, 27] })
    (B : Nat) (v : Value) (l : LL Sl) (hs : a.eval s = v) (hown : Own w B v l) (g : Nat) (d : Du Sl) (hx : a.eval x = .slice (some ⟨g, 0, none⟩) 1 1)
    (hg : w.heap[g]? = some (.cells #[.int .i64 (d.1 : Nat), .int .i64 (d.2.1 : Nat), slv d.2.2] 38 (0, 0))) (hn : l.length ≤ 10000) (hB : B ≤ w.heap.size)
    (h : ∀ g cap w', Own w' B (.slice (some ⟨g, 0, none⟩) (l.length + 1) cap) (l ++ [d]) → w.grownBy w' v.ownBlock → K (a.put o.dst (.slice (some ⟨g, 0, none⟩) (l.length + 1) cap)) w') :
    if Region.wanted o (yielded ops a.tmps) = true then Oper.wp Try.prog o a w K Q else E := by
  obtain ⟨i0, hi, hz0, hz1, hz2⟩ := entry_parts
  refine step_append_lies w hgd s x 27 ho B 38 i0 _ 3 40 Try.underlying27 hi hz0 hz1 hz2 rfl (by decide) v l.length (ecells l) hs hown ⟨g, 0, none⟩ 1 1 (ecells [d]) hx rfl (Ents.one hg).cells (ecells_one _) (by decide) (by unfold maxLen; omega) (by omega) hB _ rfl (fun g cap w' h2 h3 _ _ => h g cap w' ?_ h3)
  have h2' := h2
  rw [← ecells_append] at h2'
  unfold Own
  rw [List.length_append]
  exact h2'
def Box (w : World) (b : Nat) (t : TypeId) (cs : Array Value) : Prop := w.heap[b]? = some (.cells cs t (0, 0))
theorem Box.keep {w w' : World} {b : Nat} {t : TypeId} {cs : Array Value} (h : Box w b t cs) (hb : Below w.heap.size w w') : Box w' b t cs := by
  unfold Box at *
  rw [hb.block b (Array.getElem?_eq_some_iff.1 h).1]; exact h
theorem Box.alloc {w : World} {b : Nat} {t : TypeId} {cs : Array Value} (h : Box w b t cs) (o : Obj) : Box (w.alloc o) b t cs := h.keep ((Below.refl _ _).alloc (Nat.le_refl _) _)
theorem Box.drew {w : World} {b : Nat} {t : TypeId} {cs : Array Value} (h : Box w b t cs) : Box w.drew b t cs := h
theorem Box.drewN {w : World} {b : Nat} {t : TypeId} {cs : Array Value} (h : Box w b t cs) (n : Nat) : Box (w.drewN n) b t cs := h
theorem Box.new (w : World) (t : TypeId) (cs : Array Value) : Box (w.alloc (.cells cs t)) w.heap.size t cs := heap_alloc_new w _
theorem Box.lt {w : World} {b : Nat} {t : TypeId} {cs : Array Value} (h : Box w b t cs) : b < w.heap.size := (Array.getElem?_eq_some_iff.1 h).1
theorem Box.cell {w : World} {b : Nat} {t : TypeId} {cs : Array Value} (h : Box w b t cs) (i : Nat) : w.cell? ⟨b, i, none⟩ = cs[i]? := cell_of_row _ _ _ _ _ _ h
theorem Box.free {w : World} {b : Nat} {t : TypeId} {cs : Array Value} (h : Box w b t cs) (i : Nat) : w.frozen? ⟨b, i, none⟩ = false := frozen_of_row _ _ _ _ _ h
theorem Box.new1 (w : World) (t : TypeId) (cs : Array Value) (o : Obj) : Box ((w.alloc o).alloc (.cells cs t)) (w.heap.size + 1) t cs := by
  have := Box.new (w.alloc o) t cs; simpa using this
theorem Box.far1 {w : World} {g b : Nat} {t : TypeId} {cs : Array Value} (h : Box w b t cs) (hne : b ≠ g) (j : Nat) (x : Value) : Box (w.setCell ⟨g, j, none⟩ x) b t cs := by
  unfold Box at *; rw [Below.heap_setCell _ _ _ _ hne]; exact h
theorem Box.grownOwn {w w' : World} {b B : Nat} {t : TypeId} {cs : Array Value} {v : Value} {l : LL Sl} (h : Box w b t cs) (ho : Own w B v l) (hb : b < B) (hg : w.grownBy w' v.ownBlock) : Box w' b t cs := by
  unfold Box at *
  rw [hg.block b (Array.getElem?_eq_some_iff.1 h).1 (fun e => by have := (World.ownsRow.lt ho b e.symm).1; omega)]; exact h
theorem Own.wide {w : World} {B B' : Nat} {v : Value} {l : LL Sl} (h : Own w B v l) (hB : B' ≤ B) : Own w B' v l := h.mono hB
theorem Own.form {w : World} {B : Nat} {v : Value} {l : LL Sl} (h : Own w B v l) : ∃ A n cap, v = .slice A n cap ∧ n = l.length := by
  obtain ⟨A, cap, e, _⟩ := h.view
  exact ⟨A, _, cap, e, rfl⟩
theorem Own.setBox {w : World} {B b : Nat} {v : Value} {l : LL Sl} {cs : Array Value} {ty : TypeId} (h : Own w B v l) (hb : Box w b ty cs) (ht : ty ≠ 38) (j : Nat) (u : Value) : Own (w.setCell ⟨b, j, none⟩ u) B v l := by
  refine ⟨h.1, ?_⟩
  rcases h.2 with h2 | ⟨g, cap, cur, hv, hbg, hg, r⟩
  · exact .inl h2
  · refine .inr ⟨g, cap, cur, hv, hbg, ?_, r⟩
    have hne : g ≠ b := fun e => by
      subst e
      rw [show w.heap[g]? = _ from hb] at hg
      injection hg with hg
      injection hg with _ h2 _
      exact ht h2
    rw [Below.heap_setCell _ _ _ _ hne]; exact hg
theorem Box.grownOther {w w' : World} {b B : Nat} {t : TypeId} {cs : Array Value} {v : Value} {l : LL Sl} (h : Box w b t cs) (ho : Own w B v l) (ht : t ≠ 38) (hg : w.grownBy w' v.ownBlock) : Box w' b t cs := by
  unfold Box at *
  rw [hg.block b (Array.getElem?_eq_some_iff.1 h).1 (fun e => by
    rcases ho.2 with ⟨h1, _⟩ | ⟨g, cap, cur, h1, _, h3, _⟩
    · rw [h1] at e; simp [Value.ownBlock] at e
    · rw [h1] at e
      simp only [Value.ownBlock, Option.some.injEq] at e
      subst e
      rw [h] at h3
      injection h3 with h3
      injection h3 with _ h2 _
      exact ht h2)]
  exact h
/-- the two cells of a table's box, written -/
theorem Box.set2 {w : World} {b : Nat} {x y : Value} (h : Box w b 29 #[x, y]) (a c : Value) : Box ((w.setCell ⟨b, 0, none⟩ a).setCell ⟨b, 1, none⟩ c) b 29 #[a, c] :=
  heap_setCell_same _ _ 1 _ _ c (heap_setCell_same _ _ 0 _ _ a h)
theorem Box.far2 {w : World} {g b : Nat} {t : TypeId} {cs : Array Value} (h : Box w b t cs) (hne : b ≠ g) (x y : Value) : Box ((w.setCell ⟨g, 0, none⟩ x).setCell ⟨g, 1, none⟩ y) b t cs := (h.far1 hne 0 x).far1 hne 1 y
theorem Box.put1 {w : World} {b : Nat} {t : TypeId} {x y : Value} (h : Box w b t #[x, y]) (v : Value) : Box (w.setCell ⟨b, 1, none⟩ v) b t #[x, v] := heap_setCell_same _ _ 1 _ _ v h
theorem below_set2 {w w0 : World} {B g : Nat} (h : Below B w0 w) (hg : B ≤ g) (a b : Value) : Below B w0 ((w.setCell ⟨g, 0, none⟩ a).setCell ⟨g, 1, none⟩ b) := (h.setCell hg _).setCell hg _

/-- these pairs lie there, in a block of pairs -/
def PR (w : World) (A : Option Addr) (l : LL Sl) : Prop := Ents w A l ∧ (l = [] ∨ ∃ a cur fz, A = some a ∧ w.heap[a.block]? = some (.cells cur 38 fz))
theorem PR.nil (w : World) (A : Option Addr) : PR w A [] := ⟨Ents.nil _ _, .inl rfl⟩
theorem PR.keep {w w' : World} {A : Option Addr} {l : LL Sl} (h : PR w A l) (hb : Below w.heap.size w w') : PR w' A l :=
  ⟨h.1.keep hb, h.2.imp id fun ⟨a, cur, fz, e, hg⟩ => ⟨a, cur, fz, e, by rw [hb.block a.block (Array.getElem?_eq_some_iff.1 hg).1]; exact hg⟩⟩
theorem PR.alloc {w : World} {A : Option Addr} {l : LL Sl} (h : PR w A l) (o : Obj) : PR (w.alloc o) A l := h.keep ((Below.refl _ _).alloc (Nat.le_refl _) _)
theorem PR.drewN {w : World} {A : Option Addr} {l : LL Sl} (h : PR w A l) (n : Nat) : PR (w.drewN n) A l := h.keep (below_drewN (Below.refl _ _) n)
theorem cell_same {w w' : World} {p : Addr} (hg : w'.heap[p.block]? = w.heap[p.block]?) : w'.cell? p = w.cell? p := by
  unfold World.cell?
  rw [hg]
theorem PR.same {w w' : World} {A : Option Addr} {l : LL Sl} (h : PR w A l) (hs : ∀ (b : Nat) (cur : Array Value) (fz : Nat × Nat), w.heap[b]? = some (.cells cur 38 fz) → w'.heap[b]? = some (.cells cur 38 fz)) : PR w' A l := by
  rcases h.2 with rfl | ⟨a, cur, fz, rfl, hg⟩
  · exact .nil _ _
  · have hg' := hs _ _ _ hg
    refine ⟨fun i hi => ?_, .inr ⟨a, cur, fz, rfl, hg'⟩⟩
    obtain ⟨a', e, c1, c2, c3⟩ := h.1 i hi
    injection e with e
    subst e
    refine ⟨a, rfl, ?_, ?_, ?_⟩
    · rw [cell_same (by rw [add_blk, hg, hg'])]; exact c1
    · rw [cell_same (by rw [add_blk, hg, hg'])]; exact c2
    · rw [cell_same (by rw [add_blk, hg, hg'])]; exact c3
theorem PR.setBox {w : World} {b : Nat} {cs : Array Value} {ty : TypeId} {A : Option Addr} {l : LL Sl} (h : PR w A l) (hb : Box w b ty cs) (ht : ty ≠ 38) (j : Nat) (u : Value) : PR (w.setCell ⟨b, j, none⟩ u) A l := h.same fun g cur fz hg => by
  have hne : g ≠ b := fun e => by
    subst e
    rw [show w.heap[g]? = _ from hb] at hg
    injection hg with hg
    injection hg with _ h2 _
    exact ht h2
  rw [Below.heap_setCell _ _ _ _ hne]; exact hg
theorem PR.set2 {w : World} {b : Nat} {x y : Value} {A : Option Addr} {l : LL Sl} (h : PR w A l) (hb : Box w b 29 #[x, y]) (a c : Value) : PR ((w.setCell ⟨b, 0, none⟩ a).setCell ⟨b, 1, none⟩ c) A l :=
  (h.setBox hb (by decide) 0 a).setBox (heap_setCell_same _ _ 0 _ _ a hb) (by decide) 1 c
theorem Own.pr {w : World} {B n cap : Nat} {A : Option Addr} {l : LL Sl} (h : Own w B (.slice A n cap) l) : PR w A l := by
  obtain ⟨A2, cap2, e, _, he⟩ := h.view
  injection e with e1 e2 e3
  subst e1
  refine ⟨he, ?_⟩
  rcases h.2 with ⟨_, h0⟩ | ⟨g, cap, cur, e, hb, hg, _⟩
  · exact .inl (List.eq_nil_of_length_eq_zero h0)
  · injection e with e1 e2 e3
    exact .inr ⟨_, _, _, e1, hg⟩

/-- the document's ledger as a value, and as a box -/
abbrev tv (A : Option Addr) (n cap last : Nat) : Value := .agg #[.slice A n cap, .int .i64 (last : Nat)]
abbrev tc (A : Option Addr) (n cap last : Nat) : Array Value := #[.slice A n cap, .int .i64 (last : Nat)]
abbrev tbox (A : Option Addr) (n cap last : Nat) : Obj := .cells #[.slice A n cap, .int .i64 (last : Nat)] 29
/-- a due as a value, and as a box -/
abbrev ev (d : Du Sl) : Value := .agg #[.int .i64 (d.1 : Nat), .int .i64 (d.2.1 : Nat), slv d.2.2]
abbrev ec (d : Du Sl) : Array Value := #[.int .i64 (d.1 : Nat), .int .i64 (d.2.1 : Nat), slv d.2.2]
abbrev ebox (d : Du Sl) : Obj := .cells #[.int .i64 (d.1 : Nat), .int .i64 (d.2.1 : Nat), slv d.2.2] 38
def oe (o : Option (Du Sl)) : Du Sl := o.getD (0, 0, none, 0, 0)
theorem t_size : (Try.prog.info? 29).map (·.size) = some 2 := by kernel_rfl
theorem d_size : (Try.prog.info? 38).map (·.size) = some 3 := by kernel_rfl
theorem results_two {P : Program} {fn : Func} {p q : Tmp} {ty : TypeId} (h : fn.results = #[.cell p ty, .tmp q]) (tmps : Array Value) (w : World) (g : Nat) (t : TypeId) (cs : Array Value) (fr : Nat × Nat) (d : TypeDesc) (x : Value)
    (hp : tmps.getD p undef = .pointer (some ⟨g, 0, none⟩)) (hq : tmps.getD q undef = x) (hg : w.heap[g]? = some (.cells cs t fr))
    (hu : P.underlying ty = some d) (hd : (match d with | .struct _ | .array _ _ => true | _ => false) = true) (hi : (P.info? ty).map (·.size) = some cs.size) :
    (results fn tmps).run P w = .ok (.tuple #[.agg cs, x]) w := by
  have hp' : tmps[p]?.getD undef = .pointer (some ⟨g, 0, none⟩) := by simpa using hp
  have hq' : tmps[q]?.getD undef = x := by simpa using hq
  simp [results, h, hp', hq', asAddr, run_loadVar_row w g t ty cs fr d hg hu hd hi]
theorem results_three {P : Program} {fn : Func} {p q r : Tmp} {ty : TypeId} (h : fn.results = #[.cell p ty, .tmp q, .tmp r]) (tmps : Array Value) (w : World) (g : Nat) (t : TypeId) (cs : Array Value) (fr : Nat × Nat) (d : TypeDesc) (x y : Value)
    (hp : tmps.getD p undef = .pointer (some ⟨g, 0, none⟩)) (hq : tmps.getD q undef = x) (hr : tmps.getD r undef = y) (hg : w.heap[g]? = some (.cells cs t fr))
    (hu : P.underlying ty = some d) (hd : (match d with | .struct _ | .array _ _ => true | _ => false) = true) (hi : (P.info? ty).map (·.size) = some cs.size) :
    (results fn tmps).run P w = .ok (.tuple #[.agg cs, x, y]) w := by
  have hp' : tmps[p]?.getD undef = .pointer (some ⟨g, 0, none⟩) := by simpa using hp
  have hq' : tmps[q]?.getD undef = x := by simpa using hq
  have hr' : tmps[r]?.getD undef = y := by simpa using hr
  simp [results, h, hp', hq', hr', asAddr, run_loadVar_row w g t ty cs fr d hg hu hd hi]
theorem results_2c {P : Program} {fn : Func} {p q r : Tmp} {ty ty2 : TypeId} (h : fn.results = #[.cell p ty, .cell q ty2, .tmp r]) (tmps : Array Value) (w : World) (g g2 : Nat) (t t2 : TypeId) (cs cs2 : Array Value) (fr fr2 : Nat × Nat) (d d2 : TypeDesc) (y : Value)
    (hp : tmps.getD p undef = .pointer (some ⟨g, 0, none⟩)) (hq : tmps.getD q undef = .pointer (some ⟨g2, 0, none⟩)) (hr : tmps.getD r undef = y) (hg : w.heap[g]? = some (.cells cs t fr)) (hg2 : w.heap[g2]? = some (.cells cs2 t2 fr2))
    (hu : P.underlying ty = some d) (hd : (match d with | .struct _ | .array _ _ => true | _ => false) = true) (hi : (P.info? ty).map (·.size) = some cs.size)
    (hu2 : P.underlying ty2 = some d2) (hd2 : (match d2 with | .struct _ | .array _ _ => true | _ => false) = true) (hi2 : (P.info? ty2).map (·.size) = some cs2.size) :
    (results fn tmps).run P w = .ok (.tuple #[.agg cs, .agg cs2, y]) w := by
  have hp' : tmps[p]?.getD undef = .pointer (some ⟨g, 0, none⟩) := by simpa using hp
  have hq' : tmps[q]?.getD undef = .pointer (some ⟨g2, 0, none⟩) := by simpa using hq
  have hr' : tmps[r]?.getD undef = y := by simpa using hr
  simp [results, h, hp', hq', hr', asAddr, run_loadVar_row w g t ty cs fr d hg hu hd hi, run_loadVar_row w g2 t2 ty2 cs2 fr2 d2 hg2 hu2 hd2 hi2]
theorem ret_t1 {fn : Func} {q : Tmp} {Q : Ending → World → Prop} {a : Go.Act} {w : World} {g : Nat} {x y : Value} {fr : Nat × Nat} (h : fn.results = #[.cell q 29]) (hp : a.tmps.getD q undef = .pointer (some ⟨g, 0, none⟩)) (hd : a.defers = []) (hg : w.heap[g]? = some (.cells #[x, y] 29 fr))
    (hQ : Q (.returned (.agg #[x, y])) w) : bodyPost Try.prog fn Q .ret a w :=
  bodyPost_ret (results_cell_row h _ _ g 29 _ fr _ hp hg Try.underlying29 rfl t_size) hd hQ
theorem ret_t2 {fn : Func} {q r : Tmp} {Q : Ending → World → Prop} {a : Go.Act} {w : World} {g : Nat} {x y b : Value} {fr : Nat × Nat} (h : fn.results = #[.cell q 29, .tmp r]) (hp : a.tmps.getD q undef = .pointer (some ⟨g, 0, none⟩)) (hr : a.tmps.getD r undef = b) (hd : a.defers = []) (hg : w.heap[g]? = some (.cells #[x, y] 29 fr))
    (hQ : Q (.returned (.tuple #[.agg #[x, y], b])) w) : bodyPost Try.prog fn Q .ret a w :=
  bodyPost_ret (results_two h _ _ g 29 _ fr _ _ hp hr hg Try.underlying29 rfl t_size) hd hQ
theorem ret_t3 {fn : Func} {q r s : Tmp} {Q : Ending → World → Prop} {a : Go.Act} {w : World} {g : Nat} {x y b c : Value} {fr : Nat × Nat} (h : fn.results = #[.cell q 29, .tmp r, .tmp s]) (hp : a.tmps.getD q undef = .pointer (some ⟨g, 0, none⟩)) (hr : a.tmps.getD r undef = b) (hs : a.tmps.getD s undef = c) (hd : a.defers = []) (hg : w.heap[g]? = some (.cells #[x, y] 29 fr))
    (hQ : Q (.returned (.tuple #[.agg #[x, y], b, c])) w) : bodyPost Try.prog fn Q .ret a w :=
  bodyPost_ret (results_three h _ _ g 29 _ fr _ _ _ hp hr hs hg Try.underlying29 rfl t_size) hd hQ

theorem ret_d2 {fn : Func} {q r : Tmp} {Q : Ending → World → Prop} {a : Go.Act} {w : World} {g : Nat} {x y z b : Value} {fr : Nat × Nat} (h : fn.results = #[.cell q 38, .tmp r]) (hp : a.tmps.getD q undef = .pointer (some ⟨g, 0, none⟩)) (hr : a.tmps.getD r undef = b) (hd : a.defers = []) (hg : w.heap[g]? = some (.cells #[x, y, z] 38 fr))
    (hQ : Q (.returned (.tuple #[.agg #[x, y, z], b])) w) : bodyPost Try.prog fn Q .ret a w :=
  bodyPost_ret (results_two h _ _ g 38 _ fr _ _ hp hr hg Try.underlying38 rfl d_size) hd hQ
theorem ret_td {fn : Func} {q r s : Tmp} {Q : Ending → World → Prop} {a : Go.Act} {w : World} {g g2 : Nat} {x y u v z c : Value} {fr fr2 : Nat × Nat} (h : fn.results = #[.cell q 29, .cell r 38, .tmp s]) (hp : a.tmps.getD q undef = .pointer (some ⟨g, 0, none⟩)) (hr : a.tmps.getD r undef = .pointer (some ⟨g2, 0, none⟩)) (hs : a.tmps.getD s undef = c) (hd : a.defers = []) (hg : w.heap[g]? = some (.cells #[x, y] 29 fr)) (hg2 : w.heap[g2]? = some (.cells #[u, v, z] 38 fr2))
    (hQ : Q (.returned (.tuple #[.agg #[x, y], .agg #[u, v, z], c])) w) : bodyPost Try.prog fn Q .ret a w :=
  bodyPost_ret (results_2c h _ _ g g2 29 38 _ _ fr fr2 _ _ _ hp hr hs hg hg2 Try.underlying29 rfl t_size Try.underlying38 rfl d_size) hd hQ
theorem Box.far3 {w : World} {g b : Nat} {t : TypeId} {cs : Array Value} (h : Box w b t cs) (hne : b ≠ g) (x y z : Value) : Box (((w.setCell ⟨g, 0, none⟩ x).setCell ⟨g, 1, none⟩ y).setCell ⟨g, 2, none⟩ z) b t cs := ((h.far1 hne 0 x).far1 hne 1 y).far1 hne 2 z
theorem Box.set3 {w : World} {b : Nat} {x y z : Value} (h : Box w b 38 #[x, y, z]) (a c d : Value) : Box (((w.setCell ⟨b, 0, none⟩ a).setCell ⟨b, 1, none⟩ c).setCell ⟨b, 2, none⟩ d) b 38 #[a, c, d] :=
  heap_setCell_same _ _ 2 _ _ d (heap_setCell_same _ _ 1 _ _ c (heap_setCell_same _ _ 0 _ _ a h))
theorem below_set3 {w w0 : World} {B g : Nat} (h : Below B w0 w) (hg : B ≤ g) (a b c : Value) : Below B w0 (((w.setCell ⟨g, 0, none⟩ a).setCell ⟨g, 1, none⟩ b).setCell ⟨g, 2, none⟩ c) := ((h.setCell hg _).setCell hg _).setCell hg _
end Pr
end Go.Proofs.Ytplinlgafgfepaa.Ld
