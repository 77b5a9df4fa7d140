/-
  Rows of numbers of the call's own, beside the boxes of a policy and of a state.
-/
import Derived.Test.YtljaemiggeeghaaWinEnvM
import Derived.Maps.AppendAt
namespace Go.Proofs.Ytljaemiggeeghaa
open Go.RowKit
namespace Wn

/-- a row of numbers of the call's own, from block B on -/
def Ints (w : World) (B : Nat) (v : Value) (l : List Int) : Prop := w.ownsRow B 3 1 v l.length (l.map (Value.int .i64))
theorem Ints.nil (w : World) (B : Nat) : Ints w B (.slice none 0 0) [] := World.ownsRow_nil _ _ _ _
theorem Ints.keep {w w' : World} {B : Nat} {v : Value} {l : List Int} (h : Ints w B v l) (hb : Below w.heap.size w w') : Ints w' B v l := by
  refine ⟨h.1, ?_⟩
  rcases h.2 with h2 | ⟨g, cap, cur, hv, hbg, hg, r⟩
  · exact .inl h2
  · exact .inr ⟨g, cap, cur, hv, hbg, by rw [hb.block g (Array.getElem?_eq_some_iff.1 hg).1]; exact hg, r⟩
theorem Ints.alloc {w : World} {B : Nat} {v : Value} {l : List Int} (h : Ints w B v l) (o : Obj) : Ints (w.alloc o) B v l := h.keep ((Below.refl _ _).alloc (Nat.le_refl _) _)
/-- a cell of another kind of block is written -/
theorem Ints.setOther {w : World} {B b : Nat} {v : Value} {l : List Int} {c : Array Value} {t : TypeId} {fr : Nat × Nat} (h : Ints w B v l) (hb : w.heap[b]? = some (.cells c t fr)) (ht : t ≠ 3) (j : Nat) (u : Value) : Ints (w.setCell ⟨b, j, none⟩ u) B v l := by
  refine ⟨h.1, ?_⟩
  rcases h.2 with h2 | ⟨g, cap, cur, hv, hbg, hg, r⟩
  · exact .inl h2
  · refine .inr ⟨g, cap, cur, hv, hbg, ?_, r⟩
    have hne : g ≠ b := fun e => by
      subst e
      rw [hg] at hb
      injection hb with hb
      injection hb with _ h2 _
      exact ht h2.symm
    rw [Below.heap_setCell _ _ _ _ hne]; exact hg
theorem Ints.far4 {w : World} {B b : Nat} {v : Value} {l : List Int} {x y z u : Value} (h : Ints w B v l) (hb : Box w b 32 #[x, y, z, u]) (a c d f : Value) : Ints ((((w.setCell ⟨b, 0, none⟩ a).setCell ⟨b, 1, none⟩ c).setCell ⟨b, 2, none⟩ d).setCell ⟨b, 3, none⟩ f) B v l := by
  have h1 := heap_setCell_same _ _ 0 _ _ a hb
  have h2 := heap_setCell_same _ _ 1 _ _ c h1
  have h3 := heap_setCell_same _ _ 2 _ _ d h2
  exact (((h.setOther hb (by decide) 0 a).setOther h1 (by decide) 1 c).setOther h2 (by decide) 2 d).setOther h3 (by decide) 3 f
theorem Ints.grownOther {w w' : World} {B : Nat} {v u : Value} {l : List Int} (h : Ints w B v l) (hg : w.grownBy w' u.ownBlock) (hne : v.ownBlock = none ∨ v.ownBlock ≠ u.ownBlock) : Ints w' B v l := World.ownsRow.kept h hg hne
theorem Box.grown {w w' : World} {b B : Nat} {t : TypeId} {cs : Array Value} {v : Value} {l : List Int} (h : Box w b t cs) (hi : Ints w B v l) (ht : t ≠ 3) (hg : w.grownBy w' v.ownBlock) : Box w' b t cs := by
  unfold Box at *
  rw [hg.block b (Array.getElem?_eq_some_iff.1 h).1 ?_]; exact h
  intro e
  rcases hi.2 with ⟨rfl, _⟩ | ⟨g, cap, cur, rfl, _, hgg, _⟩
  · simp [Value.ownBlock] at e
  · simp only [Value.ownBlock, Option.some.injEq] at e
    subst e
    rw [hgg] at h
    injection h with h
    injection h with _ h2 _
    exact ht h2.symm
theorem Sl.grown {w w' : World} {B B' cap : Nat} {A : Option Addr} {k : List (Int × Int)} {v : Value} {l : List Int} (h : Sl w B A cap k) (hi : Ints w B' v l) (hg : w.grownBy w' v.ownBlock) : Sl w' B A cap k := by
  refine World.ownsRow.kept h hg ?_
  rcases h.2 with ⟨e, _⟩ | ⟨g, c, cur, e, _, hgg, _⟩
  · rw [e]; exact .inl rfl
  · right
    rw [e]
    intro he
    rcases hi.2 with ⟨e2, _⟩ | ⟨g2, c2, cur2, e2, _, hg2, _⟩
    · rw [e2] at he; simp [Value.ownBlock] at he
    · rw [e2] at he
      simp only [Value.ownBlock, Option.some.injEq] at he
      subst he
      rw [hgg] at hg2
      injection hg2 with h
      injection h with _ h2 _
      exact absurd h2 (by decide)
theorem int_parts : ∃ i, Try.prog.info? 3 = some i ∧ i.zero = some (.int .i64 0) ∧ i.size = 1 ∧ i.bytes = 8 := by
  have h : (Try.prog.info? 3).map (fun i => (i.zero, i.size, i.bytes)) = some (some (.int .i64 0), 1, 8) := by kernel_rfl
  obtain ⟨i, h, a, b, c⟩ := info_parts h
  exact ⟨i, h, a, b, c⟩
theorem wpList_append_int {w : World} {ops : Array Oper} {rest : List Oper} {o : Oper} {a : Act} {Q : Exit → Act → World → Prop} (hgd : o.guard = none) (s x : Operand)
    (ho : o.op = .call { callee := .builtin .append, args := #[s, x], argTypes := #[52, 52] })
    (B : Nat) (v : Value) (l : List Int) (hs : a.eval s = v) (hown : Ints w B v l) (g : Nat) (n : Int) (hx : a.eval x = .slice (some ⟨g, 0, none⟩) 1 1)
    (hg : w.heap[g]? = some (.cells #[.int .i64 n] 3 (0, 0))) (hn : l.length ≤ 1000) (hB : B ≤ w.heap.size)
    (h : ∀ v' w', Ints w' B v' (l ++ [n]) → w.grownBy w' v.ownBlock → (v'.ownBlock = v.ownBlock ∨ v'.ownBlock = some w.heap.size) → wpList Try.prog ops Q rest (a.put o.dst v') w') : wpList Try.prog ops Q (o :: rest) a w := by
  obtain ⟨i0, hi, hz0, hz1, hz2⟩ := int_parts
  refine wpList_append_own_at w hgd s x 52 ho B 3 i0 _ 1 8 Try.underlying52 hi hz0 hz1 hz2 rfl (by decide) v l.length (l.map (Value.int .i64)) hs hown ⟨g, 0, none⟩ 1 1 [.int .i64 n] hx rfl ?_ ?_ (by unfold maxLen; omega) (by omega) hB (fun v' w' h2 h3 _ h5 => h v' w' ?_ h3 h5)
  · intro j u hj
    have : ((⟨g, 0, none⟩ : Addr).add j) = ⟨g, j, none⟩ := by unfold Addr.add; split <;> simp_all
    rw [this, cell_of_row _ _ _ _ _ _ hg]
    simpa using hj
  · intro u hu; simp at hu; subst hu; rfl
  · unfold Ints
    rw [List.length_append, List.map_append]
    exact h2

theorem Ints.view {w : World} {B : Nat} {v : Value} {l : List Int} (h : Ints w B v l) : ∃ A cap, v = .slice A l.length cap ∧ ∀ i (hi : i < l.length), ∃ a : Addr, A = some a ∧ w.cell? (a.add i) = some (.int .i64 l[i]) := by
  rcases h.2 with ⟨rfl, h0⟩ | ⟨g, cap, cur, rfl, _⟩
  · obtain rfl : l = [] := List.eq_nil_of_length_eq_zero h0
    exact ⟨none, 0, rfl, fun i hi => absurd hi (by simp)⟩
  · refine ⟨some ⟨g, 0, none⟩, cap, rfl, fun i hi => ⟨_, rfl, ?_⟩⟩
    exact World.ownsRow.cells h (g := g) rfl i _ (by simp [hi])

end Wn
end Go.Proofs.Ytljaemiggeeghaa
