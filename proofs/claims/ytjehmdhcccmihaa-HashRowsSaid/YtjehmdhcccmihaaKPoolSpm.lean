/-
  Spread's loop: what lies in memory at each round, and how a round keeps it.
-/
import Derived.Test.YtjehmdhcccmihaaKPoolRow
import Derived.Test.YtjehmdhcccmihaaKPoolMath
import Derived.Laws.OwnMore
namespace Go.Proofs.Ytjehmdhcccmihaa.Pool
open Go.RowKit

/-- at round j: the outer row, and each row in a block of its own -/
structure SpL (w wr : World) (g N : Nat) (f : ByteArray → Nat) (ps : List ByteArray) (j : Nat) (L : List Cm) : Prop where
  row : RRow wr g (.slice (some ⟨g, 0, none⟩) N N) L
  len : L.length = N
  eq : L.map (·.1) = spreadR N f (ps.take j)
  rows : ∀ x ∈ L, SRow wr w.heap.size (Cm.v x) x.1
  apart : ∀ i k (hi : i < L.length) (hk : k < L.length) b, i ≠ k → (Cm.v L[i]).ownBlock = some b → (Cm.v L[k]).ownBlock ≠ some b
  only : Only [g] w wr
theorem SpL.below {w wr w1 : World} {g N j : Nat} {f : ByteArray → Nat} {ps : List ByteArray} {L : List Cm} (h : SpL w wr g N f ps j L) (hb : Below wr.heap.size wr w1) : SpL w w1 g N f ps j L :=
  ⟨h.row.below hb, h.len, h.eq, fun x hx => (h.rows x hx).below hb, h.apart, h.only.trans (Only.of_below [] hb) (fun x hx => by cases hx)⟩
theorem own_lt {w : World} {B : Nat} {v : Value} {l : List ByteArray} (h : SRow w B v l) {b : Nat} (hb : v.ownBlock = some b) : b < w.heap.size ∧ B ≤ b := (World.ownsRow.lt h b hb).symm
/-- one round -/
theorem SpL.step {w w1 w2 : World} {g N j k : Nat} {f : ByteArray → Nat} {ps : List ByteArray} {L : List Cm} {p : ByteArray} (h : SpL w w1 g N f ps j L) (hj : j < ps.length) (hp : ps[j] = p) (hf : f p = k) (hk : k < L.length)
    {g' cap' : Nat} (hr : SRow w2 w.heap.size (.slice (some ⟨g', 0, none⟩) (L[k].1 ++ [p]).length cap') (L[k].1 ++ [p])) (hg : w1.grownBy w2 (Cm.v L[k]).ownBlock) (ho : (Cm.v L[k]).ownBlock = some g' ∨ g' = w1.heap.size) :
    SpL w (w2.setCell ⟨g, k, none⟩ (.slice (some ⟨g', 0, none⟩) (L[k].1 ++ [p]).length cap')) g N f ps (j + 1) (L.set k (L[k].1 ++ [p], some ⟨g', 0, none⟩, cap')) := by
  have hkN : k < N := by have := h.len; omega
  have hrow2 : RRow w2 g (.slice (some ⟨g, 0, none⟩) N N) L := World.ownsRow.kept h.row hg (own_ne h.row (h.rows _ (List.getElem_mem hk)) (by decide))
  have hlen := h.len
  have hrow2' : w2.ownsRow g 22 1 (.slice (some ⟨g, 0, none⟩) N N) N (L.map Cm.v) := by have := hrow2; unfold RRow at this; rwa [hlen] at this
  obtain ⟨hst, hsg⟩ := World.ownsRow.stored hrow2' k (.slice (some ⟨g', 0, none⟩) (L[k].1 ++ [p]).length cap')
  have hgr : ∀ {v : Value} {l : List ByteArray}, SRow w2 w.heap.size v l → SRow (w2.setCell ⟨g, k, none⟩ (.slice (some ⟨g', 0, none⟩) (L[k].1 ++ [p]).length cap')) w.heap.size v l := fun hx => World.ownsRow.kept hx hsg (by
    rcases own_ne hx hrow2 (by decide) with e | e
    · exact .inl e
    · exact .inr e)
  have others : ∀ i (hi : i < L.length), i ≠ k → SRow w2 w.heap.size (Cm.v L[i]) L[i].1 := fun i hi hne => World.ownsRow.kept (h.rows _ (List.getElem_mem hi)) hg (by
    cases e : (Cm.v L[i]).ownBlock with
    | none => exact .inl rfl
    | some b => exact .inr (fun e2 => h.apart i k hi hk b hne e e2.symm))
  refine ⟨?_, by simpa using h.len, ?_, ?_, ?_, ?_⟩
  · unfold RRow
    rw [List.length_set, hlen, List.map_set]
    exact hst
  · rw [List.map_set, h.eq, List.take_succ_eq_append_getElem hj, hp, spreadR_snoc (by rw [hf]; exact hkN), hf]
    have h9 : L[k].1 = (ps.take j).filter fun q => f q = k := by
      have h8 := spreadR_get (n := N) (f := f) (ps := ps.take j) hkN
      rw [← h.eq, List.getElem?_map, List.getElem?_eq_getElem hk] at h8
      simpa using h8
    rw [← h9]
  · intro x hx
    obtain ⟨i, hi, rfl⟩ := List.mem_iff_getElem.1 hx
    rw [List.length_set] at hi
    by_cases e : k = i
    · subst e
      rw [List.getElem_set_self]
      exact hgr hr
    · rw [List.getElem_set_ne e]
      exact hgr (others i hi (Ne.symm e))
  · intro i i2 hi hi2 b hne e1 e2
    rw [List.length_set] at hi hi2
    have new : ∀ i (hi : i < L.length), i ≠ k → (Cm.v L[i]).ownBlock ≠ some g' := fun i hi hne e => by
      rcases ho with ho | ho
      · exact h.apart i k hi hk g' hne e ho
      · have := (own_lt (h.rows _ (List.getElem_mem hi)) e).1
        omega
    by_cases c1 : k = i
    · subst c1
      rw [List.getElem_set_self] at e1
      rw [List.getElem_set_ne hne] at e2
      have : b = g' := by simpa [Cm.v, Value.ownBlock] using e1.symm
      subst this
      exact new i2 (by simpa using hi2) (Ne.symm hne) e2
    · rw [List.getElem_set_ne c1] at e1
      by_cases c2 : k = i2
      · subst c2
        rw [List.getElem_set_self] at e2
        have : b = g' := by simpa [Cm.v, Value.ownBlock] using e2.symm
        subst this
        exact new i (by simpa using hi) hne e1
      · rw [List.getElem_set_ne c2] at e2
        exact h.apart i i2 hi hi2 b hne e1 e2
  · refine (h.only.grown hg (fun b e => .inr (own_lt (h.rows _ (List.getElem_mem hk)) e).2)).set (by simp) _
end Go.Proofs.Ytjehmdhcccmihaa.Pool
