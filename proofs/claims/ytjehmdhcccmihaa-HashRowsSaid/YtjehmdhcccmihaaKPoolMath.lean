/-
  What Spread comes to, as plain lists: for each shard the texts that go to it, in their order.
-/
import Derived.Calls
namespace Go.Proofs.Ytjehmdhcccmihaa
namespace Pool
variable {α : Type}
def spreadR (n : Nat) (f : α → Nat) (ps : List α) : List (List α) := (List.range n).map fun i => ps.filter fun p => f p = i
theorem spreadR_length (n : Nat) (f : α → Nat) (ps : List α) : (spreadR n f ps).length = n := by simp [spreadR]
theorem spreadR_get {n : Nat} {f : α → Nat} {ps : List α} {i : Nat} (hi : i < n) : (spreadR n f ps)[i]? = some (ps.filter fun p => f p = i) := by
  simp [spreadR, hi]
theorem spreadR_nil (n : Nat) (f : α → Nat) : spreadR n f [] = List.replicate n [] := by
  unfold spreadR
  simp [List.map_const']
/-- one text more: it goes behind its shard's -/
theorem spreadR_snoc {n : Nat} {f : α → Nat} {ps : List α} {p : α} (hp : f p < n) : spreadR n f (ps ++ [p]) = (spreadR n f ps).set (f p) ((ps.filter fun q => f q = f p) ++ [p]) := by
  refine List.ext_getElem? fun i => ?_
  rw [List.getElem?_set, spreadR_length]
  by_cases hi : i < n
  · rw [spreadR_get hi, spreadR_get hi]
    by_cases e : f p = i
    · subst e
      simp [List.filter_append, hp]
    · rw [if_neg e]
      simp [List.filter_append, e]
  · have h1 : (spreadR n f (ps ++ [p]))[i]? = none := List.getElem?_eq_none (by rw [spreadR_length]; omega)
    have h2 : (spreadR n f ps)[i]? = none := List.getElem?_eq_none (by rw [spreadR_length]; omega)
    rw [h1, h2]
    split
    · rename_i h; omega
    · rfl
end Pool
end Go.Proofs.Ytjehmdhcccmihaa
