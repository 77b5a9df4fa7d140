/-
  Plain mathematics for HashAll: how many stand in the first rows; each text stands in the row of its shard.
-/
import Derived.Test.YtjehmdhcccmihaaKPoolMath
namespace Go.Proofs.Ytjehmdhcccmihaa
namespace Pool
variable {α : Type}
def sumN (n : Nat) (g : Nat → Nat) : Nat := ((List.range n).map g).sum
theorem sumN_zero (g : Nat → Nat) : sumN 0 g = 0 := rfl
theorem sumN_succ (n : Nat) (g : Nat → Nat) : sumN (n + 1) g = sumN n g + g n := by simp [sumN, List.range_succ]
theorem sumN_add (n : Nat) (g h : Nat → Nat) : (sumN n fun i => g i + h i) = sumN n g + sumN n h := by
  induction n with
  | zero => rfl
  | succ n ih => rw [sumN_succ, sumN_succ, sumN_succ, ih]; omega
theorem sumN_one (n c : Nat) : (sumN n fun i => if c = i then 1 else 0) = if c < n then 1 else 0 := by
  induction n with
  | zero => rfl
  | succ n ih =>
    rw [sumN_succ, ih]
    by_cases h1 : c < n
    · rw [if_pos h1, if_neg (by omega), if_pos (by omega)]
    · by_cases h2 : c = n
      · rw [if_neg h1, if_pos h2, if_pos (by omega)]
      · rw [if_neg h1, if_neg h2, if_neg (by omega)]
theorem sumN_nought (n : Nat) : (sumN n fun _ => 0) = 0 := by
  induction n with
  | zero => rfl
  | succ n ih => rw [sumN_succ, ih]
theorem sumN_congr (n : Nat) {g h : Nat → Nat} (e : ∀ i, g i = h i) : sumN n g = sumN n h := by
  have : g = h := funext e
  rw [this]
/-- None is lost, or doubled. -/
theorem many_all {n : Nat} {f : α → Nat} : ∀ {ps : List α}, (∀ p ∈ ps, f p < n) → (sumN n fun i => (ps.filter fun p => f p = i).length) = ps.length
  | [], _ => by simpa using sumN_nought n
  | p :: ps, h => by
    have e : ∀ i, ((p :: ps).filter fun q => f q = i).length = (if f p = i then 1 else 0) + (ps.filter fun q => f q = i).length := fun i => by
      by_cases hp : f p = i
      · simp [hp]; omega
      · simp [hp]
    rw [sumN_congr n e, sumN_add, sumN_one, if_pos (h p (List.mem_cons_self ..)), many_all fun q hq => h q (List.mem_cons_of_mem _ hq), List.length_cons]
    omega
end Pool
end Go.Proofs.Ytjehmdhcccmihaa
