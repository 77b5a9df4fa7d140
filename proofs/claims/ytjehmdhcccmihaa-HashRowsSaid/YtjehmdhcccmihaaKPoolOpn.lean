/-
  A slice of texts among the arguments, opened; what its bulk and its weights give.
-/
import Derived.Test.YtjehmdhcccmihaaKHashKey
import Derived.Test.YtjehmdhcccmihaaRows
import Derived.ProofKit
import Derived.OpenShut
import Derived.ShutString
import Derived.JoinedCond
import Derived.Carry
import Derived.Deep.Strs
import Derived.SizedLaws
namespace Go.Proofs.Ytjehmdhcccmihaa.Hs
open Go.ChangeShapes Go.WideShapes Go.ChangeAt Go.RowKit Go.Deep

theorem knob : ownKnob Try.prog.godebug = none := by kernel_rfl
theorem laidOut : laidOutB Try.prog = true := by kernel_rfl
theorem cells_str : Try.prog.cellsOf 9 = 1 := by kernel_rfl

theorem bulk_texts {H : Type} (Sx : Nat → ByteArray) (l : List Nat) : Rows.uptoBulkAll (l.map fun i => DataW.lit (H := H) (.string (Sx i).data.toList)) = long (bys (l.map Sx)) := by
  induction l with
  | nil => simp [Rows.uptoBulkAll, bys, long]
  | cons i l ih =>
    have e : long (bys ((i :: l).map Sx)) = 1 + (Sx i).data.toList.length + long (bys (l.map Sx)) := by simp only [long, bys, List.map_cons, List.sum_cons]
    rw [e, List.map_cons, Rows.uptoBulkAll, ih, Rows.uptoBulk]
    omega

theorem weights_texts {H : Type} (P : Program) (e : TypeId) (Sx : Nat → ByteArray) (l : List Nat) : ∀ i ∈ l, (Sx i).size ∈ DataW.weightsAll P e (l.map fun i => DataW.lit (H := H) (.string (Sx i).data.toList)) := by
  induction l with
  | nil => intro i hi; cases hi
  | cons j l ih =>
    intro i hi
    rw [List.map_cons, DataW.weightsAll]
    rcases List.mem_cons.1 hi with rfl | hi
    · refine List.mem_append_left _ ?_
      have hss : (Sx i).data.toList.length = (Sx i).size := by rw [Array.length_toList]; rfl
      simp [DataW.weights, hss]
    · exact List.mem_append_right _ (ih i hi)
theorem slice_low {W : World} {base : Nat} {A : Option Addr} {len cap : Nat} (h : Value.okWide Try.prog W .any base 22 (.slice A len cap)) : ∀ a, A = some a → a.block < W.heap.size := by
  rintro a rfl
  simp only [Value.okWide, Try.underlying22, Cell.okWide, Cell.ok] at h
  obtain ⟨_, _, _, _, row, cells, hs, _⟩ := h
  rcases Nat.lt_or_ge a.block W.heap.size with h1 | h1
  · exact h1
  · simp [World.shape?, Array.getElem?_eq_none h1] at hs

theorem open_texts {H : Type} {enc : TypeId × Value → H} {W : World} {a0 : Option Addr} {len cap : Nat} {d : DataW H} {p : List MemPlace}
    (h : DataW.Trod enc Try.prog W 0 (fun _ => true) true 22 (.slice a0 len cap) d p) :
    ∃ ps : List ByteArray, ps.length = len ∧ Texts W a0 ps ∧ (∀ q ∈ ps, q.size ≤ maxLen) ∧ (a0 = none → len = 0 ∧ cap = 0) ∧ len ≤ maxLen ∧ long (bys ps) ≤ Rows.uptoBulk d ∧ (∀ B, (∀ n ∈ d.weights Try.prog 22, n ≤ B) → ∀ q ∈ ps, q.size ≤ B) := by
  obtain ⟨fuel, hf⟩ := h
  rcases open_strs Try.underlying22 Try.underlying9 cells_str hf with ⟨hcs, hx⟩ | ⟨a, len', cap', m, Sx, hcs, _, hl, hm, hmm, hx, hcell⟩
  · simp [Value.cells] at hcs
    obtain ⟨rfl, rfl, rfl⟩ := hcs
    exact ⟨[], rfl, Texts.nil _ _, by simp, fun _ => ⟨rfl, rfl⟩, Nat.zero_le _, by simp [bys, long], by simp⟩
  · simp [Value.cells] at hcs
    obtain ⟨rfl, rfl, rfl⟩ := hcs
    simp only [Prod.mk.injEq] at hx
    obtain ⟨rfl, rfl⟩ := hx
    have hlm : len ≤ m := by rw [hmm]; split <;> omega
    refine ⟨(List.range len).map Sx, by simp, fun i hi => ⟨a, rfl, ?_⟩, ?_, fun h => (by cases h), by omega, ?_, ?_⟩
    · have hi' : i < len := by simpa using hi
      rw [(hcell i (by omega)).1]
      simp
    · intro q hq
      obtain ⟨i, hi, rfl⟩ := List.mem_map.1 hq
      exact (hcell i (by have := List.mem_range.1 hi; omega)).2
    · rw [Rows.uptoBulk, bulk_texts Sx (List.range len)]
      omega
    · intro B hB q hq
      obtain ⟨i, hi, rfl⟩ := List.mem_map.1 hq
      refine hB _ ?_
      rw [DataW.weights, Try.underlying22]
      exact List.mem_cons_of_mem _ (List.mem_append_left _ (weights_texts Try.prog _ Sx _ i hi))

end Go.Proofs.Ytjehmdhcccmihaa.Hs
