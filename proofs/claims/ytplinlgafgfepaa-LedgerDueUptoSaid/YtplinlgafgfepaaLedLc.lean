/-
  Limits as cells, one behind the other.
-/
import Derived.Test.YtplinlgafgfepaaLedVC
namespace Go.Proofs.Ytplinlgafgfepaa.Ld
open Go.RowKit

def lc : List Lim → List Value
  | [] => []
  | x :: l => lcells x ++ lc l
theorem lcells_length (x : Lim) : (lcells x).length = 8 := rfl
theorem lc_length (l : List Lim) : (lc l).length = l.length * 8 := by
  induction l with
  | nil => rfl
  | cons x l ih => simp only [lc, List.length_append, ih, lcells_length, List.length_cons]; omega
theorem lc_one (l : List Lim) : ∀ u ∈ lc l, u.oneCell' = true := by
  induction l with
  | nil => simp [lc]
  | cons x l ih =>
    intro u hu
    rcases List.mem_append.1 hu with hu | hu
    · simp [lcells] at hu
      rcases hu with rfl | rfl | rfl | rfl | rfl | rfl | rfl | rfl <;> rfl
    · exact ih u hu
theorem lc_at (l : List Lim) (i : Nat) (h : i < l.length) (j : Nat) (hj : j < 8) : (lc l)[i * 8 + j]? = (lcells l[i])[j]? := by
  induction l generalizing i with
  | nil => simp at h
  | cons x l ih =>
    cases i with
    | zero => rw [lc, List.getElem?_append_left (by rw [lcells_length]; omega)]; simp
    | succ i =>
      rw [lc, List.getElem?_append_right (by rw [lcells_length]; omega), lcells_length, show (i + 1) * 8 + j - 8 = i * 8 + j by omega]
      simpa using ih i (by simpa using h)
theorem lcells_lt {x : Lim} {j : Nat} {v : Value} (h : (lcells x)[j]? = some v) : j < 8 := by
  have := (List.getElem?_eq_some_iff.1 h).1
  rwa [lcells_length] at this
/-- cell by cell -/
theorem Lims.cells {S : Nat → Prop} {w : World} {a : Addr} {l : List Lim} (h : Lims S w (some a) l) : ∀ j v, (lc l)[j]? = some v → w.cell? (a.add j) = some v := by
  intro j v hv
  have hj : j < l.length * 8 := by
    have := (List.getElem?_eq_some_iff.1 hv).1
    rwa [lc_length] at this
  obtain ⟨a', e, _, hc⟩ := h (j / 8) (by omega)
  injection e with e
  subst e
  have e2 : j / 8 * 8 + j % 8 = j := by omega
  have h2 := lc_at l (j / 8) (by omega) (j % 8) (by omega)
  rw [e2] at h2
  have := hc (j % 8) v (by rw [← h2]; exact hv)
  rwa [e2] at this
theorem Lims.of_cells {S : Nat → Prop} {w : World} {a : Addr} {l : List Lim} (hs : S a.block) (h : ∀ j v, (lc l)[j]? = some v → w.cell? (a.add j) = some v) : Lims S w (some a) l := fun i hi =>
  ⟨a, rfl, hs, fun j v hv => h _ _ (by rw [lc_at l i hi j (lcells_lt hv)]; exact hv)⟩
theorem lim_info : (Try.prog.info? 58).map (fun i => (i.zero, i.size, i.bytes)) = some (some (.agg #[.string ⟨#[]⟩, .int .i64 0, .int .i64 0, .int .i64 0, .int .i64 0, .int .i64 0, .bool false, .int .i64 0]), 8, 72) := by kernel_rfl
theorem lim_parts : ∃ i, Try.prog.info? 58 = some i ∧ i.zero = some (.agg #[.string ⟨#[]⟩, .int .i64 0, .int .i64 0, .int .i64 0, .int .i64 0, .int .i64 0, .bool false, .int .i64 0]) ∧ i.size = 8 ∧ i.bytes = 72 := by
  obtain ⟨i, h, a, b, c⟩ := info_parts lim_info
  exact ⟨i, h, a, b, c⟩
end Go.Proofs.Ytplinlgafgfepaa.Ld
