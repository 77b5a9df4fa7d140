/-
  A row of dues in memory as a list of numbers and slices, and back: for what is appended.
-/
import Derived.Test.YtplinlgafgfepaaLedDoc
namespace Go.Proofs.Ytplinlgafgfepaa.Ld
open Go.RowKit
open Pr (Sl slv Ents)

/-- these slices tell these dues -/
def Rep (S : Nat → Prop) (w : World) (r : LL Sl) (l : LL (List Lim)) : Prop :=
  r.length = l.length ∧ ∀ i (h : i < r.length) (h2 : i < l.length), r[i].1 = l[i].1 ∧ r[i].2.1 = l[i].2.1 ∧ r[i].2.2.2.1 = l[i].2.2.length ∧ Lims S w r[i].2.2.1 l[i].2.2
theorem Rep.nil (S : Nat → Prop) (w : World) : Rep S w [] [] := ⟨rfl, fun i h => absurd h (by simp)⟩
theorem Rep.keep {S : Nat → Prop} {w w' : World} {r : LL Sl} {l : LL (List Lim)} (h : Rep S w r l) (hb : Below w.heap.size w w') : Rep S w' r l :=
  ⟨h.1, fun i h1 h2 => by obtain ⟨a, b, c, d⟩ := h.2 i h1 h2; exact ⟨a, b, c, d.keep hb⟩⟩
theorem Rep.append {S : Nat → Prop} {w : World} {r1 r2 : LL Sl} {l1 l2 : LL (List Lim)} (h : Rep S w r1 l1) (k : Rep S w r2 l2) : Rep S w (r1 ++ r2) (l1 ++ l2) := by
  refine ⟨by rw [List.length_append, List.length_append, h.1, k.1], fun i h1 h2 => ?_⟩
  by_cases hi : i < r1.length
  · have hi2 : i < l1.length := by rw [← h.1]; exact hi
    rw [List.getElem_append_left hi, List.getElem_append_left hi2]
    exact h.2 i hi hi2
  · have hi2 : ¬ i < l1.length := by rw [← h.1]; exact hi
    rw [List.getElem_append_right (by omega), List.getElem_append_right (by omega)]
    have e : i - r1.length = i - l1.length := by rw [h.1]
    have h3 : i - l1.length < r2.length := by rw [List.length_append] at h1; have := h.1; omega
    have h4 : i - l1.length < l2.length := by rw [← k.1]; exact h3
    have := k.2 (i - l1.length) h3 h4
    simp only [e]
    exact this
theorem Dues.raw {S : Nat → Prop} {w : World} {A : Option Addr} {l : LL (List Lim)} (h : Dues S w A l) : ∃ r : LL Sl, Ents w A r ∧ Rep S w r l := by
  have key : ∀ i : Fin l.length, ∃ s : Sl, s.2.1 = l[i].2.2.length ∧ Lims S w s.1 l[i].2.2 ∧ ∃ a : Addr, A = some a ∧ w.cell? (a.add (i.1 * 3)) = some (.int .i64 (l[i].1 : Nat)) ∧ w.cell? ⟨(a.add (i.1 * 3)).block, (a.add (i.1 * 3)).off + 1, none⟩ = some (.int .i64 (l[i].2.1 : Nat)) ∧ w.cell? ⟨(a.add (i.1 * 3)).block, (a.add (i.1 * 3)).off + 2, none⟩ = some (slv s) := by
    intro i
    obtain ⟨a, e, _, c0, c1, A', cap, c2, hl⟩ := h i.1 i.2
    exact ⟨(A', l[i].2.2.length, cap), rfl, hl, a, e, c0, c1, c2⟩
  obtain ⟨f, hf⟩ := Classical.axiomOfChoice key
  refine ⟨List.ofFn fun i : Fin l.length => (l[i].1, l[i].2.1, f i), fun i hi => ?_, by simp, fun i h1 h2 => ?_⟩
  · have hi' : i < l.length := by simpa using hi
    obtain ⟨_, _, a, e, c0, c1, c2⟩ := hf ⟨i, hi'⟩
    refine ⟨a, e, ?_, ?_, ?_⟩
    · simpa using c0
    · simpa using c1
    · simpa using c2
  · obtain ⟨e1, e2, _⟩ := hf ⟨i, h2⟩
    refine ⟨by simp, by simp, ?_, ?_⟩
    · simpa using e1
    · simpa using e2
theorem Rep.dues {S : Nat → Prop} {w : World} {A : Option Addr} {r : LL Sl} {l : LL (List Lim)} (h : Rep S w r l) (hE : Ents w A r) : Dues (fun _ => True) w A l := fun i hi => by
  have hi' : i < r.length := by rw [h.1]; exact hi
  obtain ⟨a, e, c0, c1, c2⟩ := hE i hi'
  obtain ⟨e1, e2, e3, hl⟩ := h.2 i hi' hi
  have c3 : w.cell? ⟨(a.add (i * 3)).block, (a.add (i * 3)).off + 2, none⟩ = some (.slice r[i].2.2.1 l[i].2.2.length r[i].2.2.2.2) := by
    rw [c2]
    show some (Value.slice r[i].2.2.1 r[i].2.2.2.1 r[i].2.2.2.2) = _
    rw [e3]
  exact ⟨a, e, trivial, by rw [← e1]; exact c0, by rw [← e2]; exact c1, r[i].2.2.1, r[i].2.2.2.2, c3, hl.mono fun _ _ => trivial⟩
end Go.Proofs.Ytplinlgafgfepaa.Ld
