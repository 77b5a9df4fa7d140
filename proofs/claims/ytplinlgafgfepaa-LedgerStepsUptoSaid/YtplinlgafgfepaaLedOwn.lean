/-
  A row of limits of the call's own: appended, read, and written to.
-/
import Derived.Test.YtplinlgafgfepaaLedDoc
import Derived.Test.YtplinlgafgfepaaLedLc
namespace Go.Proofs.Ytplinlgafgfepaa.Ld
open Go.RowKit

/-- a row of limits that may be written: nothing, or a block of limits -/
def LRow (w : World) (A : Option Addr) (n : Nat) : Prop := n = 0 ∨ ∃ g cur, A = some ⟨g, 0, none⟩ ∧ w.heap[g]? = some (.cells cur 58 (0, 0)) ∧ n * 8 ≤ cur.size
theorem wpList_append_lims {w : World} {ops : Array Oper} {o : Oper} {a : Go.Act} {rest : List Oper} {Q : Exit → Go.Act → World → Prop} (hgd : o.guard = none) (s x : Operand)
    (ho : o.op = .call { callee := .builtin .append, args := #[s, x], argTypes := #[32, 32] })
    (hs : a.eval s = .slice none 0 0) (A : Option Addr) (cap : Nat) (m : List Lim) (hx : a.eval x = .slice A m.length cap) (hnil : A = none → cap = 0)
    {S : Nat → Prop} (hm : Lims S w A m) (hn : m.length ≤ 20000)
    (h : ∀ A' cap' w', (A' = none → cap' = 0) → Lims (fun b => w.heap.size ≤ b ∧ b < w'.heap.size) w' A' m → LRow w' A' m.length → Below w.heap.size w w' → wpList Try.prog ops Q rest (a.put o.dst (.slice A' m.length cap')) w') : wpList Try.prog ops Q (o :: rest) a w := by
  obtain ⟨i0, hi, hz0, hz1, hz2⟩ := lim_parts
  have hown : w.ownsRow w.heap.size 58 8 (.slice none 0 0) 0 [] := World.ownsRow_nil _ _ _ _
  cases A with
  | none =>
    obtain rfl := hnil rfl
    obtain rfl : m = [] := by
      rcases Nat.eq_zero_or_pos m.length with h0 | h0
      · exact List.eq_nil_of_length_eq_zero h0
      · obtain ⟨a, e, _⟩ := hm 0 h0
        cases e
    refine wpList_append_own_none hgd s x 32 ho w.heap.size 58 i0 8 Try.underlying32 hi _ 0 [] hs hown hx ?_
    exact h none 0 w (fun _ => rfl) (Lims.nil _ _ _) (.inl rfl) (Below.refl _ _)
  | some ad =>
    refine wpList_append_own w hgd s x 32 ho w.heap.size 58 i0 _ 8 72 Try.underlying32 hi hz0 hz1 hz2 rfl (by decide) _ 0 [] hs hown ad m.length cap (lc m) hx (lc_length m) hm.cells (lc_one _) (by unfold maxLen; omega) (by omega) (Nat.le_refl _) (fun v' w' h2 h3 _ => ?_)
    have hb : Below w.heap.size w w' := (Below.refl _ _).grown h3 (Nat.le_refl _) (by simp [Value.ownBlock])
    have h2' : w'.ownsRow w.heap.size 58 8 v' m.length (lc m) := by simpa using h2
    have hc := h2'
    obtain ⟨hl, hr⟩ := h2'
    rcases hr with ⟨rfl, h0⟩ | ⟨g, cp, cur, rfl, hB, hg, hnc, hm1, hs1, ht1⟩
    · have hm0 : m = [] := List.eq_nil_of_length_eq_zero h0
      subst hm0
      exact h none 0 w' (fun _ => rfl) (Lims.nil _ _ _) (.inl rfl) hb
    · refine h _ _ w' (fun e => by cases e) (Lims.of_cells ⟨hB, (Array.getElem?_eq_some_iff.1 hg).1⟩ fun j v hv => World.ownsRow.cells hc (g := g) rfl j v hv) (.inr ⟨g, cur, rfl, hg, ?_⟩) hb
      rw [hs1]
      exact Nat.mul_le_mul_right _ hnc
end Go.Proofs.Ytplinlgafgfepaa.Ld
