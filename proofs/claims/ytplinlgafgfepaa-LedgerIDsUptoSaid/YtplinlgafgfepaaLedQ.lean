/-
  One list of dues, each with its limits and with the slice that tells them: what the program's ledger and the document's own have in common.
-/
import Derived.Test.YtplinlgafgfepaaLedRfF
namespace Go.Proofs.Ytplinlgafgfepaa.Ld
open Go.RowKit
open Pr

/-- limits, and the slice that tells them -/
abbrev Pa := List Lim × Sl
abbrev pf (p : Pa) : List Lim := p.1
abbrev ps (p : Pa) : Sl := p.2

theorem stL_map {α β : Type} {f : α → β} {L : LL α} {last : Nat} {k n : Int} {x : α} : stL (mapP f L) last k n (f x) = mapP f (stL L last k n x) := by
  unfold stL
  split
  · exact mapP_add
  · split
    · exact mapP_rem
    · exact mapP_left
theorem stN_map {α β : Type} {f : α → β} {L : LL α} {last : Nat} {k : Int} : stN (mapP f L) last k = stN L last k := by unfold stN; rw [mapP_addN]
theorem stI_map {α β : Type} {f : α → β} {L : LL α} {last : Nat} {k n : Int} : stI (mapP f L) last k n = stI L last k n := by
  unfold stI
  rw [mapP_addI, mapP_addE, mapP_getO, Option.isSome_map]
theorem stR_map {α β : Type} {f : α → β} {L : LL α} {k n : Int} : stR (mapP f L) k n = mapP f (stR L k n) := by
  unfold stR
  split
  · rfl
  · split
    · rw [mapP_getO]
      cases getO L n <;> rfl
    · exact mapP_due
theorem mem_add {α : Type} {L : LL α} {last : Nat} {till : Int} {x : α} {d : Du α} (h : d ∈ add L last till x) : d ∈ L ∨ d = (last + 1, clip till, x) := by
  unfold add at h
  split at h
  · exact .inl h
  · rcases List.mem_append.1 h with h | h
    · exact .inl h
    · exact .inr (by simpa using h)
theorem mem_stL {α : Type} {L : LL α} {last : Nat} {k n : Int} {x : α} {d : Du α} (h : d ∈ stL L last k n x) : d ∈ L ∨ d = (last + 1, clip n, x) := by
  unfold stL at h
  split at h
  · exact mem_add h
  · split at h
    · exact .inl (mem_rem.1 h).1
    · exact .inl (mem_left.1 h).1
theorem mem_stR {α : Type} {L : LL α} {k n : Int} {d : Du α} (h : d ∈ stR L k n) : d ∈ L := by
  unfold stR at h
  split at h
  · simp at h
  · split at h
    · cases hg : getO L n with
      | none => rw [hg] at h; simp at h
      | some e => rw [hg] at h; simp at h; subst h; exact (getO_mem hg).1
    · exact (mem_due.1 h).1

/-- each slice tells its limits, in memory that was there when the call began -/
def RepL (w0 : World) (R : LL Pa) : Prop := ∀ d ∈ R, d.2.2.2.2.1 = d.2.2.1.length ∧ Lims (fun b => b < w0.heap.size) w0 d.2.2.2.1 d.2.2.1 ∧ d.2.2.1.length ≤ 1048576
theorem RepL.nil (w0 : World) : RepL w0 [] := fun _ h => by simp at h
theorem RepL.step {w0 : World} {R : LL Pa} {last : Nat} {k n : Int} {A : Option Addr} {cap : Nat} {ls : List Lim} (h : RepL w0 R) (hA : Lims (fun b => b < w0.heap.size) w0 A ls) (hl : ls.length ≤ 1048576) : RepL w0 (stL R last k n (ls, A, ls.length, cap)) := fun d hd => by
  rcases mem_stL hd with h2 | rfl
  · exact h d h2
  · exact ⟨rfl, hA, hl⟩
theorem RepL.sub {w0 : World} {R Q : LL Pa} (h : RepL w0 R) (hs : ∀ d ∈ Q, d ∈ R) : RepL w0 Q := fun d hd => h d (hs d hd)
theorem mapP_get {α β : Type} {f : α → β} {L : LL α} {i : Nat} (h : i < (mapP f L).length) : (mapP f L)[i] = mapD f (L[i]'(by rw [mapP_length] at h; exact h)) := by
  simp [mapP]
/-- the document's row reads as the program's does -/
theorem RepL.dues {w0 w : World} {R : LL Pa} {A : Option Addr} {n cap : Nat} (h : RepL w0 R) (hb : Below w0.heap.size w0 w) (hr : Row w A n cap (mapP ps R)) : Dues (fun _ => True) w A (mapP pf R) ∧ n = (mapP pf R).length := by
  refine ⟨fun i hi => ?_, by rw [hr.1, mapP_length, mapP_length]⟩
  have hi' : i < R.length := by rw [mapP_length] at hi; exact hi
  obtain ⟨a, e, c0, c1, c2⟩ := hr.2.1.1.at_ (i := i) (by rw [mapP_length]; exact hi')
  rw [mapP_get] at c0 c1 c2
  obtain ⟨h1, h2, h3⟩ := h R[i] (List.getElem_mem hi')
  rw [mapP_get hi]
  have c3 : w.cell? ⟨(a.add (i * 3)).block, (a.add (i * 3)).off + 2, none⟩ = some (.slice R[i].2.2.2.1 R[i].2.2.1.length R[i].2.2.2.2.2) := by
    rw [c2]
    show some (Value.slice R[i].2.2.2.1 R[i].2.2.2.2.1 R[i].2.2.2.2.2) = _
    rw [h1]
  exact ⟨a, e, trivial, c0, c1, R[i].2.2.2.1, R[i].2.2.2.2.2, c3, h2.goes (T := fun _ => True) fun b hb' => ⟨hb.block b hb', trivial⟩⟩
/-- a due that was found, or nothing, reads as the program's does -/
theorem RepL.one {w0 w : World} {R : LL Pa} {o : Option (Du Pa)} (h : RepL w0 R) (hb : Below w0.heap.size w0 w) (ho : ∀ d, o = some d → d ∈ R) :
    ∃ A cap, ev (oe (o.map (mapD ps))) = dv (od (o.map (mapD pf))) A cap ∧ Lims (fun _ => True) w A (od (o.map (mapD pf))).2.2 ∧ (od (o.map (mapD pf))).2.2.length ≤ 1048576 := by
  cases o with
  | none => exact ⟨none, 0, rfl, Lims.nil _ _ _, by simp [od]⟩
  | some d =>
    obtain ⟨h1, h2, h3⟩ := h d (ho d rfl)
    refine ⟨d.2.2.2.1, d.2.2.2.2.2, ?_, h2.goes (T := fun _ => True) fun b hb' => ⟨hb.block b hb', trivial⟩, h3⟩
    show Value.agg #[.int .i64 (d.1 : Nat), .int .i64 (d.2.1 : Nat), .slice d.2.2.2.1 d.2.2.2.2.1 d.2.2.2.2.2] = Value.agg #[.int .i64 (d.1 : Nat), .int .i64 (d.2.1 : Nat), .slice d.2.2.2.1 d.2.2.1.length d.2.2.2.2.2]
    rw [h1]
theorem fits_map {R : LL Pa} {w0 : World} (h : RepL w0 R) : ∀ x ∈ mapP pf R, x.2.2.length ≤ 1048576 := by
  intro x hx
  obtain ⟨d, hd, rfl⟩ := List.mem_map.1 hx
  exact (h d hd).2.2
end Go.Proofs.Ytplinlgafgfepaa.Ld
