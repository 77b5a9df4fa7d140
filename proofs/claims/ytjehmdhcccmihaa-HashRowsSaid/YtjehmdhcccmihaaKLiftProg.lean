/-
  The functions of this program that go plainly.
-/
import Derived.Test.YtjehmdhcccmihaaKGLfu
import Derived.Test.YtjehmdhcccmihaaRows
namespace Go.Proofs.Ytjehmdhcccmihaa
open Go.Conc
namespace Lift
def fnB (P : Program) (L X : List FuncId) (f : FuncId) : Bool := match P.funcs[f]? with
  | some fn => !(fn.name == "runtime.NumGoroutine") && (match fn.body with | some c => okCode P L X c | none => false)
  | none => false
theorem closed_of {P : Program} {L X : List FuncId} (h : L.all (fnB P L X) = true) (hX : ∀ f ∈ X, Same P f) (ha : P.follows .staticDataAhead = true) (hi : (P.funcs.toList.all fun f => (f.body.map readies).all List.isEmpty) = true) : Closed P L X where
  go := fun f hf => by
    have h1 := List.all_eq_true.1 h f hf
    unfold fnB at h1
    split at h1
    · rename_i fn hfn
      rw [Bool.and_eq_true] at h1
      obtain ⟨h2, h3⟩ := h1
      split at h3
      · rename_i c hc
        exact ⟨fn, c, hfn, by simpa using h2, hc⟩
      · cases h3
    · cases h1
  same := hX
  code := fun f hf fn c hfn hc => by
    have h1 := List.all_eq_true.1 h f hf
    unfold fnB at h1
    rw [hfn] at h1
    dsimp only at h1
    rw [hc, Bool.and_eq_true] at h1
    exact h1.2
  ahead := ha
  noInit := fun g => by
    unfold Program.stepOf
    rw [Array.findIdx?_eq_none_iff]
    intro f hf
    have h1 := List.all_eq_true.1 hi f (Array.mem_toList_iff.2 hf)
    cases hb : f.body with
    | none => rfl
    | some c =>
      rw [hb] at h1
      have h2 : (readies c).isEmpty = true := h1
      have h3 : readies c = [] := by simpa using h2
      simp [h3]
abbrev plainFns : List FuncId := [6, 7, 8, 10, 11, 12, 13, 14, 15, 17, 18, 19, 20, 21, 22, 28, 29]
abbrev sameFns : List FuncId := [48]
theorem closed : Closed Try.prog plainFns sameFns := closed_of (by kernel_rfl) (fun f hf => by
  obtain rfl := List.mem_singleton.1 hf
  exact ⟨_, Try.func48, by kernel_rfl, by kernel_rfl, by kernel_rfl, by kernel_rfl⟩) (by kernel_rfl) (by kernel_rfl)
end Lift
end Go.Proofs.Ytjehmdhcccmihaa
