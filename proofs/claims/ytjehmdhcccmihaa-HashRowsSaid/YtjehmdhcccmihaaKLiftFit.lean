/-
  A lone run of plain frames: wherever it is at a frame that goes on, its frames are plain.
-/
import Derived.Test.YtjehmdhcccmihaaKGLfu
namespace Go.Proofs.Ytjehmdhcccmihaa
open Go.Conc
namespace Lift
variable {P : Program} {L X : List FuncId}
theorem mode_alive {fr : Frame} {cs : List Frame} (hm : fr.mode = .run ∨ fr.mode = .returning) (hr : ∃ f, P.funcs[fr.fn]? = some f) : ¬ Dead P (G fr cs) := by
  intro h
  generalize hg : G fr cs = g at h
  cases h with
  | doomed h =>
    cases h with
    | still h => subst hg; rcases h with h | h <;> cases h
    | fatal h0 h1 h2 h3 => subst hg; cases h1
    | panic h1 h2 hY =>
      injection hg with h4 h5
      subst h4
      rcases hm with h6 | h6 <;> rw [h6] at h1 <;> cases h1
  | caught =>
    injection hg with h4 h5
    subst h4
    rcases hm with h6 | h6 <;> cases h6
  | back =>
    injection hg with h4 h5
    subst h4
    obtain ⟨f, hf⟩ := hr
    simp [Frame.finish, door] at hf
theorem run_fit (K : Closed P L X) {B : Nat → Prop} {fr' : Frame} {Y' : List Frame} {w' : World} (hm : fr'.mode = .run ∨ fr'.mode = .returning) (hr : ∃ f, P.funcs[fr'.fn]? = some f) :
    ∀ (N : Nat) {fr : Frame} {Y : List Frame} {w : World}, FitF P L X fr → FitX P L X Y → Pend B w → runN P N (one (G fr (Y ++ [door P])) w) = .next (one (G fr' (Y' ++ [door P])) w') → FitF P L X fr' ∧ FitX P L X Y' := by
  intro N
  induction N with
  | zero =>
    intro fr Y w hF hY _ h
    simp only [runN] at h
    obtain ⟨h1, _⟩ := one_inj h
    injection h1 with h3 h4
    obtain rfl := h3
    obtain rfl := List.append_cancel_right h4
    exact ⟨hF, hY⟩
  | succ M ih =>
    intro fr Y w hF hY hB h
    simp only [runN] at h
    by_cases hns : fr.mode = .returning → Y ≠ []
    · rcases step_fit K hF hY hns (rel_as (b := 0) (T := w.tape) hB fun _ _ hi => absurd hi (Nat.not_lt_zero _)) (Z1 := [door P]) (Z2 := [door P]) with ⟨fr1, Y1, w1, es1, h1, h2, h3, _⟩ | ⟨g', w1, es1, h1, h2⟩ | ⟨o, w1, es1, h1⟩
      · obtain ⟨_, _, hB1, _⟩ := same_step K hF hY hns hB h2 h1 (T := w.tape) fun _ _ _ => rfl
        rw [step_one_go rfl h1] at h
        exact ih h2 h3 hB1 h
      · rw [step_one_go rfl h1] at h
        obtain ⟨g2, w2, h4, h5⟩ := dead_run M (.doomed h2) h
        obtain ⟨rfl, rfl⟩ := one_inj (congrArg Stepped.next h4)
        exact absurd h5 (mode_alive hm hr)
      · rw [step_one_ended rfl h1] at h
        cases h
    · obtain ⟨h1, h2⟩ := Classical.not_imp.1 hns
      obtain rfl := Classical.not_not.1 h2
      rcases out_step hF h1 w with ⟨v, w1, es, h3⟩ | ⟨o, w1, es, h3⟩
      · rw [step_one_go rfl h3] at h
        obtain ⟨g2, w2, h4, h5⟩ := dead_run M .back h
        obtain ⟨rfl, rfl⟩ := one_inj (congrArg Stepped.next h4)
        exact absurd h5 (mode_alive hm hr)
      · rw [step_one_ended rfl h3] at h
        cases h
/-- so a run that comes to a last frame that returns one value stands at AtOut -/
theorem steps_fit (K : Closed P L X) {B : Nat → Prop} {fr fr' : Frame} {Y Y' : List Frame} {w w' : World} (hF : FitF P L X fr) (hY : FitX P L X Y) (hB : Pend B w) (hm : fr'.mode = .run ∨ fr'.mode = .returning) (hr : ∃ f, P.funcs[fr'.fn]? = some f)
    (h : Steps P (lone fr (Y ++ [door P]) w) (lone fr' (Y' ++ [door P]) w')) : FitF P L X fr' ∧ FitX P L X Y' := by
  obtain ⟨N, hN⟩ := h
  exact run_fit K hm hr N hF hY hB hN
end Lift
end Go.Proofs.Ytjehmdhcccmihaa
