/-
  HASHSPREADS' RUN, on whatever tape: it ends, races nowhere, hands all over, and answers true.
-/
import Derived.Test.YtjehmdhcccmihaaKPoolPrs
import Derived.Test.YtjehmdhcccmihaaKPoolGo
import Derived.Test.YtjehmdhcccmihaaKPoolGX
import Derived.Laws.OwnMore
namespace Go.Proofs.Ytjehmdhcccmihaa.Pool
open Go.Conc Go.ConcN Go.RowKit Go.Conc.Lib Hs
open Go.ConcR (KK wgBlock WgAt stA smA rd wr mk Payload Aside2 DC0)
section
variable {A : Option Addr} {cap : Nat} {ps : List ByteArray} {W w : World} {n : Int}
/-- What was there when the call began is there still. -/
def Like (W w' : World) : Prop := w'.os = W.os ∧ w'.output = W.output ∧ W.heap.size ≤ w'.heap.size ∧ ∀ k, k < W.heap.size → w'.heap[k]? = W.heap[k]?
theorem goes_at {P : Program} {Stop : Goroutine → World → Prop} : ∀ {m : Nat} {g : Goroutine} {w : World}, Goes P true AtRel DC0 Stop m g w → Goes P true AtRel DC0 (fun g w₁ => Stop g w₁ ∧ AtRel w w₁) m g w := by
  have key : ∀ {m : Nat} {g : Goroutine} {w0 w : World}, AtRel w0 w → Goes P true AtRel DC0 Stop m g w → Goes P true AtRel DC0 (fun g w₁ => Stop g w₁ ∧ AtRel w0 w₁) m g w := by
    intro m
    induction m with
    | zero => exact fun hr h w₁ h₁ => ⟨h w₁ h₁, atRel_trans _ _ _ hr h₁⟩
    | succ m ih =>
      intro g w0 w hr h
      rcases h with h | ⟨hs, h⟩
      · exact .inl fun w₁ h₁ => ⟨h w₁ h₁, atRel_trans _ _ _ hr h₁⟩
      · refine .inr ⟨hs, fun w₁ h₁ => ?_⟩
        have := h w₁ h₁
        cases hgo : stepG P true g w₁ with
        | go g' w' es =>
          rw [hgo, goes_go] at this
          obtain ⟨⟨rfl, rfl⟩, hg⟩ := this
          rw [goes_go]
          exact ⟨⟨rfl, rfl⟩, ih (atRel_trans _ _ _ hr h₁) hg⟩
        | _ => rw [hgo] at this; exact this.elim
  exact fun {_ _ _} h => key (atRel_refl _) h
theorem w1_row {w2 : World} (h : w2.heap[W.heap.size]? = (w1 W n).heap[W.heap.size]?) : RRow w2 W.heap.size (.slice (some ⟨W.heap.size, 0, none⟩) (clip n) (clip n)) (List.replicate (clip n) ([], none, 0)) := by
  have hk := clip_le n
  unfold RRow World.ownsRow
  refine ⟨by simp, .inr ⟨W.heap.size, clip n, madeCells #[.slice none 0 0] (clip n), by simp, Nat.le_refl _, ?_, by simp, by unfold maxLen; omega, by simp [size_madeCells], ?_⟩⟩
  · rw [h]
    unfold w1
    have := heap_alloc_new W (.cells (madeCells #[.slice none 0 0] (clip n)) 22)
    exact this
  · rw [toList_madeCells_one]
    simp [Cm.v]
theorem size_le_long {p : ByteArray} (h : p ∈ ps) : p.size ≤ long (bys ps) := by
  induction ps with
  | nil => cases h
  | cons q ps ih =>
    have e : long (bys (q :: ps)) = 1 + q.size + long (bys ps) := by
      simp [long, bys]
    rcases List.mem_cons.1 h with rfl | h
    · omega
    · have := ih h; omega

theorem nt_of (C G : Nat) (g : Nat) (fn : FuncId) (pos : String) (e : Event) (h : NtA C G (.ofEvent e) ∨ e.mute = true) : NtA C G ({ g, fn, pos, act := .ofEvent e } : MemOp).act := by
  rcases h with h | h
  · exact h
  · refine ⟨fun y a hy => ?_, fun hr => ?_⟩
    · rw [touch_mute h] at hy; cases hy
    · obtain ⟨loc, wr, sy⟩ := e
      cases loc <;> simp_all [Event.mute]
      rename_i m
      cases m <;> simp_all [MemAct.ofEvent]
theorem enter_eq (A : Option Addr) (k cap : Nat) (n : Int) : Frame.enter Try.prog 3 #[.slice A k cap, .int .i64 n] .normal = (base 3).at ⟨#[.slice A k cap, .int .i64 n, undef, undef, undef, undef, undef, undef, undef, undef, undef, undef, undef, undef, undef, undef, undef, undef, undef, undef, undef, undef, undef, undef], []⟩ [.code bodyL] := by
  simp [Frame.enter, Frame.at, Try.func3, Conc.base, bodyL, Try.f3]
end
end Go.Proofs.Ytjehmdhcccmihaa.Pool
