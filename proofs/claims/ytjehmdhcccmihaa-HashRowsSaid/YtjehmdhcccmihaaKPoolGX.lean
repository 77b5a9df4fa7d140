/-
  GOROUTINE 0 BESIDE LEAVERS, once more: below a bound, and with what holds of each operation that is listed.
-/
import Derived.Test.YtjehmdhcccmihaaKGLfu
namespace Go.Proofs.Ytjehmdhcccmihaa
open Go.Conc
open Go.ConcN (sumTo upd sumTo_upd upd_ne upd_same)
namespace Pool
section
variable {P : Program} {Shun : Loc → Prop} {Stop : Goroutine → World → Prop}
/-- The walk beside leavers, below a bound, and what holds of each operation that is listed. -/
theorem gx_beside {Q : Event → Prop} {Nt : MemOp → Prop} (hN : ∀ (g : Nat) (fn : FuncId) (pos : String) (e : Event), Q e ∨ e.mute = true → Nt { g, fn, pos, act := .ofEvent e }) {B : Nat} {a : Goroutine} {w : World} (h : GW P (fun _ _ es => ∀ e ∈ es, EvL Shun B e ∧ Q e) Stop a w) :
    ∀ (gs : Array Goroutine) (sl : Option (Nat × Nat)) (t : Trace) (q : Nat → Nat), gs[0]? = some a → Leavers P t gs q → Past Shun B t → (∀ op ∈ t, Nt op) →
      ∃ (N : Nat) (gs' : Array Goroutine) (a' : Goroutine) (w' : World) (sl' : Option (Nat × Nat)) (t' : Trace) (q' : Nat → Nat),
        runNT P N (crowd gs w sl) t = (.next (crowd gs' w' sl'), t') ∧ gs'.size = gs.size ∧ gs'[0]? = some a' ∧ Stop a' w' ∧ Leavers P t' gs' q' ∧ Past Shun B t' ∧ ∀ op ∈ t', Nt op := by
  induction h with
  | @stop a w h => exact fun gs sl t q h0 hL hP hT => ⟨0, gs, a, w, sl, t, q, rfl, rfl, h0, h w (atRel_refl w), hL, hP, hT⟩
  | @step a w hs hgo0 _ ih =>
    have key : ∀ (M : Nat) (gs : Array Goroutine) (w₁ : World) (sl : Option (Nat × Nat)) (t : Trace) (q : Nat → Nat), AtRel w w₁ → sumTo gs.size q ≤ M → gs[0]? = some a → Leavers P t gs q → Past Shun B t → (∀ op ∈ t, Nt op) →
        ∃ (N : Nat) (gs' : Array Goroutine) (a' : Goroutine) (w' : World) (sl' : Option (Nat × Nat)) (t' : Trace) (q' : Nat → Nat),
          runNT P N (crowd gs w₁ sl) t = (.next (crowd gs' w' sl'), t') ∧ gs'.size = gs.size ∧ gs'[0]? = some a' ∧ Stop a' w' ∧ Leavers P t' gs' q' ∧ Past Shun B t' ∧ ∀ op ∈ t', Nt op := by
      intro M
      induction M with
      | zero =>
        intro gs w₁ sl t q hr hM h0 hL hP hT
        obtain ⟨i, g, d, sl', hi, hg, hst⟩ := crowd_pick (P := P) (w := w₁) (sl := sl) (awake_all h0 hL hs) ⟨0, a, h0, hs⟩
        rcases Nat.eq_zero_or_pos i with rfl | hpos
        · obtain rfl : g = a := by rw [h0] at hi; exact (Option.some.inj hi).symm
          obtain ⟨a', w', es, hgo, hd⟩ := hgo0 (w₁.at d) (atRel_trans _ _ _ hr ⟨d, rfl⟩)
          have hn := ih (w₁.at d) a' w' es (atRel_trans _ _ _ hr ⟨d, rfl⟩) hgo
          have hrunT := runT_crowd_go (P := P) (sl := sl') (i := 0) hi (show stepG P (0 == 0) g (w₁.at d) = _ from hgo)
          have hlt : 0 < gs.size := (Array.getElem?_eq_some_iff.1 h0).1
          obtain ⟨N, gs', a'', w'', sl'', t', q', hr', hs', h0', hS, hL', hP', hT'⟩ := hn ((gs.map (woken P g a' w')).setIfInBounds 0 a') sl' (t ++ MemOp.ofEvents 0 g.frame.fn g.frame.place es) q (by simp [hlt])
            (leavers_step hL (fun _ hop => own_of hop) hlt) (hP.own fun e he => (hd e he).1) (fun op hop => (Array.mem_append.1 hop).elim (hT op) fun h => by
              rw [ofEvents_eq] at h; obtain ⟨e, he, rfl⟩ := Array.mem_map.1 h
              exact hN _ _ _ _ (.inl (hd e he).2))
          exact ⟨N + 1, gs', a'', w'', sl'', t', q', by simp only [runNT, hst, hrunT]; exact hr', by simpa using hs', h0', hS, hL', hP', hT'⟩
        · have hlt : i < gs.size := (Array.getElem?_eq_some_iff.1 hi).1
          have hq := hL.old i g hpos hi
          have hz : q i = 0 := by
            have h3 : sumTo gs.size (upd q i 0) + q i = sumTo gs.size q + 0 := by simpa using sumTo_upd q 0 id hlt
            omega
          rw [hz] at hq
          rw [hq.1] at hg; cases hg
      | succ M ihM =>
        intro gs w₁ sl t q hr hM h0 hL hP hT
        obtain ⟨i, g, d, sl', hi, hg, hst⟩ := crowd_pick (P := P) (w := w₁) (sl := sl) (awake_all h0 hL hs) ⟨0, a, h0, hs⟩
        rcases Nat.eq_zero_or_pos i with rfl | hpos
        · obtain rfl : g = a := by rw [h0] at hi; exact (Option.some.inj hi).symm
          obtain ⟨a', w', es, hgo, hd⟩ := hgo0 (w₁.at d) (atRel_trans _ _ _ hr ⟨d, rfl⟩)
          have hn := ih (w₁.at d) a' w' es (atRel_trans _ _ _ hr ⟨d, rfl⟩) hgo
          have hrunT := runT_crowd_go (P := P) (sl := sl') (i := 0) hi (show stepG P (0 == 0) g (w₁.at d) = _ from hgo)
          have hlt : 0 < gs.size := (Array.getElem?_eq_some_iff.1 h0).1
          obtain ⟨N, gs', a'', w'', sl'', t', q', hr', hs', h0', hS, hL', hP', hT'⟩ := hn ((gs.map (woken P g a' w')).setIfInBounds 0 a') sl' (t ++ MemOp.ofEvents 0 g.frame.fn g.frame.place es) q (by simp [hlt])
            (leavers_step hL (fun _ hop => own_of hop) hlt) (hP.own fun e he => (hd e he).1) (fun op hop => (Array.mem_append.1 hop).elim (hT op) fun h => by
              rw [ofEvents_eq] at h; obtain ⟨e, he, rfl⟩ := Array.mem_map.1 h
              exact hN _ _ _ _ (.inl (hd e he).2))
          exact ⟨N + 1, gs', a'', w'', sl'', t', q', by simp only [runNT, hst, hrunT]; exact hr', by simpa using hs', h0', hS, hL', hP', hT'⟩
        · have hlt : i < gs.size := (Array.getElem?_eq_some_iff.1 hi).1
          have hi0 : (i == 0) = false := by simp; omega
          have hq := hL.old i g hpos hi
          cases hqi : q i with
          | zero => rw [hqi] at hq; rw [hq.1] at hg; cases hg
          | succ k =>
            rw [hqi] at hq
            rcases hq with ⟨hf, _⟩ | ⟨_, g', es, hm, hstp, hq'⟩
            · rw [hf] at hg; cases hg
            have hrunT := runT_crowd_go (P := P) (sl := sl') (i := i) hi (by rw [hi0]; exact hstp (w₁.at d))
            have hsz : ((gs.map (woken P g g' (w₁.at d))).setIfInBounds i g').size = gs.size := by simp
            have hsum : sumTo gs.size (upd q i k) + (k + 1) = sumTo gs.size q + k := by
              have := sumTo_upd q k id hlt
              simpa [hqi] using this
            obtain ⟨N, gs', a'', w'', sl'', t', q', hr', hs', h0', hS, hL', hP', hT'⟩ := ihM ((gs.map (woken P g g' (w₁.at d))).setIfInBounds i g') (w₁.at d) sl' (t ++ MemOp.ofEvents i g.frame.fn g.frame.place es) (upd q i k) (atRel_trans _ _ _ hr ⟨d, rfl⟩) (by rw [hsz]; omega)
              (by
                have hne : i ≠ 0 := by omega
                rw [Array.getElem?_setIfInBounds_ne hne, Array.getElem?_map, h0]
                simp [woken_run hs])
              (leavers_slip hL rfl hpos hlt hq') (hP.mute (by omega) hm) (fun op hop => (Array.mem_append.1 hop).elim (hT op) fun h => by
                rw [ofEvents_eq] at h; obtain ⟨e, he, rfl⟩ := Array.mem_map.1 h
                exact hN _ _ _ _ (.inr (hm e he)))
            exact ⟨N + 1, gs', a'', w'', sl'', t', q', by simp only [runNT, hst, hrunT]; exact hr', hs'.trans hsz, h0', hS, hL', hP', hT'⟩
    exact fun gs sl t q h0 hL hP hT => key _ gs w sl t q (atRel_refl w) (Nat.le_refl _) h0 hL hP hT

end
end Pool
end Go.Proofs.Ytjehmdhcccmihaa
