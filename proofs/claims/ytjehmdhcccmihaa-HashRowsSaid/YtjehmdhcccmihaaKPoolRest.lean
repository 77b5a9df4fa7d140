/-
  THE REST OF A FRAME: a region half done and the code behind it, as a run of the lone machine.
-/
import Derived.Tactics
namespace Go.Proofs.Ytjehmdhcccmihaa
namespace Lift
variable {P : Program}
/-- behind the rest of a region: the codes that follow, or the way out -/
def restPost (P : Program) (fn : Func) (R : Ending → World → Prop) : List Code → Exit → Act → World → Prop
  | [], e, a, w => bodyPost P fn R e a w
  | c :: cs, .normal, a, w => c.wp P (restPost P fn R cs) a w
  | _ :: _, e, a, w => bodyPost P fn R e a w
theorem arrive_rest {b : Frame} {fn : Func} {R : Ending → World → Prop} (hf : P.funcs[b.fn]? = some fn) (hk : b.kind = .normal) (cs : List Frame) :
    ∀ (codes : List Code) {m : Machine} {e : Exit} {a : Act} {w : World}, Arrives P m b (codes.map .code) cs e a w → restPost P fn R codes e a w →
      ∃ e w' fr, R e w' ∧ Comes P m (lone fr cs w') e ∧ fr.fn = b.fn ∧ fr.leaving P w' e := by
  have out : ∀ {k : List Item} {m : Machine} {e : Exit} {a : Act} {w : World}, (e = .normal → k = []) → Arrives P m b k cs e a w → bodyPost P fn R e a w →
      ∃ e w' fr, R e w' ∧ Comes P m (lone fr cs w') e ∧ fr.fn = b.fn ∧ fr.leaving P w' e := fun {k m e a w} hn harr hq => by
    cases e with
    | normal =>
      obtain rfl := hn rfl
      obtain ⟨hd, v, hr, hR⟩ := hq
      exact ⟨.returned v, w, _, hR, Steps.trans harr (.one step_end), rfl, rfl, hd, hk, fn, hf, hr⟩
    | ret =>
      obtain ⟨hd, v, hr, hR⟩ := hq
      obtain ⟨todo, hs⟩ := harr
      exact ⟨.returned v, w, _, hR, hs, rfl, rfl, hd, hk, fn, hf, hr⟩
    | panic chain =>
      obtain ⟨hd, hR⟩ := hq
      obtain ⟨todo, hs⟩ := harr
      exact ⟨.panicked chain, w, _, hR, hs, rfl, rfl, hd, fn, hf⟩
    | exit id => exact hq.elim
    | goto l => exact hq.elim
    | outgrown => exact ⟨.outgrown, w, b, hq, harr.resolve_left (by simp [hk]), rfl, trivial⟩
  intro codes
  induction codes with
  | nil => exact fun harr hq => out (fun _ => rfl) harr hq
  | cons c codes ih =>
    intro m e a w harr hq
    cases e with
    | normal =>
      obtain ⟨e2, a2, w2, hq2, harr2⟩ := (show c.wp P (restPost P fn R codes) a w from hq) b (codes.map .code) cs
      exact ih (Arrives.of_steps harr harr2) hq2
    | ret => exact out (e := .ret) (fun h => nomatch h) harr hq
    | panic chain => exact out (e := (.panic chain)) (fun h => nomatch h) harr hq
    | exit id => exact out (e := (.exit id)) (fun h => nomatch h) harr hq
    | goto l => exact out (e := (.goto l)) (fun h => nomatch h) harr hq
    | outgrown => exact out (e := .outgrown) (fun h => nomatch h) harr hq
theorem rest_comes {b : Frame} {fn : Func} {ops : Array Oper} {l : List Nat} {codes : List Code} {a : Act} {w : World} {R : Ending → World → Prop} (hf : P.funcs[b.fn]? = some fn) (hk : b.kind = .normal)
    (h : wpOps P ops (restPost P fn R codes) l a w) (cs : List Frame) :
    ∃ e w' fr, R e w' ∧ Comes P (lone (b.at a (.inRegion ops l :: codes.map .code)) cs w) (lone fr cs w') e ∧ fr.fn = b.fn ∧ fr.leaving P w' e := by
  obtain ⟨e, a', w', hq, harr⟩ := wp_ops l a w h b (codes.map .code) cs
  exact arrive_rest hf hk cs codes harr hq
/-- ... returning: on to the frame that waits -/
theorem rest_steps {b : Frame} {fn : Func} {ops : Array Oper} {l : List Nat} {codes : List Code} {a : Act} {w : World} {R : Value → World → Prop} (hf : P.funcs[b.fn]? = some fn) (hk : b.kind = .normal)
    (h : wpOps P ops (restPost P fn (fun e w => match e with | .returned v => R v w | _ => False) codes) l a w) (y : Frame) (cs : List Frame) :
    ∃ v w', R v w' ∧ Steps P (lone (b.at a (.inRegion ops l :: codes.map .code)) (y :: cs) w) (lone (y.finish v) cs w') := by
  obtain ⟨e, w', fr, hR, hs, _, hl⟩ := rest_comes hf hk h (y :: cs)
  cases e with
  | returned v => exact ⟨v, w', hR, Steps.trans hs (.one (step_leave_returned hl))⟩
  | panicked chain => exact hR.elim
  | outgrown => exact hR.elim
/-- ... the last frame, returning -/
theorem rest_last {b : Frame} {fn : Func} {ops : Array Oper} {l : List Nat} {codes : List Code} {a : Act} {w : World} {R : Value → World → Prop} (hf : P.funcs[b.fn]? = some fn) (hk : b.kind = .normal)
    (h : wpOps P ops (restPost P fn (fun e w => match e with | .returned v => R v w | _ => False) codes) l a w) (cs : List Frame) :
    ∃ v w' fr, R v w' ∧ Steps P (lone (b.at a (.inRegion ops l :: codes.map .code)) cs w) (lone fr cs w') ∧ fr.fn = b.fn ∧ fr.leaving P w' (.returned v) := by
  obtain ⟨e, w', fr, hR, hs, he, hl⟩ := rest_comes hf hk h cs
  cases e with
  | returned v => exact ⟨v, w', fr, hR, hs, he, hl⟩
  | panicked chain => exact hR.elim
  | outgrown => exact hR.elim
/-- the rest of a region, as the walkers' list -/
theorem wpOps_drop {ops : Array Oper} {Q : Exit → Act → World → Prop} {m : Nat} {a : Act} {w : World} (h : wpList P ops Q (ops.toList.drop m) a w) : wpOps P ops Q (List.range' m (ops.toList.drop m).length) a w := by
  rw [wpOps_eq_wpList (ops.toList.drop m) m fun j => by simp]
  exact h
end Lift
end Go.Proofs.Ytjehmdhcccmihaa
