/-
  What operations go plainly: they come to a value, to nothing, or enter a function; with one block shut they come to the same.
-/
import Derived.Test.YtjehmdhcccmihaaKGLif
import Derived.Conc.Own
import Derived.Control
import Derived.Conc.Beside
namespace Go.Proofs.Ytjehmdhcccmihaa
open Go.Conc
namespace Lift
section
variable {P : Program} {E : Gate} {L : List FuncId} {α β : Type}
theorem sim_followBlind (l : List FieldStep) : ∀ (t : TypeId) (x : Option Value), Sim P E (followBlind l t x) := by
  induction l with
  | nil => exact fun t x => Sim.pure' _
  | cons s rest ih =>
    intro t x
    unfold followBlind
    refine Sim.bind' (sim_underlying _) fun d => ?_
    split
    · split
      · split
        · exact Sim.pure' _
        · exact ih _ _
        · exact (never_stuck _).sim
        · exact Sim.pure' _
        · exact Sim.bind' (sim_part _ _ _) fun _ => ih _ _
        · exact (never_stuck _).sim
        · exact ih _ _
      · exact (never_stuck _).sim
    · exact (never_stuck _).sim
theorem sim_nilAhead (n : Nat) : ∀ (t : TypeId) (v : Value) (name : String), Sim P E (nilAhead n t v name) := by
  induction n with
  | zero => exact fun t v name => Sim.pure' _
  | succ n ih =>
    intro t v name
    unfold nilAhead
    refine Sim.bind' (sim_typeInfo _) fun d => ?_
    split
    · refine Sim.bind' (sim_followBlind _ _ _) fun r => ?_
      split
      · exact Sim.pure' _
      · split
        · exact ih _ _ _
        · exact Sim.pure' _
        · exact (never_stuck _).sim
        · exact Sim.pure' _
        · exact Sim.pure' _
        · refine Sim.bind' (sim_underlying _) fun _ => ?_
          split <;> exact Sim.pure' _
    · exact (never_stuck _).sim
def Calm (L : List FuncId) : Next → Prop
  | .value _ | .skip => True
  | .enter f _ => f ∈ L
  | _ => False
structure Tame (P : Program) (E : Gate) (L : List FuncId) (t : Sem Next) : Prop where
  sim : Sim P E t
  calm : ∀ w n w', t.run P w = .ok n w' → Calm L n
theorem Tame.pure {n : Next} (h : Calm L n) : Tame P E L (Pure.pure n) := ⟨Sim.pure' _, fun w n' w' hr => by
  have hr : (Sem.pure n : Sem Next).run P w = .ok n' w' := hr
  simp only [Sem.run] at hr
  cases hr
  exact h⟩
theorem Tame.never {t : Sem Next} (h : Never P t) : Tame P E L t := ⟨h.sim, fun w n w' hr => absurd hr (h _ _ _)⟩
theorem Tame.bind {t : Sem α} {f : α → Sem Next} (ht : Sim P E t) (hf : ∀ a, Tame P E L (f a)) : Tame P E L (t >>= f) := ⟨Sim.bind' ht fun a => (hf a).sim, fun w n w' hr => by
  have hr : (t.bind f).run P w = .ok n w' := hr
  rw [run_bind] at hr
  cases h1 : t.run P w with
  | halt hh w1 => rw [h1] at hr; cases hr
  | ok a w1 => rw [h1] at hr; exact (hf a).calm _ _ _ hr⟩
theorem Tame.ite {c : Prop} [Decidable c] {a b : Sem Next} (ha : Tame P E L a) (hb : Tame P E L b) : Tame P E L (if c then a else b) := by
  split
  · exact ha
  · exact hb
theorem Tame.v {s : Sem Value} (h : Sim P E s) : Tame P E L (do Pure.pure (Next.value (← s))) := Tame.bind h fun _ => Tame.pure trivial
theorem Tame.u {s : Sem Unit} (h : Sim P E s) : Tame P E L (do s; Pure.pure Next.skip) := Tame.bind h fun _ => Tame.pure trivial

def plainB (P : Program) (t : TypeId) : Bool := match P.underlying t with | some (.int _) | some .string | some .bool | some (.pointer _) | some (.slice _) => true | _ => false
theorem plain_of {t : TypeId} (h : plainB P t = true) : Plain P t := by
  unfold plainB at h
  unfold Plain
  split at h
  · rename_i k hk; exact .inl ⟨k, hk⟩
  · rename_i hk; exact .inr (.inl hk)
  · rename_i hk; exact .inr (.inr (.inl hk))
  · rename_i e hk; exact .inr (.inr (.inr (.inl ⟨e, hk⟩)))
  · rename_i e hk; exact .inr (.inr (.inr (.inr ⟨e, hk⟩)))
  · cases h
def convB (P : Program) (s t : TypeId) : Bool := match P.underlying s, P.underlying t with
  | some (.int _), some (.int _) | some (.pointer _), some .unsafePointer | some .unsafePointer, some (.pointer _) => true
  | _, _ => false
theorem sim_convert {s t : TypeId} (h : convB P s t = true) (x : Value) : Sim P E (convert s t x) := by
  unfold convB at h
  split at h
  · rename_i k k' h1 h2; exact sim_convertInt h1 h2 x
  · rename_i e h1 h2; exact sim_toUnsafe h1 h2 x
  · rename_i e h1 h2; exact sim_fromUnsafe h1 h2 x
  · cases h
def builtinB (P : Program) (b : Builtin) (ts : Array TypeId) : Bool := match b with
  | .append | .min | .max | .unsafeString | .unsafeSliceData => true
  | .len => match ts[0]? with
    | some s => (match P.underlying s with | some (.slice _) | some .string => true | _ => false)
    | none => false
  | _ => false
theorem tame_builtin {b : Builtin} {ts : Array TypeId} (h : builtinB P b ts = true) (t : TypeId) (cs : Array Bool) (as : Array Value) : Tame P E L (builtin b ts t cs as) := by
  cases b <;> (first | (exact absurd h Bool.false_ne_true) | skip)
  · exact Tame.v (sim_append _ _ _)
  · refine Tame.v ?_
    unfold builtinB at h
    dsimp only at h
    split at h
    · rename_i s hs
      split at h
      · rename_i e he; exact sim_lenSlice hs he _ _
      · rename_i he; exact sim_lenString hs he _ _
      · cases h
    · cases h
  · exact Tame.v (sim_max _ _ _)
  · exact Tame.v (sim_min _ _ _)
  · exact Tame.v (sim_unsafeSliceData _ _ _)
  · exact Tame.v (sim_unsafeString _ _ _)
/-- a function without a body that hands its argument back -/
def Same (P : Program) (f : FuncId) : Prop := ∃ fn, P.funcs[f]? = some fn ∧ (fn.name == "runtime.NumGoroutine") = false ∧ fn.body = none ∧ (Extern.findNext fn).isNone = true ∧ Extern.find fn = some Extern.AbiNoEscape.same
theorem tame_prog {F : Program → Sem Next} (h : Tame P E L (F P)) : Tame P E L (program >>= F) :=
  ⟨fun wl wc hr v wl' hrun hB => by
    obtain ⟨wc', es, h1, h2⟩ := h.sim wl wc hr v wl' hrun hB
    exact ⟨wc', es, h1, h2⟩, fun w n w' hr => h.calm w n w' hr⟩
theorem tame_callFunc {f : FuncId} (h : (f ∈ L ∧ ∃ fn c, P.funcs[f]? = some fn ∧ (fn.name == "runtime.NumGoroutine") = false ∧ fn.body = some c) ∨ Same P f) (as : Array Value) : Tame P E L (callFunc f as) := by
  unfold callFunc
  rcases h with ⟨hL, fn, c, hf, hn, hb⟩ | ⟨fn, hf, hn, hb, he, hs⟩
  · refine tame_prog ?_
    rw [hf]
    dsimp only
    rw [hn, hb]
    exact Tame.pure hL
  · refine tame_prog ?_
    rw [hf]
    dsimp only
    rw [hn, hb]
    simp only [Bool.false_eq_true, if_false, Option.isNone_none, if_true]
    refine Tame.bind (Sim.extern f) fun _ => ?_
    cases hx : Extern.findNext fn with
    | some e => rw [hx] at he; cases he
    | none =>
      dsimp only
      rw [hs]
      refine Tame.v ?_
      unfold Extern.AbiNoEscape.same
      rcases as with ⟨_ | ⟨a, _ | ⟨b, l⟩⟩⟩
      · exact (never_stuck _).sim
      · exact Sim.pure' _
      · exact (never_stuck _).sim
theorem sim_makeInterface (t : TypeId) (x : Value) : Sim P E (Instr.makeInterface t x) := by
  unfold Instr.makeInterface
  refine Sim.bind' (sim_underlying _) fun d => ?_
  split
  · exact (never_stuck _).sim
  · exact Sim.pure' _
theorem never_panic (x : Value) : Never P (Instr.panic x) := by
  unfold Instr.panic
  split
  · exact never_goPanic _
  · refine Never.bind fun b => ?_
    split
    · exact never_goPanic _
    · exact never_runtimePanic _
  · exact never_stuck _
/-- operations that go plainly; L: the functions that may be entered, X: those that hand their argument back -/
def okOp (P : Program) (L X : List FuncId) (o : Oper) : Bool := match o.op with
  | .move _ | .assign _ | .pick _ _ _ | .alloc _ | .buildSlice _ _ _ | .load _ _ | .store _ _ _ | .nilCheck _ | .unOp _ _ _ | .makeSlice _ _ _ | .fieldAddr _ _ _ | .indexAddr _ _ _ | .index _ _ _ | .makeInterface _ _ | .panic _ => true
  | .binOp _ t _ _ _ => plainB P t
  | .convert s t _ => convB P s t
  | .call c => match c.callee with
    | .builtin b => builtinB P b c.argTypes
    | .value (.func f) => L.contains f || X.contains f
    | _ => false
  | _ => false
structure Known (P : Program) (L X : List FuncId) : Prop where
  go : ∀ f ∈ L, ∃ fn c, P.funcs[f]? = some fn ∧ (fn.name == "runtime.NumGoroutine") = false ∧ fn.body = some c
  same : ∀ f ∈ X, Same P f
theorem tame_execOp {X : List FuncId} (K : Known P L X) {o : Oper} (h : okOp P L X o = true) (ρ : Operand → Value) (hρ : ∀ f, ρ (.func f) = .func (.func f) #[] #[]) : Tame P E L (execOp ρ o) := by
  unfold okOp at h
  unfold execOp
  dsimp only
  cases ho : o.op <;> rw [ho] at h <;> (first | (exact absurd h Bool.false_ne_true) | skip) <;> dsimp only
  case move => exact Tame.pure trivial
  case assign => exact Tame.pure trivial
  case pick => exact Tame.bind (sim_asBool _) fun _ => Tame.pure trivial
  case alloc => exact Tame.v (sim_alloc _ _ _)
  case buildSlice => exact Tame.v (sim_buildSlice _ _ _)
  case load => exact Tame.v (sim_loadAt _ _)
  case store => exact Tame.u (sim_storeAt _ _ _)
  case nilCheck x =>
    generalize ρ x = y
    split
    · exact Tame.never (never_runtimePanic _)
    · exact Tame.never (never_runtimePanic _)
    · exact Tame.never (never_runtimePanic _)
    · split
      · exact Tame.never (never_runtimePanic _)
      · refine Tame.bind sim_program fun _ => Tame.bind (sim_nilAhead _ _ _ _) fun _ => Tame.ite (Tame.never (never_unsupported _).left) (Tame.pure trivial)
      · exact Tame.pure trivial
    · exact Tame.pure trivial
  case unOp => exact Tame.v (sim_unary _ _)
  case makeSlice => exact Tame.v (sim_makeSlice _ _ _)
  case fieldAddr => exact Tame.v (sim_fieldAt _ _ _)
  case indexAddr => exact Tame.v (sim_indexAt _ _ _)
  case index => exact Tame.v (sim_index _ _ _)
  case makeInterface => exact Tame.v (sim_makeInterface _ _)
  case panic => exact Tame.v (never_panic _).sim
  case binOp => exact Tame.v (Sim.bind' (sim_eqGuard (plain_of h) _ _ _ _ _) fun _ => sim_binOp (plain_of h) _ _ _)
  case convert => exact Tame.v (sim_convert h _)
  case call c =>
    dsimp only at h
    unfold resolve
    dsimp only
    split at h
    · rename_i b hb
      rw [hb]
      exact tame_builtin h _ _ _
    · rename_i f hf
      rw [hf]
      dsimp only
      rw [hρ]
      have hc : (f ∈ L ∧ ∃ fn c, P.funcs[f]? = some fn ∧ (fn.name == "runtime.NumGoroutine") = false ∧ fn.body = some c) ∨ Same P f := by
        rcases Bool.or_eq_true_iff.1 h with h | h
        · exact .inl ⟨by simpa using h, K.go f (by simpa using h)⟩
        · exact .inr (K.same f (by simpa using h))
      exact tame_callFunc hc _
    · cases h
end
end Lift
end Go.Proofs.Ytjehmdhcccmihaa
/-
  ONE STEP OF A GOROUTINE whose code goes plainly: with one block shut, and in the true world, it comes to the same; or else it panics, is held up or ends.
-/
namespace Go.Proofs.Ytjehmdhcccmihaa
open Go.Conc
namespace Lift
section
variable {P : Program} {E : Gate} {L X : List FuncId} {α β : Type}
def okCode (P : Program) (L X : List FuncId) : Code → Bool
  | .skip | .exit _ | .label _ | .goto _ | .ret | .refuse _ => true
  | .region _ ops _ => ops.toList.all (okOp P L X)
  | .seq a b => okCode P L X a && okCode P L X b
  | .cond _ a b => okCode P L X a && okCode P L X b
  | .block _ b | .loop b | .scope b => okCode P L X b
  | _ => false
def okItem (P : Program) (L X : List FuncId) : Item → Bool
  | .code c => okCode P L X c
  | .inBlock _ => true
  | .inLoop b | .inScope b => okCode P L X b
  | .inRegion ops ids => ids.all fun i => match ops[i]? with | some o => okOp P L X o | none => true
  | _ => false
theorem okItem_region {ops : Array Oper} (h : ops.toList.all (okOp P L X) = true) (ids : List Nat) : okItem P L X (.inRegion ops ids) = true := by
  refine List.all_eq_true.2 fun i _ => ?_
  cases ho : ops[i]? with
  | none => rfl
  | some o => exact List.all_eq_true.1 h o (Array.mem_toList_iff.2 (Array.mem_of_getElem? ho))
theorem okItem_rest {ops : Array Oper} {i : Nat} {rest : List Nat} (h : okItem P L X (.inRegion ops (i :: rest)) = true) : okItem P L X (.inRegion ops rest) = true := by
  have h : (i :: rest).all (fun i => match ops[i]? with | some o => okOp P L X o | none => true) = true := h
  rw [List.all_cons, Bool.and_eq_true] at h
  exact h.2
theorem okItem_head {ops : Array Oper} {i : Nat} {rest : List Nat} {o : Oper} (h : okItem P L X (.inRegion ops (i :: rest)) = true) (ho : ops[i]? = some o) : okOp P L X o = true := by
  have h : (i :: rest).all (fun i => match ops[i]? with | some o => okOp P L X o | none => true) = true := h
  rw [List.all_cons, Bool.and_eq_true, ho] at h
  exact h.1
structure FitF (P : Program) (L X : List FuncId) (fr : Frame) : Prop where
  todo : ∀ it ∈ fr.todo, okItem P L X it = true
  defers : fr.defers = []
  kind : fr.kind = .normal
  round : fr.roundOf = none
  mode : fr.mode = .run ∨ fr.mode = .returning
  fn : ∃ fn, P.funcs[fr.fn]? = some fn
/-- frames that wait: each, handed what it waits for, goes plainly -/
def FitX (P : Program) (L X : List FuncId) (Y : List Frame) : Prop := ∀ x ∈ Y, x.defers = [] ∧ ∀ v, FitF P L X (x.finish v)
structure Closed (P : Program) (L X : List FuncId) : Prop extends Known P L X where
  code : ∀ f ∈ L, ∀ fn c, P.funcs[f]? = some fn → fn.body = some c → okCode P L X c = true
  ahead : P.follows .staticDataAhead = true
  noInit : ∀ g, P.stepOf g = none
/-- no way back to a goroutine that runs -/
inductive Doomed (P : Program) (Z : List Frame) : Goroutine → Prop
  | still {g : Goroutine} (h : g.status = .blocked ∨ g.status = .waiting) : Doomed P Z g
  | fatal {g : Goroutine} {d : Dying} (h0 : g.status = .running) (h1 : g.dying = some d) (h2 : d.fatal.isSome = true) (h3 : d.calling = false) : Doomed P Z g
  | panic {fr : Frame} {Y : List Frame} {chain : List PanicEntry} (h1 : fr.mode = .panicking chain) (h2 : fr.defers = []) (hY : ∀ x ∈ Y, x.defers = []) : Doomed P Z (G fr (Y ++ Z))
def Carried (P : Program) (L X : List FuncId) (E : Gate) (Z1 Z2 : List Frame) (wl wc : World) (s1 s2 : GStep) : Prop :=
  (∃ fr' Y' wl' es1, s1 = .go (G fr' (Y' ++ Z1)) wl' es1 ∧ FitF P L X fr' ∧ FitX P L X Y' ∧ wl.drawn ≤ wl'.drawn ∧ (wl'.drawn ≤ E.bound → ∃ wc' es, s2 = .go (G fr' (Y' ++ Z2)) wc' es ∧ Moved E wc wl' wc' es)) ∨
  (∃ g' wl' es1, s1 = .go g' wl' es1 ∧ Doomed P Z1 g') ∨ ∃ o wl' es1, s1 = .ended o wl' es1
theorem Carried.quiet {Z1 Z2 : List Frame} {wl wc : World} (h : Rel E wl wc) {fr : Frame} {Y : List Frame} (hF : FitF P L X fr) (hY : FitX P L X Y) : Carried P L X E Z1 Z2 wl wc (.go (G fr (Y ++ Z1)) wl) (.go (G fr (Y ++ Z2)) wc) :=
  .inl ⟨fr, Y, wl, #[], rfl, hF, hY, Nat.le_refl _, fun _ => ⟨wc, #[], rfl, h.moved⟩⟩
theorem seen_mem {fn : FuncId} {es : Array Event} {e : Event} (h : e ∈ seen P fn es) : e ∈ es := by
  unfold seen at h
  dsimp only at h
  have key : ∀ (l : List Event) (s : Bool × Array Event), e ∈ (l.foldl (fun (s : Bool × Array Event) (e : Event) => match e.loc with
      | .mark (.extern f) => ((P.funcs[f]?).any (·.norace), s.2)
      | _ => (s.1, if s.1 && !e.sync then s.2 else s.2.push e)) s).2 → e ∈ s.2 ∨ e ∈ l := by
    intro l
    induction l with
    | nil => exact fun s hs => .inl hs
    | cons y l ih =>
      intro s hs
      rcases ih _ hs with h1 | h1
      · dsimp only at h1
        split at h1
        · exact .inl h1
        · dsimp only at h1
          split at h1
          · exact .inl h1
          · rcases Array.mem_push.1 h1 with h1 | rfl
            · exact .inl h1
            · exact .inr (List.mem_cons_self ..)
      · exact .inr (List.mem_cons_of_mem _ h1)
  rw [← Array.foldl_toList] at h
  have := key es.toList (_, #[]) h
  simpa using this
theorem Moved.seen {wc wl' wc' : World} {es : Array Event} (h : Moved E wc wl' wc' es) (fn : FuncId) : Moved E wc wl' wc' (seen P fn es) := ⟨h.rel, h.size, fun e he => h.fine e (seen_mem he), h.kept, h.ctape, h.cos, h.cout⟩
theorem exitTo_mem {id : Nat} : ∀ {k k' : List Item}, exitTo id k = some k' → ∀ it ∈ k', it ∈ k := by
  intro k
  induction k with
  | nil => intro k' h; simp [exitTo] at h
  | cons a k ih =>
    intro k' h it hit
    unfold exitTo at h
    split at h
    · split at h
      · rename_i heq _; cases heq; cases h; exact List.mem_cons_of_mem _ hit
      · rename_i heq _; cases heq; exact List.mem_cons_of_mem _ (ih h it hit)
    · rename_i heq; cases heq; exact List.mem_cons_of_mem _ (ih h it hit)
    · rename_i heq; cases heq
theorem findLabel_ok {l : Nat} : ∀ {c r : Code}, okCode P L X c = true → findLabel c l = some r → okCode P L X r = true := by
  intro c
  induction c with
  | seq a b iha ihb =>
    intro r hc h
    have hc' : okCode P L X a = true ∧ okCode P L X b = true := by simpa [okCode] using hc
    unfold findLabel at h
    split at h
    · rename_i rest heq
      cases h
      simp [okCode, iha hc'.1 heq, hc'.2]
    · exact ihb hc'.2 h
  | label m =>
    intro r hc h
    unfold findLabel at h
    split at h
    · cases h; rfl
    · cases h
  | _ => intro r hc h; simp [findLabel] at h
theorem gotoIn_ok {l : Nat} : ∀ {k k' : List Item}, (∀ it ∈ k, okItem P L X it = true) → gotoIn l k = some k' → ∀ it ∈ k', okItem P L X it = true := by
  intro k
  induction k with
  | nil => intro k' _ h; simp [gotoIn] at h
  | cons a k ih =>
    intro k' hk h
    have hk' : ∀ it ∈ k, okItem P L X it = true := fun it hit => hk it (List.mem_cons_of_mem _ hit)
    unfold gotoIn at h
    split at h
    · rename_i body k0 heq
      cases heq
      have hb : okCode P L X body = true := hk _ (List.mem_cons_self ..)
      split at h
      · rename_i rest hf
        cases h
        intro it hit
        rcases List.mem_cons.1 hit with rfl | hit
        · exact findLabel_ok hb hf
        · rcases List.mem_cons.1 hit with rfl | hit
          · exact hb
          · exact hk' it hit
      · exact ih hk' h
    · rename_i heq; cases heq; exact ih hk' h
    · rename_i heq; cases heq
theorem finish_fit {fr : Frame} (hF : FitF P L X fr) (v : Value) : FitF P L X (fr.finish v) := by
  obtain ⟨fn, tmps, todo, defers, mode, kind, roundOf⟩ := fr
  obtain ⟨ht, hd, hk, hr, hm, hfn⟩ := hF
  dsimp only at *
  cases todo with
  | nil => exact ⟨ht, hd, hk, hr, hm, hfn⟩
  | cons it k =>
    have hk' : ∀ it ∈ k, okItem P L X it = true := fun x hx => ht x (List.mem_cons_of_mem _ hx)
    have h1 := ht it (List.mem_cons_self ..)
    cases it with
    | inRegion ops ids =>
      cases ids with
      | nil => exact ⟨ht, hd, hk, hr, hm, hfn⟩
      | cons i rest =>
        refine ⟨fun x hx => ?_, hd, hk, hr, hm, hfn⟩
        rcases List.mem_cons.1 hx with rfl | hx
        · exact okItem_rest h1
        · exact hk' x hx
    | inRangeFunc l => exact absurd h1 Bool.false_ne_true
    | beginRound => exact absurd h1 Bool.false_ne_true
    | call d wr re sa => exact absurd h1 Bool.false_ne_true
    | extern r a => exact absurd h1 Bool.false_ne_true
    | _ => exact ⟨ht, hd, hk, hr, hm, hfn⟩
theorem endFatal_cases (p : Program) (fr : Frame) (cs : List Frame) (dy : Option Dying) (m : String) (w : World) : (∃ g w' d, endFatal p fr cs dy m w = .go g w' ∧ g.status = .running ∧ g.dying = some d ∧ d.fatal.isSome = true ∧ d.calling = false) ∨ ∃ o w', endFatal p fr cs dy m w = .ended o w' := by
  unfold endFatal
  dsimp only
  split
  · exact .inl ⟨_, _, _, rfl, rfl, rfl, rfl, rfl⟩
  · exact .inr ⟨_, _, rfl⟩
  · exact .inr ⟨_, _, rfl⟩
theorem carried_apply (K : Closed P L X) {fn : Nat} {tmps : Array Value} {ops : Array Oper} {i : Nat} {rest : List Nat} {k : List Item} {Y Z1 Z2 : List Frame} {s : Sem Next} (hT : Tame P E L s)
    (hF : FitF P L X { fn, tmps, todo := Item.inRegion ops (i :: rest) :: k, defers := [], mode := .run, kind := .normal })
    (hrest : ∀ tmps' : Array Value, FitF P L X { fn, tmps := tmps', todo := .inRegion ops rest :: k, defers := [], mode := .run, kind := .normal }) (hY : FitX P L X Y) {wl wc : World} (h : Rel E wl wc) :
    Carried P L X E Z1 Z2 wl wc (stepG.apply P true { fn, tmps, todo := Item.inRegion ops (i :: rest) :: k, defers := [], mode := .run, kind := .normal } (Y ++ Z1) none s wl) (stepG.apply P true { fn, tmps, todo := Item.inRegion ops (i :: rest) :: k, defers := [], mode := .run, kind := .normal } (Y ++ Z2) none s wc) := by
  have hk2 : (CallKind.normal == CallKind.early) = false := rfl
  simp only [stepG.apply, if_true, hk2, Bool.false_eq_true, if_false]
  cases hr : s.runT P wl #[] with
  | mk r es1 =>
    have hrun : s.run P wl = r := by rw [← Sem.runT_fst P s wl #[], hr]
    dsimp only
    cases r with
    | ok n wl' =>
      have hc := hT.calm _ _ _ hrun
      have hmono := run_drawn _ _ _ _ hrun
      have hsim := fun hB => hT.sim wl wc h n wl' hrun hB
      cases n with
      | value v =>
        refine .inl ⟨_, Y, wl', _, rfl, hrest _, hY, hmono, fun hB => ?_⟩
        obtain ⟨wc', es, h2, h3⟩ := hsim hB
        rw [h2]
        exact ⟨wc', _, rfl, by simpa using h3.seen (P := P) fn⟩
      | skip =>
        refine .inl ⟨_, Y, wl', _, rfl, hrest _, hY, hmono, fun hB => ?_⟩
        obtain ⟨wc', es, h2, h3⟩ := hsim hB
        rw [h2]
        exact ⟨wc', _, rfl, by simpa using h3.seen (P := P) fn⟩
      | enter f args =>
        obtain ⟨fn', c, hf, hn, hb⟩ := K.go f hc
        have hFe : FitF P L X (Frame.enter P f args .normal) := by
          refine ⟨fun it hit => ?_, rfl, rfl, rfl, .inl rfl, fn', hf⟩
          simp only [Frame.enter, hf, Option.bind_some, hb, Option.getD_some, List.mem_singleton] at hit
          subst hit
          exact K.code f hc fn' c hf hb
        have hYe : FitX P L X ({ fn, tmps, todo := Item.inRegion ops (i :: rest) :: k, defers := [], mode := .run, kind := .normal } :: Y) := fun x hx => by
          rcases List.mem_cons.1 hx with rfl | hx
          · exact ⟨rfl, fun v => finish_fit hF v⟩
          · exact hY x hx
        refine .inl ⟨_, _ :: Y, wl', _, rfl, hFe, hYe, hmono, fun hB => ?_⟩
        obtain ⟨wc', es, h2, h3⟩ := hsim hB
        rw [h2]
        exact ⟨wc', _, rfl, by simpa using h3.seen (P := P) fn⟩
      | _ => exact hc.elim
    | halt hh w =>
      cases hh with
      | panic v => exact .inr (.inl ⟨_, _, _, rfl, .panic rfl rfl fun x hx => (hY x hx).1⟩)
      | goexit => exact .inr (.inl ⟨_, _, _, rfl, .panic rfl rfl fun x hx => (hY x hx).1⟩)
      | blocked => exact .inr (.inl ⟨_, _, _, rfl, .still (.inl rfl)⟩)
      | waiting => exact .inr (.inl ⟨_, _, _, rfl, .still (.inr rfl)⟩)
      | exit c => exact .inr (.inr ⟨_, _, _, rfl⟩)
      | fatal m =>
        dsimp only
        rcases endFatal_cases P { fn, tmps, todo := Item.inRegion ops (i :: rest) :: k, defers := [], mode := .run, kind := .normal } (Y ++ Z1) none m w with ⟨g, w', d, h0, h1, h2, h3, h4⟩ | ⟨o, w', h0⟩
        · rw [h0]
          exact .inr (.inl ⟨_, _, _, rfl, .fatal h1 h2 h3 h4⟩)
        · rw [h0]
          exact .inr (.inr ⟨_, _, _, rfl⟩)
      | throw m => exact .inr (.inl ⟨_, _, _, rfl, .fatal rfl rfl rfl rfl⟩)
      | unsupported u =>
        cases u with
        | initOrder g =>
          dsimp only
          unfold early
          simp only [K.ahead, K.noInit, Bool.not_true, Bool.false_eq_true, if_false]
          exact .inr (.inr ⟨_, _, _, rfl⟩)
        | _ => exact .inr (.inr ⟨_, _, _, rfl⟩)
      | stuck m => exact .inr (.inr ⟨_, _, _, rfl⟩)
theorem carried_run (K : Closed P L X) {fn : Nat} {tmps : Array Value} {todo : List Item} {Y Z1 Z2 : List Frame} (ht : ∀ it ∈ todo, okItem P L X it = true) (hfn : ∃ f, P.funcs[fn]? = some f) (hY : FitX P L X Y) {wl wc : World} (h : Rel E wl wc) :
    Carried P L X E Z1 Z2 wl wc (stepG P true (G { fn, tmps, todo, defers := [], mode := .run, kind := .normal } (Y ++ Z1)) wl) (stepG P true (G { fn, tmps, todo, defers := [], mode := .run, kind := .normal } (Y ++ Z2)) wc) := by
  have fit : ∀ (tmps' : Array Value) (todo' : List Item), (∀ it ∈ todo', okItem P L X it = true) → FitF P L X { fn, tmps := tmps', todo := todo', defers := [], mode := .run, kind := .normal } := fun _ _ hi => ⟨hi, rfl, rfl, rfl, .inl rfl, hfn⟩
  have fitR : ∀ (todo' : List Item), (∀ it ∈ todo', okItem P L X it = true) → FitF P L X { fn, tmps, todo := todo', defers := [], mode := .returning, kind := .normal } := fun _ hi => ⟨hi, rfl, rfl, rfl, .inr rfl, hfn⟩
  cases todo with
  | nil => exact Carried.quiet h (fitR _ ht) hY
  | cons it k =>
    have hk : ∀ it ∈ k, okItem P L X it = true := fun x hx => ht x (List.mem_cons_of_mem _ hx)
    have h1 := ht it (List.mem_cons_self ..)
    cases it with
    | inBlock id => exact Carried.quiet h (fit _ _ hk) hY
    | inScope b => exact Carried.quiet h (fit _ _ hk) hY
    | inLoop b =>
      refine Carried.quiet h (fit _ _ ?_) hY
      intro x hx
      rcases List.mem_cons.1 hx with rfl | hx
      · exact h1
      · rcases List.mem_cons.1 hx with rfl | hx
        · exact h1
        · exact hk x hx
    | code c =>
      cases c with
      | ret => exact Carried.quiet h (fitR _ ht) hY
      | refuse why => exact .inr (.inr ⟨_, _, _, rfl⟩)
      | skip => exact Carried.quiet h (fit _ _ hk) hY
      | label l => exact Carried.quiet h (fit _ _ hk) hY
      | seq a b =>
        have hc : okCode P L X a = true ∧ okCode P L X b = true := by simpa [okItem, okCode] using h1
        refine Carried.quiet h (fit _ _ ?_) hY
        intro x hx
        rcases List.mem_cons.1 hx with rfl | hx
        · exact hc.1
        · rcases List.mem_cons.1 hx with rfl | hx
          · exact hc.2
          · exact hk x hx
      | block id b =>
        refine Carried.quiet h (fit _ _ ?_) hY
        intro x hx
        rcases List.mem_cons.1 hx with rfl | hx
        · exact h1
        · rcases List.mem_cons.1 hx with rfl | hx
          · rfl
          · exact hk x hx
      | loop b =>
        refine Carried.quiet h (fit _ _ ?_) hY
        intro x hx
        rcases List.mem_cons.1 hx with rfl | hx
        · exact h1
        · rcases List.mem_cons.1 hx with rfl | hx
          · exact h1
          · exact hk x hx
      | scope b =>
        refine Carried.quiet h (fit _ _ ?_) hY
        intro x hx
        rcases List.mem_cons.1 hx with rfl | hx
        · exact h1
        · rcases List.mem_cons.1 hx with rfl | hx
          · exact h1
          · exact hk x hx
      | exit id =>
        cases he : exitTo id k with
        | none =>
          refine .inr (.inr ?_)
          simp only [stepG, G, stepG.exec, he, Option.elim]
          exact ⟨_, _, _, rfl⟩
        | some k' =>
          simp only [stepG, G, stepG.exec, he, Option.elim]
          exact Carried.quiet h (fit _ _ fun x hx => hk x (exitTo_mem he x hx)) hY
      | goto l =>
        cases he : gotoIn l k with
        | none =>
          refine .inr (.inr ?_)
          simp only [stepG, G, stepG.exec, he, Option.elim]
          exact ⟨_, _, _, rfl⟩
        | some k' =>
          simp only [stepG, G, stepG.exec, he, Option.elim]
          exact Carried.quiet h (fit _ _ (gotoIn_ok hk he)) hY
      | cond c a b =>
        have hc : okCode P L X a = true ∧ okCode P L X b = true := by simpa [okItem, okCode] using h1
        simp only [stepG, G, stepG.exec]
        have e : ∀ m : FrameMode, Frame.eval { fn, tmps, todo := Item.code (Code.cond c a b) :: k, defers := [], mode := m, kind := .normal } c = Frame.eval { fn, tmps, todo := [], defers := [], mode := .run, kind := .normal } c := fun m => by cases c <;> rfl
        rw [e]
        cases Frame.eval { fn, tmps, todo := [], defers := [], mode := .run, kind := .normal } c <;> (first | exact .inr (.inr ⟨_, _, _, rfl⟩) | skip)
        rename_i t
        refine Carried.quiet h (fit _ _ ?_) hY
        intro x hx
        rcases List.mem_cons.1 hx with rfl | hx
        · cases t
          · exact hc.2
          · exact hc.1
        · exact hk x hx
      | region id ops draw =>
        have hops : ∀ ids, okItem P L X (.inRegion ops ids) = true := okItem_region h1
        cases draw with
        | false =>
          refine Carried.quiet h (fit _ _ ?_) hY
          intro x hx
          rcases List.mem_cons.1 hx with rfl | hx
          · exact hops _
          · exact hk x hx
        | true =>
          have hs : Sim P E (choose (.order fn id)) := sim_choose _
          simp only [stepG, G, stepG.exec, Bool.not_true, Bool.false_eq_true, if_false]
          cases hr : (choose (.order fn id)).run P wl with
          | halt hh w => exact .inr (.inr ⟨_, _, _, rfl⟩)
          | ok t wl' =>
            refine .inl ⟨_, Y, wl', #[], rfl, fit _ _ ?_, hY, run_drawn _ _ _ _ hr, fun hB => ?_⟩
            · intro x hx
              rcases List.mem_cons.1 hx with rfl | hx
              · exact hops _
              · exact hk x hx
            · obtain ⟨wc', es, h2, h3⟩ := hs wl wc h t wl' hr hB
              have h4 : (choose (.order fn id)).run P wc = .ok t wc' := by rw [← Sem.runT_fst P _ wc #[], h2]
              rw [h4]
              refine ⟨wc', #[], rfl, h3.rel, h3.size, by simp, h3.kept, h3.ctape, h3.cos, h3.cout⟩
      | _ => exact absurd h1 Bool.false_ne_true
    | inRegion ops ids =>
      cases ids with
      | nil => exact Carried.quiet h (fit _ _ hk) hY
      | cons i rest =>
        have hrest : ∀ tmps' : Array Value, FitF P L X { fn, tmps := tmps', todo := .inRegion ops rest :: k, defers := [], mode := .run, kind := .normal } := fun tmps' => fit _ _ fun x hx => by
          rcases List.mem_cons.1 hx with rfl | hx
          · exact okItem_rest h1
          · exact hk x hx
        cases ho : ops[i]? with
        | none =>
          simp only [stepG, G, stepG.exec, ho, Option.map_none, Option.getD_none, Bool.false_eq_true, if_false, Frame.finish]
          exact Carried.quiet h (hrest _) hY
        | some o =>
          by_cases hw : Region.wanted o (yielded ops tmps) = true
          · have hok : okOp P L X o = true := okItem_head h1 ho
            have hT : Tame P E L (execOp (Frame.eval { fn, tmps, todo := Item.inRegion ops (i :: rest) :: k, defers := [], mode := .run, kind := .normal }) o) := tame_execOp K.toKnown hok _ fun _ => rfl
            simp only [stepG, G, stepG.exec, ho, Option.map_some, Option.getD_some, hw, if_true, stepG.oper, Frame.oper?]
            generalize execOp (Frame.eval { fn, tmps, todo := Item.inRegion ops (i :: rest) :: k, defers := [], mode := .run, kind := .normal }) o = s at hT
            exact carried_apply K hT (fit _ _ ht) hrest hY h
          · rw [Bool.not_eq_true] at hw
            simp only [stepG, G, stepG.exec, ho, Option.map_some, Option.getD_some, hw, Bool.false_eq_true, if_false, Frame.finish]
            exact Carried.quiet h (hrest _) hY
    | _ => exact absurd h1 Bool.false_ne_true
theorem sim_mapM {γ δ : Type} {f : γ → Sem δ} (hf : ∀ a, Sim P E (f a)) (as : Array γ) : Sim P E (as.mapM f) := by
  rw [Array.mapM_eq_foldlM, ← Array.foldlM_toList]
  refine sim_foldlM (fun b a => ?_) _ _
  rw [map_eq_pure_bind]
  exact Sim.bind' (hf a) fun _ => Sim.pure' _
theorem sim_results (fn : Func) (tmps : Array Value) : Sim P E (results fn tmps) := by
  unfold results
  refine Sim.bind' (sim_mapM (fun r => ?_) _) fun vs => Sim.pure' _
  cases r with
  | tmp t => exact Sim.pure' _
  | cell a t => exact Sim.bind' (sim_asAddr _) fun _ => sim_loadVar _ _
/-- ONE STEP. -/
theorem step_fit (K : Closed P L X) {fr : Frame} {Y Z1 Z2 : List Frame} (hF : FitF P L X fr) (hY : FitX P L X Y) (hns : fr.mode = .returning → Y ≠ []) {wl wc : World} (h : Rel E wl wc) :
    Carried P L X E Z1 Z2 wl wc (stepG P true (G fr (Y ++ Z1)) wl) (stepG P true (G fr (Y ++ Z2)) wc) := by
  obtain ⟨fn, tmps, todo, defers, mode, kind, roundOf⟩ := fr
  obtain ⟨ht, hd, hk, hr, hm, f, hfn⟩ := hF
  dsimp only at *
  subst hd hk hr
  rcases hm with rfl | rfl
  · exact carried_run K ht ⟨f, hfn⟩ hY h
  · cases Y with
    | nil => exact absurd rfl (hns rfl)
    | cons y Y =>
      have hs := sim_results (P := P) (E := E) f tmps
      simp only [stepG, G, unwind, hfn, List.cons_append, doReturn]
      cases hr : (results f tmps).runT P wl #[] with
      | mk r es1 =>
        have hrun : (results f tmps).run P wl = r := by rw [← Sem.runT_fst P _ wl #[], hr]
        dsimp only
        cases r with
        | halt hh w => cases hh <;> exact .inr (.inr ⟨_, _, _, rfl⟩)
        | ok v wl' =>
          refine .inl ⟨_, Y, wl', _, rfl, (hY y (List.mem_cons_self ..)).2 v, fun x hx => hY x (List.mem_cons_of_mem _ hx), run_drawn _ _ _ _ hrun, fun hB => ?_⟩
          obtain ⟨wc', es, h2, h3⟩ := hs wl wc h v wl' hrun hB
          rw [h2]
          exact ⟨wc', _, rfl, by simpa using h3.seen (P := P) fn⟩
end
end Lift
end Go.Proofs.Ytjehmdhcccmihaa
/-
  A LONE GOROUTINE THAT PANICS, IS HELD UP, OR RETURNS FROM ITS LAST FRAME never comes back to a frame that runs plainly: behind its frames stands one that ends the run.
-/
namespace Go.Proofs.Ytjehmdhcccmihaa
open Go.Conc
namespace Lift
section
variable {P : Program} {E : Gate} {L X : List FuncId} {α β : Type}
def one (g : Goroutine) (w : World) : Machine := { world := w, gs := #[g], rest := { timers := #[], alone := none, slice := none } }
theorem lone_one (fr : Frame) (cs : List Frame) (w : World) : lone fr cs w = one (G fr cs) w := rfl
theorem move_one {g : Goroutine} {w : World} (hs : g.status = .running) : move P (one g w) = .goroutine (one g w) 0 := by
  simp [move, ask, askOn, one, runnable_eq, due, ahead, Goroutine.canRun, hs, List.range_succ, choose, pure, Sem.run, Question.forced]
theorem step_one_go {g g' : Goroutine} {w w' : World} {es : Array Event} (hs : g.status = .running) (h : stepG P true g w = .go g' w' es) : step P (one g w) = .next (one g' w') := by
  rw [step, stepT, move_one hs]
  simp [Go.runT, one, Array.swapAt!, h]
theorem step_one_ended {g : Goroutine} {w w' : World} {es : Array Event} {o : Outcome} (hs : g.status = .running) (h : stepG P true g w = .ended o w' es) : step P (one g w) = .ended o w' := by
  rw [step, stepT, move_one hs]
  simp [Go.runT, one, Array.swapAt!, h]
/-- the frame behind all -/
def door (P : Program) : Frame := { fn := P.funcs.size, tmps := #[], todo := [.call default false "fmt's door?" #[]], defers := [], mode := .run, kind := .normal }
inductive Dead (P : Program) : Goroutine → Prop
  | doomed {g : Goroutine} (h : Doomed P [door P] g) : Dead P g
  | caught {chain : List PanicEntry} : Dead P (G { door P with mode := .panicking chain } [])
  | back {v : Value} : Dead P (G ((door P).finish v) [])
theorem fit_alive {fr : Frame} {cs : List Frame} (hF : FitF P L X fr) (hr : ∃ f, P.funcs[fr.fn]? = some f) : ¬ Dead P (G fr cs) := by
  intro h
  generalize hg : G fr cs = g at h
  cases h with
  | doomed h =>
    cases h with
    | still h => subst hg; rcases h with h | h <;> cases h
    | fatal h0 h1 h2 h3 => subst hg; cases h1
    | panic h1 h2 hY =>
      injection hg with h4 h5
      subst h4
      rcases hF.mode with h6 | h6 <;> rw [h6] at h1 <;> cases h1
  | caught =>
    injection hg with h4 h5
    subst h4
    rcases hF.mode with h6 | h6 <;> cases h6
  | back =>
    injection hg with h4 h5
    subst h4
    obtain ⟨f, hf⟩ := hr
    simp [Frame.finish, door] at hf
theorem door_catches (m : FrameMode) : Frame.catches P { door P with mode := m } = true := by
  have h : P.funcs[P.funcs.size]? = none := by simp
  unfold Frame.catches door
  dsimp only
  rw [h]
  show ("fmt's door?".startsWith "fmt's door") = true
  kernel_rfl
theorem no_row : Extern.next "fmt's door?" = none := by kernel_rfl
theorem writeOn_cases (fr : Frame) (d : Dying) (f : Fatal) (w : World) : (∃ g w' d', (∃ es, writeOn P fr d f w = .go g w' es) ∧ (g.status = .running ∨ g.status = .blocked) ∧ g.dying = some d' ∧ d'.fatal.isSome = true ∧ d'.calling = d.calling) ∨ ∃ o w' es, writeOn P fr d f w = .ended o w' es := by
  unfold writeOn
  dsimp only
  split
  · exact .inr ⟨_, _, _, rfl⟩
  · split
    · exact .inl ⟨_, _, _, ⟨_, rfl⟩, .inl rfl, rfl, rfl, rfl⟩
    · exact .inl ⟨_, _, _, ⟨_, rfl⟩, .inr rfl, rfl, rfl, rfl⟩
    · exact .inr ⟨_, _, _, rfl⟩
    · exact .inr ⟨_, _, _, rfl⟩
theorem raise_mode (fr : Frame) (vs : List PanicEntry) : ∃ chain, (fr.raise vs).mode = .panicking chain := by
  unfold Frame.raise
  split
  · exact ⟨_, rfl⟩
  · exact ⟨_, rfl⟩
theorem raise_defers (fr : Frame) (vs : List PanicEntry) : (fr.raise vs).defers = fr.defers := by
  unfold Frame.raise
  split <;> rfl
theorem dead_step {g : Goroutine} (h : Dead P g) (w : World) : (∃ g' w', step P (one g w) = .next (one g' w') ∧ Dead P g') ∨ ∃ o w', step P (one g w) = .ended o w' := by
  cases h with
  | doomed h =>
    cases h with
    | still h =>
      rcases h with hb | hb
      · refine .inr ?_
        simp [step, stepT, move, ask, askOn, one, runnable_eq, due, ahead, Goroutine.canRun, hb, List.range_succ, choose, pure, Sem.run, Question.forced]
        split
        · rename_i heq
          split at heq <;> cases heq
        · rename_i heq
          split at heq <;> cases heq <;> exact ⟨_, _, rfl⟩
      · refine .inl ⟨g, w, ?_, .doomed (.still (.inr hb))⟩
        simp [step, stepT, move, ask, askOn, one, runnable_eq, due, ahead, Goroutine.canRun, hb, List.range_succ, choose, pure, Sem.run, Question.forced]
    | @fatal g d h0 h1 h2 h3 =>
      obtain ⟨fr, cs, st, dy, off⟩ := g
      dsimp only at h0 h1
      subst h0 h1
      obtain ⟨f, hf⟩ := Option.isSome_iff_exists.1 h2
      have e : stepG P true { frame := fr, callers := cs, status := .running, dying := some d, offers := off } w = writeOn P fr d f w := by
        obtain ⟨todo, texts, calling, pending, re, fatal, hand⟩ := d
        dsimp only at h3 hf
        subst h3 hf
        rfl
      rcases writeOn_cases (P := P) fr d f w with ⟨g, w', d', ⟨es, hg⟩, hst, h4, h5, h6⟩ | ⟨o, w', es, hg⟩
      · refine .inl ⟨g, w', step_one_go rfl (e.trans hg), .doomed ?_⟩
        rcases hst with hst | hst
        · exact .fatal hst h4 h5 (h6.trans h3)
        · exact .still (.inl hst)
      · exact .inr ⟨o, w', step_one_ended rfl (e.trans hg)⟩
    | @panic fr Y chain h1 h2 hY =>
      obtain ⟨fn, tmps, todo, defers, mode, kind, roundOf⟩ := fr
      dsimp only at h1 h2
      subst h1 h2
      by_cases hc : Frame.catches P { fn, tmps, todo, defers := [], mode := .panicking chain, kind, roundOf } = true
      · have e : ∃ o, stepG P true (G { fn, tmps, todo, defers := [], mode := .panicking chain, kind, roundOf } (Y ++ [door P])) w = .ended o w #[] := by
          simp only [stepG, G, unwind, hc, if_true]
          exact ⟨_, rfl⟩
        obtain ⟨o, e⟩ := e
        exact .inr ⟨o, w, step_one_ended rfl e⟩
      · rw [Bool.not_eq_true] at hc
        cases Y with
        | nil =>
          refine .inl ⟨_, w, step_one_go (es := #[]) rfl ?_, .caught (chain := chain)⟩
          simp only [stepG, G, unwind, hc, Bool.false_eq_true, if_false, List.nil_append]
          rfl
        | cons y Y =>
          obtain ⟨chain', hm⟩ := raise_mode y chain
          refine .inl ⟨G (y.raise chain) (Y ++ [door P]), w, step_one_go (es := #[]) rfl ?_, .doomed (.panic hm ((raise_defers y chain).trans (hY y (List.mem_cons_self ..))) fun x hx => hY x (List.mem_cons_of_mem _ hx))⟩
          simp only [stepG, G, unwind, hc, Bool.false_eq_true, if_false, List.cons_append]
  | @caught chain =>
    have e : ∃ o, stepG P true (G { door P with mode := .panicking chain } []) w = .ended o w #[] := by
      have hc := door_catches (P := P) (.panicking chain)
      simp only [stepG, G, unwind, door] at hc ⊢
      simp only [hc, if_true]
      exact ⟨_, rfl⟩
    obtain ⟨o, e⟩ := e
    exact .inr ⟨o, w, step_one_ended rfl e⟩
  | @back v =>
    have e : ∃ o, stepG P true (G ((door P).finish v) []) w = .ended o w #[] := by
      simp only [stepG, G, stepG.exec, door, Frame.finish, no_row, Option.elim]
      exact ⟨_, rfl⟩
    obtain ⟨o, e⟩ := e
    exact .inr ⟨o, w, step_one_ended rfl e⟩
theorem dead_run : ∀ (n : Nat) {g : Goroutine} {w : World} {m' : Machine}, Dead P g → runN P n (one g w) = .next m' → ∃ g' w', m' = one g' w' ∧ Dead P g' := by
  intro n
  induction n with
  | zero =>
    intro g w m' h hr
    simp only [runN] at hr
    cases hr
    exact ⟨g, w, rfl, h⟩
  | succ n ih =>
    intro g w m' h hr
    simp only [runN] at hr
    rcases dead_step h w with ⟨g', w', hs, hd⟩ | ⟨o, w', hs⟩
    · rw [hs] at hr
      exact ih hd hr
    · rw [hs] at hr
      cases hr
end
end Lift
end Go.Proofs.Ytjehmdhcccmihaa
/-
  GOROUTINE 0 BESIDE LEAVERS, BY A WALK THAT HAS NO BOUND OF ITS OWN: each way that the count of draws may go leads to the stop, in however many steps ('GW'). On whatever tape the machine comes to the stop; and to the end of the run.
-/
namespace Go.Proofs.Ytjehmdhcccmihaa
open Go.Conc
open Go.ConcN (sumTo upd sumTo_upd upd_ne upd_same)
namespace Pool

/-- On its way to a stop, whatever the count of draws is ahead of each step. -/
inductive GW (P : Program) (D : World → World → Array Event → Prop) (Stop : Goroutine → World → Prop) : Goroutine → World → Prop
  | stop {a : Goroutine} {w : World} (h : ∀ w₁, AtRel w w₁ → Stop a w₁) : GW P D Stop a w
  | step {a : Goroutine} {w : World} (hs : a.status = .running) (h : ∀ w₁, AtRel w w₁ → ∃ a' w' es, stepG P true a w₁ = .go a' w' es ∧ D w₁ w' es)
      (hn : ∀ w₁ a' w' es, AtRel w w₁ → stepG P true a w₁ = .go a' w' es → GW P D Stop a' w') : GW P D Stop a w

section
variable {P : Program} {D : World → World → Array Event → Prop} {Stop Stop' : Goroutine → World → Prop}

theorem GW.rely {a : Goroutine} {w w₁ : World} (h : GW P D Stop a w) (hr : AtRel w w₁) : GW P D Stop a w₁ := by
  cases h with
  | stop h => exact .stop fun w₂ h₂ => h w₂ (atRel_trans _ _ _ hr h₂)
  | step hs h hn => exact .step hs (fun w₂ h₂ => h w₂ (atRel_trans _ _ _ hr h₂)) (fun w₂ a' w' es h₂ => hn w₂ a' w' es (atRel_trans _ _ _ hr h₂))

theorem GW.of_goes {n : Nat} : ∀ {a : Goroutine} {w : World}, Goes P true AtRel D Stop n a w → GW P D Stop a w := by
  induction n with
  | zero => exact fun h => .stop h
  | succ n ih =>
    intro a w h
    rcases h with h | ⟨hs, h⟩
    · exact .stop h
    · refine .step hs (fun w₁ h₁ => ?_) (fun w₁ a' w' es h₁ hgo => ?_)
      · have := h w₁ h₁
        cases hgo : stepG P true a w₁ with
        | go a' w' es => rw [hgo, goes_go] at this; exact ⟨a', w', es, rfl, this.1⟩
        | _ => rw [hgo] at this; exact this.elim
      · have := h w₁ h₁
        rw [hgo, goes_go] at this
        exact ih this.2

/-- One walk behind another. -/
theorem GW.then {a : Goroutine} {w : World} (h : GW P D Stop a w) (hn : ∀ a w, Stop a w → GW P D Stop' a w) : GW P D Stop' a w := by
  induction h with
  | stop h => exact hn _ _ (h _ (atRel_refl _))
  | step hs h _ ih => exact .step hs h ih

theorem GW.mono {D' : World → World → Array Event → Prop} {a : Goroutine} {w : World} (h : GW P D Stop a w) (hd : ∀ w w' es, D w w' es → D' w w' es) (hst : ∀ a w, Stop a w → Stop' a w) : GW P D' Stop' a w := by
  induction h with
  | stop h => exact .stop fun w₁ h₁ => hst _ _ (h w₁ h₁)
  | step hs h _ ih => exact .step hs (fun w₁ h₁ => let ⟨a', w', es, h1, h2⟩ := h w₁ h₁; ⟨a', w', es, h1, hd _ _ _ h2⟩) ih
end

/-- What is asked of a step: the heap does not shrink; what is listed lies in it, and no shunned place is touched plainly. -/
def DGrow (Shun : Loc → Prop) (w w' : World) (es : Array Event) : Prop := w.heap.size ≤ w'.heap.size ∧ ∀ e ∈ es, EvL Shun w'.heap.size e

section
variable {P : Program} {Shun : Loc → Prop} {Stop : Goroutine → World → Prop}

theorem own_of {g : Nat} {fn : FuncId} {pos : String} {es : Array Event} {op : MemOp} (h : op ∈ MemOp.ofEvents g fn pos es) : op.g = g := by
  rw [ofEvents_eq] at h
  obtain ⟨e, _, rfl⟩ := Array.mem_map.1 h
  rfl

theorem leavers_step {t u : Trace} {gs : Array Goroutine} {q : Nat → Nat} {a a' : Goroutine} {w' : World} (hL : Leavers P t gs q) (hu : ∀ op ∈ u, op.g = 0) (hlt : 0 < gs.size) : Leavers P (t ++ u) ((gs.map (woken P a a' w')).setIfInBounds 0 a') q := by
  refine ⟨fun j x hj hx => ?_, fun j hj => ?_⟩
  · have hne : 0 ≠ j := by omega
    rw [Array.getElem?_setIfInBounds_ne hne, Array.getElem?_map] at hx
    obtain ⟨y, hy, rfl⟩ := Option.map_eq_some_iff.1 hx
    have hq := hL.old j y hj hy
    rw [woken_quitsD hq, Deaf_other t (by omega) _ hu]
    exact hq
  · rw [Deaf_other t (g' := 0) (by simp at hj; omega) _ hu]
    exact hL.above j (by simpa using hj)

theorem leavers_slip {t u : Trace} {gs : Array Goroutine} {q : Nat → Nat} {i k : Nat} {g g' : Goroutine} {w : World} {es : Array Event} {fn : FuncId} {pos : String} (hL : Leavers P t gs q) (hu : u = MemOp.ofEvents i fn pos es) (hpos : 0 < i) (hlt : i < gs.size)
    (hq' : QuitsD P k (deafBehind (Deaf t i) es) g') : Leavers P (t ++ u) ((gs.map (woken P g g' w)).setIfInBounds i g') (upd q i k) := by
  subst hu
  refine ⟨fun j x hj hx => ?_, fun j hj => ?_⟩
  · by_cases hji : i = j
    · subst hji
      rw [Array.getElem?_setIfInBounds_self_of_lt (by simpa using hlt)] at hx
      obtain rfl := Option.some.inj hx
      rw [upd_same, Deaf_own]
      exact hq'
    · rw [Array.getElem?_setIfInBounds_ne hji, Array.getElem?_map] at hx
      obtain ⟨y, hy, rfl⟩ := Option.map_eq_some_iff.1 hx
      have hqj := hL.old j y hj hy
      rw [woken_quitsD hqj, upd_ne q k (Ne.symm hji), Deaf_other t hji _ (fun _ hop => own_of hop)]
      exact hqj
  · rw [Deaf_other t (g' := i) (by simp at hj; omega) _ (fun _ hop => own_of hop)]
    exact hL.above j (by simpa using hj)

theorem awake_all {t : Trace} {gs : Array Goroutine} {q : Nat → Nat} {a : Goroutine} (h0 : gs[0]? = some a) (hL : Leavers P t gs q) (hrun : a.status = .running) : ∀ g ∈ gs, awake g := by
  intro g hg
  obtain ⟨i, hi, rfl⟩ := Array.mem_iff_getElem.1 hg
  rcases Nat.eq_zero_or_pos i with rfl | hpos
  · have : gs[0] = a := by simpa [Array.getElem?_eq_getElem hi] using h0
    rw [this]; exact awake_of (.inl hrun)
  · exact awake_of ((hL.old i _ hpos (Array.getElem?_eq_getElem hi)).status.elim .inl fun x => .inr (.inr x))

theorem at_heap (w : World) (d : Nat) : (w.at d).heap = w.heap := rfl

/-- THE WALK BESIDE LEAVERS, ON WHATEVER TAPE. -/
theorem gw_beside {a : Goroutine} {w : World} (h : GW P (DGrow Shun) Stop a w) :
    ∀ (gs : Array Goroutine) (sl : Option (Nat × Nat)) (t : Trace) (q : Nat → Nat), gs[0]? = some a → Leavers P t gs q → Past Shun w.heap.size t →
      ∃ (N : Nat) (gs' : Array Goroutine) (a' : Goroutine) (w' : World) (sl' : Option (Nat × Nat)) (t' : Trace) (q' : Nat → Nat),
        runNT P N (crowd gs w sl) t = (.next (crowd gs' w' sl'), t') ∧ gs'.size = gs.size ∧ gs'[0]? = some a' ∧ Stop a' w' ∧ Leavers P t' gs' q' ∧ Past Shun w'.heap.size t' := by
  induction h with
  | @stop a w h => exact fun gs sl t q h0 hL hP => ⟨0, gs, a, w, sl, t, q, rfl, rfl, h0, h w (atRel_refl w), hL, hP⟩
  | @step a w hs hgo0 _ ih =>
    have key : ∀ (M : Nat) (gs : Array Goroutine) (w₁ : World) (sl : Option (Nat × Nat)) (t : Trace) (q : Nat → Nat), AtRel w w₁ → sumTo gs.size q ≤ M → gs[0]? = some a → Leavers P t gs q → Past Shun w.heap.size t →
        ∃ (N : Nat) (gs' : Array Goroutine) (a' : Goroutine) (w' : World) (sl' : Option (Nat × Nat)) (t' : Trace) (q' : Nat → Nat),
          runNT P N (crowd gs w₁ sl) t = (.next (crowd gs' w' sl'), t') ∧ gs'.size = gs.size ∧ gs'[0]? = some a' ∧ Stop a' w' ∧ Leavers P t' gs' q' ∧ Past Shun w'.heap.size t' := by
      intro M
      induction M with
      | zero =>
        intro gs w₁ sl t q hr hM h0 hL hP
        obtain ⟨i, g, d, sl', hi, hg, hst⟩ := crowd_pick (P := P) (w := w₁) (sl := sl) (awake_all h0 hL hs) ⟨0, a, h0, hs⟩
        rcases Nat.eq_zero_or_pos i with rfl | hpos
        · obtain rfl : g = a := by rw [h0] at hi; exact (Option.some.inj hi).symm
          obtain ⟨a', w', es, hgo, hd⟩ := hgo0 (w₁.at d) (atRel_trans _ _ _ hr ⟨d, rfl⟩)
          have hn := ih (w₁.at d) a' w' es (atRel_trans _ _ _ hr ⟨d, rfl⟩) hgo
          have hrunT := runT_crowd_go (P := P) (sl := sl') (i := 0) hi (show stepG P (0 == 0) g (w₁.at d) = _ from hgo)
          have hlt : 0 < gs.size := (Array.getElem?_eq_some_iff.1 h0).1
          have hsz : (w₁.at d).heap.size = w.heap.size := by obtain ⟨d', rfl⟩ := hr; rfl
          obtain ⟨N, gs', a'', w'', sl'', t', q', hr', hs', h0', hS, hL', hP'⟩ := hn ((gs.map (woken P g a' w')).setIfInBounds 0 a') sl' (t ++ MemOp.ofEvents 0 g.frame.fn g.frame.place es) q (by simp [hlt])
            (leavers_step hL (fun _ hop => own_of hop) hlt) ((hP.mono (by have := hd.1; omega)).own hd.2)
          exact ⟨N + 1, gs', a'', w'', sl'', t', q', by simp only [runNT, hst, hrunT]; exact hr', by simpa using hs', h0', hS, hL', hP'⟩
        · have hlt : i < gs.size := (Array.getElem?_eq_some_iff.1 hi).1
          have hq := hL.old i g hpos hi
          have hz : q i = 0 := by
            have h3 : sumTo gs.size (upd q i 0) + q i = sumTo gs.size q + 0 := by simpa using sumTo_upd q 0 id hlt
            omega
          rw [hz] at hq
          rw [hq.1] at hg; cases hg
      | succ M ihM =>
        intro gs w₁ sl t q hr hM h0 hL hP
        obtain ⟨i, g, d, sl', hi, hg, hst⟩ := crowd_pick (P := P) (w := w₁) (sl := sl) (awake_all h0 hL hs) ⟨0, a, h0, hs⟩
        rcases Nat.eq_zero_or_pos i with rfl | hpos
        · obtain rfl : g = a := by rw [h0] at hi; exact (Option.some.inj hi).symm
          obtain ⟨a', w', es, hgo, hd⟩ := hgo0 (w₁.at d) (atRel_trans _ _ _ hr ⟨d, rfl⟩)
          have hn := ih (w₁.at d) a' w' es (atRel_trans _ _ _ hr ⟨d, rfl⟩) hgo
          have hrunT := runT_crowd_go (P := P) (sl := sl') (i := 0) hi (show stepG P (0 == 0) g (w₁.at d) = _ from hgo)
          have hlt : 0 < gs.size := (Array.getElem?_eq_some_iff.1 h0).1
          have hsz : (w₁.at d).heap.size = w.heap.size := by obtain ⟨d', rfl⟩ := hr; rfl
          obtain ⟨N, gs', a'', w'', sl'', t', q', hr', hs', h0', hS, hL', hP'⟩ := hn ((gs.map (woken P g a' w')).setIfInBounds 0 a') sl' (t ++ MemOp.ofEvents 0 g.frame.fn g.frame.place es) q (by simp [hlt])
            (leavers_step hL (fun _ hop => own_of hop) hlt) ((hP.mono (by have := hd.1; omega)).own hd.2)
          exact ⟨N + 1, gs', a'', w'', sl'', t', q', by simp only [runNT, hst, hrunT]; exact hr', by simpa using hs', h0', hS, hL', hP'⟩
        · have hlt : i < gs.size := (Array.getElem?_eq_some_iff.1 hi).1
          have hi0 : (i == 0) = false := by simp; omega
          have hq := hL.old i g hpos hi
          cases hqi : q i with
          | zero => rw [hqi] at hq; rw [hq.1] at hg; cases hg
          | succ k =>
            rw [hqi] at hq
            rcases hq with ⟨hf, _⟩ | ⟨_, g', es, hm, hstp, hq'⟩
            · rw [hf] at hg; cases hg
            have hrunT := runT_crowd_go (P := P) (sl := sl') (i := i) hi (by rw [hi0]; exact hstp (w₁.at d))
            have hsz : ((gs.map (woken P g g' (w₁.at d))).setIfInBounds i g').size = gs.size := by simp
            have hsum : sumTo gs.size (upd q i k) + (k + 1) = sumTo gs.size q + k := by
              have := sumTo_upd q k id hlt
              simpa [hqi] using this
            obtain ⟨N, gs', a'', w'', sl'', t', q', hr', hs', h0', hS, hL', hP'⟩ := ihM ((gs.map (woken P g g' (w₁.at d))).setIfInBounds i g') (w₁.at d) sl' (t ++ MemOp.ofEvents i g.frame.fn g.frame.place es) (upd q i k) (atRel_trans _ _ _ hr ⟨d, rfl⟩) (by rw [hsz]; omega)
              (by
                have hne : i ≠ 0 := by omega
                rw [Array.getElem?_setIfInBounds_ne hne, Array.getElem?_map, h0]
                simp [woken_run hs])
              (leavers_slip hL rfl hpos hlt hq') (hP.mute (by omega) hm)
            exact ⟨N + 1, gs', a'', w'', sl'', t', q', by simp only [runNT, hst, hrunT]; exact hr', hs'.trans hsz, h0', hS, hL', hP'⟩
    exact fun gs sl t q h0 hL hP => key _ gs w sl t q (atRel_refl w) (Nat.le_refl _) h0 hL hP

end
end Pool
end Go.Proofs.Ytjehmdhcccmihaa
/-
  FROM A RUN THAT COMES TO ITS STOP ON EACH TAPE to a walk that comes to it whatever is drawn at each step: were there none, the ways on which it fails would put one tape together on which the run never stops.
-/
namespace Go.Proofs.Ytjehmdhcccmihaa
open Go.Conc
namespace Lift
section
variable {P : Program} {E : Gate} {L X : List FuncId} {α β : Type}
def as (w : World) (T : Nat → Question → Nat) : World := { w with tape := T }
def Past (w : World) (T : Nat → Question → Nat) : Prop := ∀ i q, i < w.drawn → T i q = w.tape i q
def Pend (B : Nat → Prop) (w : World) : Prop := ∀ b, B b → ∃ arr ty, w.heap[b]? = some (.pending arr ty)
theorem as_as (w : World) (T T' : Nat → Question → Nat) : as (as w T) T' = as w T' := rfl
theorem as_self (w : World) : as w w.tape = w := rfl
theorem world_ext {w w' : World} (h1 : w.heap = w'.heap) (h2 : w.tape = w'.tape) (h3 : w.drawn = w'.drawn) (h4 : w.os = w'.os) (h5 : w.output = w'.output) : w = w' := by
  cases w; cases w'; simp only at *; subst h1 h2 h3 h4 h5; rfl
theorem rel_as {B : Nat → Prop} {b : Nat} {w : World} (hB : Pend B w) {T : Nat → Question → Nat} (hT : ∀ i q, i < b → T i q = w.tape i q) : Rel ⟨B, b, 0, 0⟩ w (as w T) :=
  ⟨rfl, rfl, fun i q hi => (hT _ q hi).symm, rfl, rfl, fun _ _ => rfl, fun k hk => let ⟨arr, ty, h⟩ := hB k hk; ⟨arr, ty, h, .inl rfl⟩⟩
theorem moved_as {B : Nat → Prop} {b : Nat} {w w' wc' : World} {T : Nat → Question → Nat} {es : Array Event} (hB : Pend B w) (h : Moved ⟨B, b, 0, 0⟩ (as w T) w' wc' es) : wc' = as w' T ∧ Pend B w' := by
  refine ⟨world_ext ?_ h.ctape (by have := h.rel.drawn; simp only [Nat.add_zero] at this; exact this.symm) h.rel.os.symm h.rel.output.symm, fun k hk => let ⟨arr, ty, h1, _⟩ := h.rel.shut k hk; ⟨arr, ty, h1⟩⟩
  refine Array.ext_getElem? fun i => ?_
  by_cases hi : B i
  · obtain ⟨arr, ty, h1, h2⟩ := h.rel.shut i hi
    obtain ⟨arr0, ty0, h0⟩ := hB i hi
    have hk : wc'.heap[i]? = w.heap[i]? := h.kept i hi
    rcases h2 with h2 | ⟨arr', ty', h2, _⟩
    · exact h2
    · exfalso
      rw [hk, h0] at h2
      cases h2
  · exact (h.rel.same i hi).symm
theorem go_inj {fr fr' : Frame} {Y Y' Z : List Frame} {w w' : World} {es es' : Array Event} (h : GStep.go (G fr (Y ++ Z)) w es = .go (G fr' (Y' ++ Z)) w' es') : fr = fr' ∧ Y = Y' ∧ w = w' := by
  injection h with h1 h2 h3
  injection h1 with h4 h5
  exact ⟨h4, List.append_cancel_right h5, h2⟩
theorem out_step {fr : Frame} (hF : FitF P L X fr) (hm : fr.mode = .returning) (w : World) : (∃ v w' es, stepG P true (G fr ([] ++ [door P])) w = .go (G ((door P).finish v) []) w' es) ∨ ∃ o w' es, stepG P true (G fr ([] ++ [door P])) w = .ended o w' es := by
  obtain ⟨fn, tmps, todo, defers, mode, kind, roundOf⟩ := fr
  obtain ⟨ht, hd, hk, hr, _, f, hfn⟩ := hF
  dsimp only at *
  subst hd hk hr hm
  simp only [stepG, G, unwind, hfn, List.nil_append, doReturn]
  cases hr : (results f tmps).runT P w #[] with
  | mk r es1 =>
    dsimp only
    cases r with
    | halt hh w => cases hh <;> exact .inr ⟨_, _, _, rfl⟩
    | ok v w' => exact .inl ⟨v, w', _, rfl⟩
/-- a step of plain code hangs on what it drew alone -/
theorem same_step (K : Closed P L X) {fr fr' : Frame} {Y Y' : List Frame} (hF : FitF P L X fr) (hY : FitX P L X Y) (hns : fr.mode = .returning → Y ≠ []) {B : Nat → Prop} {w w' : World} (hB : Pend B w) (hF' : FitF P L X fr') {es : Array Event}
    (hs : stepG P true (G fr (Y ++ [door P])) w = .go (G fr' (Y' ++ [door P])) w' es) {T : Nat → Question → Nat} (hT : ∀ i q, i < w'.drawn → T i q = w.tape i q) :
    (∃ es', stepG P true (G fr (Y ++ [door P])) (as w T) = .go (G fr' (Y' ++ [door P])) (as w' T) es') ∧ FitX P L X Y' ∧ Pend B w' ∧ w.drawn ≤ w'.drawn := by
  rcases step_fit K hF hY hns (rel_as (b := w'.drawn) hB hT) (Z1 := [door P]) (Z2 := [door P]) with ⟨fr1, Y1, w1, es1, h1, h2, h3, h4, h5⟩ | ⟨g', w1, es1, h1, h2⟩ | ⟨o, w1, es1, h1⟩
  · rw [hs] at h1
    obtain ⟨rfl, rfl, rfl⟩ := go_inj h1
    obtain ⟨wc', es2, h6, h7⟩ := h5 (Nat.le_refl _)
    obtain ⟨rfl, h8⟩ := moved_as hB h7
    exact ⟨⟨es2, h6⟩, h3, h8, h4⟩
  · rw [hs] at h1
    injection h1 with h3
    subst h3
    exact absurd (.doomed h2) (fit_alive hF' hF'.fn)
  · rw [hs] at h1
    cases h1
theorem same_tape (K : Closed P L X) {fr fr' : Frame} {Y Y' : List Frame} (hF : FitF P L X fr) (hY : FitX P L X Y) (hns : fr.mode = .returning → Y ≠ []) {B : Nat → Prop} {w w' : World} (hB : Pend B w) (hF' : FitF P L X fr') {es : Array Event}
    (hs : stepG P true (G fr (Y ++ [door P])) w = .go (G fr' (Y' ++ [door P])) w' es) : w'.tape = w.tape := by
  obtain ⟨⟨es', h⟩, _⟩ := same_step K hF hY hns hB hF' hs (T := w.tape) fun _ _ _ => rfl
  rw [as_self, hs] at h
  obtain ⟨_, _, h⟩ := go_inj h
  rw [h]
  rfl

/-- whatever is drawn, on its way to a stop -/
inductive LGW (P : Program) (L X : List FuncId) (Stop : Frame → List Frame → World → Prop) : Frame → List Frame → World → Prop
  | stop {fr : Frame} {Y : List Frame} {w : World} (h : Stop fr Y w) : LGW P L X Stop fr Y w
  | step {fr : Frame} {Y : List Frame} {w : World} (hns : fr.mode = .returning → Y ≠ [])
      (h : ∀ T, Past w T → ∃ fr' Y' w' es, stepG P true (G fr (Y ++ [door P])) (as w T) = .go (G fr' (Y' ++ [door P])) w' es ∧ FitF P L X fr' ∧ FitX P L X Y')
      (hn : ∀ T fr' Y' w' es, Past w T → stepG P true (G fr (Y ++ [door P])) (as w T) = .go (G fr' (Y' ++ [door P])) w' es → FitF P L X fr' → LGW P L X Stop fr' Y' w') : LGW P L X Stop fr Y w
def Good (P : Program) (Stop : Frame → List Frame → World → Prop) (fr : Frame) (Y : List Frame) (w : World) : Prop :=
  ∀ T, Past w T → ∃ N fr' Y' w', runN P N (one (G fr (Y ++ [door P])) (as w T)) = .next (one (G fr' (Y' ++ [door P])) w') ∧ Stop fr' Y' w'
structure Ends (P : Program) (L X : List FuncId) (Stop : Frame → List Frame → World → Prop) : Prop where
  fit : ∀ {fr Y w}, Stop fr Y w → FitF P L X fr
  as : ∀ {fr Y w}, Stop fr Y w → ∀ T, Stop fr Y (as w T)
theorem one_inj {g g' : Goroutine} {w w' : World} (h : Stepped.next (one g w) = .next (one g' w')) : g = g' ∧ w = w' := by
  injection h with h
  simp only [one, Machine.mk.injEq] at h
  obtain ⟨h1, h2, _⟩ := h
  exact ⟨by simpa using h2, h1⟩
variable {Stop : Frame → List Frame → World → Prop}
theorem good_head (S : Ends P L X Stop) {fr : Frame} {Y : List Frame} {w : World} {T : Nat → Question → Nat} (hno : ¬ Stop fr Y w) {N : Nat} {fr' : Frame} {Y' : List Frame} {w' : World}
    (hr : runN P N (one (G fr (Y ++ [door P])) (as w T)) = .next (one (G fr' (Y' ++ [door P])) w')) (hS : Stop fr' Y' w') : ∃ M m, N = M + 1 ∧ step P (one (G fr (Y ++ [door P])) (as w T)) = .next m ∧ runN P M m = .next (one (G fr' (Y' ++ [door P])) w') := by
  cases N with
  | zero =>
    simp only [runN] at hr
    obtain ⟨h1, h2⟩ := one_inj hr
    injection h1 with h3 h4
    obtain rfl := h3
    obtain rfl := List.append_cancel_right h4
    subst h2
    have := S.as hS w.tape
    rw [as_as, as_self] at this
    exact absurd this hno
  | succ M =>
    simp only [runN] at hr
    cases hs : step P (one (G fr (Y ++ [door P])) (as w T)) with
    | next m => rw [hs] at hr; exact ⟨M, m, rfl, rfl, hr⟩
    | ended o w1 => rw [hs] at hr; cases hr
theorem good_step (K : Closed P L X) (S : Ends P L X Stop) {fr : Frame} {Y : List Frame} {w : World} (hF : FitF P L X fr) (hY : FitX P L X Y) {B : Nat → Prop} (hB : Pend B w) (hG : Good P Stop fr Y w) (hno : ¬ Stop fr Y w) :
    (fr.mode = .returning → Y ≠ []) ∧ ∀ T, Past w T → ∃ fr' Y' w' es, stepG P true (G fr (Y ++ [door P])) (as w T) = .go (G fr' (Y' ++ [door P])) w' es ∧ FitF P L X fr' ∧ FitX P L X Y' := by
  have hns : fr.mode = .returning → Y ≠ [] := by
    rintro hm rfl
    obtain ⟨N, fr', Y', w', hr, hS⟩ := hG w.tape fun _ _ _ => rfl
    obtain ⟨M, m, rfl, hs, hr⟩ := good_head S hno hr hS
    rcases out_step hF hm (as w w.tape) with ⟨v, w1, es, h1⟩ | ⟨o, w1, es, h1⟩
    · rw [step_one_go rfl h1] at hs
      cases hs
      obtain ⟨g2, w2, h2, h3⟩ := dead_run M .back hr
      obtain ⟨rfl, rfl⟩ := one_inj (congrArg Stepped.next h2)
      exact fit_alive (S.fit hS) (S.fit hS).fn h3
    · rw [step_one_ended rfl h1] at hs
      cases hs
  refine ⟨hns, fun T hT => ?_⟩
  obtain ⟨N, fr', Y', w', hr, hS⟩ := hG T hT
  obtain ⟨M, m, rfl, hs, hr⟩ := good_head S hno hr hS
  have hBT : Pend B (as w T) := hB
  rcases step_fit K hF hY hns (rel_as (b := 0) (T := T) hBT fun _ _ hi => absurd hi (Nat.not_lt_zero _)) (Z1 := [door P]) (Z2 := [door P]) with ⟨fr1, Y1, w1, es1, h1, h2, h3, _⟩ | ⟨g', w1, es1, h1, h2⟩ | ⟨o, w1, es1, h1⟩
  · exact ⟨fr1, Y1, w1, es1, h1, h2, h3⟩
  · rw [step_one_go rfl h1] at hs
    cases hs
    obtain ⟨g2, w2, h4, h5⟩ := dead_run M (.doomed h2) hr
    obtain ⟨rfl, rfl⟩ := one_inj (congrArg Stepped.next h4)
    exact absurd h5 (fit_alive (S.fit hS) (S.fit hS).fn)
  · rw [step_one_ended rfl h1] at hs
    cases hs
theorem good_next (K : Closed P L X) (S : Ends P L X Stop) {fr fr' : Frame} {Y Y' : List Frame} {w w' : World} (hF : FitF P L X fr) (hY : FitX P L X Y) {B : Nat → Prop} (hB : Pend B w) (hG : Good P Stop fr Y w) (hno : ¬ Stop fr Y w) (hns : fr.mode = .returning → Y ≠ [])
    {T : Nat → Question → Nat} (hT : Past w T) (hF' : FitF P L X fr') {es : Array Event} (hs : stepG P true (G fr (Y ++ [door P])) (as w T) = .go (G fr' (Y' ++ [door P])) w' es) : Good P Stop fr' Y' w' := by
  intro T' hT'
  have htape : w'.tape = T := same_tape K hF hY hns (B := B) (w := as w T) hB hF' hs
  obtain ⟨⟨es', h1⟩, _, _, hd⟩ := same_step K hF hY hns (B := B) (w := as w T) hB hF' hs (T := T') fun i q hi => by rw [hT' i q hi, htape]; rfl
  rw [as_as] at h1
  have hP : Past w T' := fun i q hi => by
    rw [hT' i q (Nat.lt_of_lt_of_le hi hd), htape]
    exact hT i q hi
  obtain ⟨N, fr2, Y2, w2, hr, hS⟩ := hG T' hP
  obtain ⟨M, m, rfl, hst, hr⟩ := good_head S hno hr hS
  rw [step_one_go rfl h1] at hst
  cases hst
  exact ⟨M, fr2, Y2, w2, hr, hS⟩
structure Bad (P : Program) (L X : List FuncId) (B : Nat → Prop) (Stop : Frame → List Frame → World → Prop) where
  fr : Frame
  Y : List Frame
  w : World
  fit : FitF P L X fr
  fitX : FitX P L X Y
  pend : Pend B w
  good : Good P Stop fr Y w
  bad : ¬ LGW P L X Stop fr Y w
variable {B : Nat → Prop}
theorem bad_next (K : Closed P L X) (S : Ends P L X Stop) (s : Bad P L X B Stop) : ∃ (s' : Bad P L X B Stop) (T : Nat → Question → Nat) (es : Array Event), Past s.w T ∧ stepG P true (G s.fr (s.Y ++ [door P])) (as s.w T) = .go (G s'.fr (s'.Y ++ [door P])) s'.w es ∧ (s.fr.mode = .returning → s.Y ≠ []) := by
  have hno : ¬ Stop s.fr s.Y s.w := fun h => s.bad (.stop h)
  obtain ⟨hns, h⟩ := good_step K S s.fit s.fitX s.pend s.good hno
  have hn : ¬ ∀ T fr' Y' w' es, Past s.w T → stepG P true (G s.fr (s.Y ++ [door P])) (as s.w T) = .go (G fr' (Y' ++ [door P])) w' es → FitF P L X fr' → LGW P L X Stop fr' Y' w' := fun hn => s.bad (.step hns h hn)
  simp only [Classical.not_forall] at hn
  obtain ⟨T, fr', Y', w', es, hT, hs, hF', hb⟩ := hn
  obtain ⟨_, hY', hB', _⟩ := same_step K s.fit s.fitX hns (B := B) (w := as s.w T) s.pend hF' hs (T := T) fun _ _ _ => rfl
  exact ⟨⟨fr', Y', w', hF', hY', hB', good_next K S s.fit s.fitX s.pend s.good hno hns hT hF' hs, hb⟩, T, es, hT, hs, hns⟩
/-- THE BAR. -/
theorem bar (K : Closed P L X) (S : Ends P L X Stop) {fr : Frame} {Y : List Frame} {w : World} (hF : FitF P L X fr) (hY : FitX P L X Y) (hB : Pend B w) (hG : Good P Stop fr Y w) : LGW P L X Stop fr Y w := by
  refine Classical.byContradiction fun hbad => ?_
  let s0 : Bad P L X B Stop := ⟨fr, Y, w, hF, hY, hB, hG, hbad⟩
  let f : Nat → Bad P L X B Stop := fun n => Nat.rec s0 (fun _ s => (bad_next K S s).choose) n
  have hf : ∀ n, ∃ (T : Nat → Question → Nat) (es : Array Event), Past (f n).w T ∧ stepG P true (G (f n).fr ((f n).Y ++ [door P])) (as (f n).w T) = .go (G (f (n + 1)).fr ((f (n + 1)).Y ++ [door P])) (f (n + 1)).w es ∧ ((f n).fr.mode = .returning → (f n).Y ≠ []) := fun n => (bad_next K S (f n)).choose_spec
  have hstep : ∀ n, (f n).w.drawn ≤ (f (n + 1)).w.drawn ∧ ∀ i q, i < (f n).w.drawn → (f (n + 1)).w.tape i q = (f n).w.tape i q := fun n => by
    obtain ⟨T, es, hT, hs, hns⟩ := hf n
    obtain ⟨_, _, _, hd⟩ := same_step K (f n).fit (f n).fitX hns (B := B) (w := as (f n).w T) (f n).pend (f (n + 1)).fit hs (T := T) fun _ _ _ => rfl
    have ht := same_tape K (f n).fit (f n).fitX hns (B := B) (w := as (f n).w T) (f n).pend (f (n + 1)).fit hs
    exact ⟨hd, fun i q hi => by rw [ht]; exact hT i q hi⟩
  have hmono : ∀ n k, (f n).w.drawn ≤ (f (n + k)).w.drawn ∧ ∀ i q, i < (f n).w.drawn → (f (n + k)).w.tape i q = (f n).w.tape i q := fun n k => by
    induction k with
    | zero => exact ⟨Nat.le_refl _, fun _ _ _ => rfl⟩
    | succ k ih =>
      obtain ⟨h1, h2⟩ := hstep (n + k)
      exact ⟨Nat.le_trans ih.1 h1, fun i q hi => (h2 i q (Nat.lt_of_lt_of_le hi ih.1)).trans (ih.2 i q hi)⟩
  have hagree : ∀ n m i q, i < (f n).w.drawn → i < (f m).w.drawn → (f n).w.tape i q = (f m).w.tape i q := fun n m i q h1 h2 => by
    rcases Nat.le_total n m with h | h
    · obtain ⟨k, rfl⟩ := Nat.exists_eq_add_of_le h
      exact ((hmono n k).2 i q h1).symm
    · obtain ⟨k, rfl⟩ := Nat.exists_eq_add_of_le h
      exact (hmono m k).2 i q h2
  let TT : Nat → Question → Nat := fun i q => open Classical in if h : ∃ j, i < (f j).w.drawn then (f h.choose).w.tape i q else 0
  have hTT : ∀ n i q, i < (f n).w.drawn → TT i q = (f n).w.tape i q := fun n i q hi => by
    have h : ∃ j, i < (f j).w.drawn := ⟨n, hi⟩
    have e : TT i q = (f h.choose).w.tape i q := dif_pos h
    rw [e]
    exact hagree _ _ i q h.choose_spec hi
  have hrun : ∀ n, runN P n (one (G (f 0).fr ((f 0).Y ++ [door P])) (as (f 0).w TT)) = .next (one (G (f n).fr ((f n).Y ++ [door P])) (as (f n).w TT)) := fun n => by
    induction n with
    | zero => rfl
    | succ n ih =>
      rw [runN_add, ih]
      dsimp only
      obtain ⟨T, es, hT, hs, hns⟩ := hf n
      have ht := same_tape K (f n).fit (f n).fitX hns (B := B) (w := as (f n).w T) (f n).pend (f (n + 1)).fit hs
      obtain ⟨⟨es', h1⟩, _⟩ := same_step K (f n).fit (f n).fitX hns (B := B) (w := as (f n).w T) (f n).pend (f (n + 1)).fit hs (T := TT) fun i q hi => by rw [hTT (n + 1) i q hi, ht]
      rw [as_as] at h1
      simp only [runN, step_one_go rfl h1]
  obtain ⟨N, fr', Y', w', hr, hS⟩ := hG TT fun i q hi => hTT 0 i q hi
  have hr2 := hrun N
  have e0 : one (G (f 0).fr ((f 0).Y ++ [door P])) (as (f 0).w TT) = one (G fr (Y ++ [door P])) (as w TT) := rfl
  rw [e0, hr] at hr2
  obtain ⟨h1, h2⟩ := one_inj hr2
  injection h1 with h3 h4
  have h5 := List.append_cancel_right h4
  subst h2
  rw [h3, h5] at hS
  have := S.as hS (f N).w.tape
  rw [as_as, as_self] at this
  exact (f N).bad (.stop this)
/-- the world with the blocks B shut beside the true one, tapes aside -/
def RelH (B : Nat → Prop) (wl wc : World) : Prop := Rel ⟨B, 0, wl.drawn, wc.drawn⟩ wl wc
theorem Rel.relH {E : Gate} {wl wc : World} (h : Rel E wl wc) : RelH E.block wl wc :=
  ⟨h.os, h.output, fun _ _ hi => absurd hi (Nat.not_lt_zero _), Nat.add_comm _ _, h.size, h.same, h.shut⟩
/-- FROM THE LONE WORLD TO THE COMPANY. -/
theorem gw_of_lgw (K : Closed P L X) {D : World → World → Array Event → Prop} (hD : ∀ E wc wl' wc' es, E.block = B → Moved E wc wl' wc' es → D wc wc' es) {Z : List Frame} {fr : Frame} {Y : List Frame} {wl : World} (hL : LGW P L X Stop fr Y wl) :
    FitF P L X fr → FitX P L X Y → ∀ wc, RelH B wl wc → Pool.GW P D (fun a w => ∃ fr Y wl, a = G fr (Y ++ Z) ∧ Stop fr Y wl ∧ RelH B wl w) (G fr (Y ++ Z)) wc := by
  induction hL with
  | @stop fr Y wl h =>
    intro hF hY wc hr
    refine .stop fun w1 hw1 => ?_
    obtain ⟨d, rfl⟩ := hw1
    exact ⟨fr, Y, wl, rfl, h, hr.os, hr.output, fun _ _ hi => absurd hi (Nat.not_lt_zero _), Nat.add_comm _ _, hr.size, hr.same, hr.shut⟩
  | @step fr Y wl hns h hn ih =>
    intro hF hY wc hr
    have key : ∀ w1, AtRel wc w1 → ∃ T fr' Y' wl' es1 wc' es E, E.block = B ∧ Past wl T ∧ stepG P true (G fr (Y ++ [door P])) (as wl T) = .go (G fr' (Y' ++ [door P])) wl' es1 ∧ FitF P L X fr' ∧ FitX P L X Y' ∧ stepG P true (G fr (Y ++ Z)) w1 = .go (G fr' (Y' ++ Z)) wc' es ∧ Moved E w1 wl' wc' es := by
      rintro w1 ⟨d, rfl⟩
      let T : Nat → Question → Nat := fun i q => if i < wl.drawn then wl.tape i q else (wc.at d).tape (i - wl.drawn + (wc.at d).drawn) q
      have hT : Past wl T := fun i q hi => if_pos hi
      obtain ⟨fr', Y', wl', es1, h1, h2, h3⟩ := h T hT
      let E : Gate := ⟨B, wl'.drawn, wl.drawn, (wc.at d).drawn⟩
      have hrel : Rel E (as wl T) (wc.at d) := ⟨hr.os, hr.output, fun i q _ => by
        show (if wl.drawn + i < wl.drawn then wl.tape (wl.drawn + i) q else (wc.at d).tape (wl.drawn + i - wl.drawn + (wc.at d).drawn) q) = (wc.at d).tape ((wc.at d).drawn + i) q
        rw [if_neg (by omega), Nat.add_sub_cancel_left, Nat.add_comm], Nat.add_comm _ _, hr.size, hr.same, hr.shut⟩
      rcases step_fit K hF hY hns hrel (Z1 := [door P]) (Z2 := Z) with ⟨fr2, Y2, w2, es2, k1, k2, k3, _, k5⟩ | ⟨g', w2, es2, k1, k2⟩ | ⟨o, w2, es2, k1⟩
      · rw [h1] at k1
        obtain ⟨rfl, rfl, rfl⟩ := go_inj k1
        obtain ⟨wc', es, k6, k7⟩ := k5 (Nat.le_refl _)
        exact ⟨T, fr', Y', wl', es1, wc', es, E, rfl, hT, h1, h2, h3, k6, k7⟩
      · rw [h1] at k1
        injection k1 with k3
        subst k3
        exact absurd (.doomed k2) (fit_alive h2 h2.fn)
      · rw [h1] at k1
        cases k1
    refine .step rfl (fun w1 h1 => ?_) (fun w1 a' w' es h1 hgo => ?_)
    · obtain ⟨T, fr', Y', wl', es1, wc', es, E, hE, _, _, _, _, h6, h7⟩ := key w1 h1
      exact ⟨_, wc', es, h6, hD E w1 wl' wc' es hE h7⟩
    · obtain ⟨T, fr', Y', wl', es1, wc', es2, E, hE, hT, h2, h3, h4, h6, h7⟩ := key w1 h1
      rw [hgo] at h6
      injection h6 with h8 h9
      subst h8 h9
      have := h7.rel.relH
      rw [hE] at this
      exact ih T fr' Y' wl' es1 hT h2 h3 h3 h4 _ this
end
end Lift
end Go.Proofs.Ytjehmdhcccmihaa
/-
  THE LIFT, put together: a run in the world with one block shut, that comes to its end on each tape, is a walk beside leavers in the true world.
-/
namespace Go.Proofs.Ytjehmdhcccmihaa
open Go.Conc
namespace Lift
section
variable {P : Program} {L X : List FuncId}
/-- the cells of such blocks -/
def InB (B : Nat → Prop) (l : Loc) : Prop := ∃ a : Addr, l = .cell a ∧ B a.block
theorem evL_fine {E : Gate} {n : Nat} {e : Event} (h : FineEv E n e) : EvL (InB E.block) n e := by
  rcases h with ⟨a, wr, s, rfl, h1, h2⟩ | ⟨m, rfl, h1⟩ | ⟨r, wr, s, rfl, h1⟩
  · refine ⟨fun x hx hs => ?_, by simp, by simp, ?_⟩
    · rw [ofEvent_cell0] at hx
      simp only [MemAct.touch?, Option.some.injEq] at hx
      subst hx
      obtain ⟨b, hb, hb2⟩ := hs
      injection hb with hb
      subst hb
      exact absurd hb2 h1
    · rw [ofEvent_cell0]; exact h2
  · cases m <;> first | exact h1.elim | exact ⟨fun x hx => by simp [MemAct.ofEvent, MemAct.touch?] at hx, by simp, by simp, trivial⟩
  · refine ⟨fun x hx hs => ?_, by simp, by simp, ?_⟩
    · obtain ⟨b, hb, _⟩ := hs
      cases wr <;> cases s <;> simp [MemAct.ofEvent, MemAct.touch?] at hx <;> (subst hx; cases hb)
    · cases wr <;> cases s <;> exact h1
theorem dgrow_moved {B : Nat → Prop} (E : Gate) (wc wl' wc' : World) (es : Array Event) (hE : E.block = B) (h : Moved E wc wl' wc' es) : Pool.DGrow (InB B) wc wc' es := by
  subst hE
  exact ⟨h.size, fun e he => evL_fine (h.fine e he)⟩
/-- such an object, shut -/
def shutO : Obj → Obj
  | .cells arr ty _ => .pending arr ty
  | o => o
open Classical in
/-- the blocks B shut -/
noncomputable def shut (B : Nat → Prop) (w : World) : World := { w with heap := w.heap.mapIdx fun i o => if B i then shutO o else o }
/-- plain rows of cells lie there -/
def Stand (B : Nat → Prop) (w : World) : Prop := ∀ b, B b → ∃ arr ty, w.heap[b]? = some (.cells arr ty (0, 0)) ∧ arr.size ≠ 0
section
variable {B : Nat → Prop} {w : World}
theorem shut_size : (shut B w).heap.size = w.heap.size := by simp [shut]
theorem shut_far {k : Nat} (hk : ¬ B k) : (shut B w).heap[k]? = w.heap[k]? := by
  simp only [shut, Array.getElem?_mapIdx, if_neg hk]
  cases w.heap[k]? <;> rfl
theorem shut_at {b : Nat} (hb : B b) {arr : Array Value} {ty : TypeId} {f : Nat × Nat} (h : w.heap[b]? = some (.cells arr ty f)) : (shut B w).heap[b]? = some (.pending arr ty) := by
  simp only [shut, Array.getElem?_mapIdx, if_pos hb, h, Option.map_some, shutO]
theorem shut_rel (h : Stand B w) : RelH B (shut B w) w := by
  refine ⟨rfl, rfl, fun _ _ hi => absurd hi (Nat.not_lt_zero _), rfl, shut_size, fun b hb => shut_far hb, fun b hb => ?_⟩
  obtain ⟨arr, ty, h1, h0⟩ := h b hb
  exact ⟨arr, ty, shut_at hb h1, .inr ⟨arr, ty, h1, rfl, h0⟩⟩
theorem shut_pend (h : Stand B w) : Pend B (shut B w) := fun b hb => by
  obtain ⟨arr, ty, h1, _⟩ := h b hb
  exact ⟨arr, ty, shut_at hb h1⟩
end
/-- the last frame returns one value, of which R -/
def AtOut (P : Program) (L X : List FuncId) (R : Value → Prop) (fr : Frame) (Y : List Frame) (_ : World) : Prop :=
  FitF P L X fr ∧ Y = [] ∧ fr.mode = .returning ∧ P.inits.idxOf? fr.fn = none ∧ ∃ f t, P.funcs[fr.fn]? = some f ∧ f.results = #[.tmp t] ∧ R (fr.tmps.getD t undef)
theorem ends_out (R : Value → Prop) : Ends P L X (AtOut P L X R) := ⟨fun h => h.1, fun h _ => h⟩
/-- THE LIFT. -/
theorem lift_walk (K : Closed P L X) {Stop : Frame → List Frame → World → Prop} (S : Ends P L X Stop) {fr : Frame} {Y Z : List Frame} (hF : FitF P L X fr) (hY : FitX P L X Y) {B : Nat → Prop} {w : World}
    (h : Stand B w)
    (hrun : ∀ T, ∃ fr' Y' w', Steps P (lone fr (Y ++ [door P]) (as (shut B w) T)) (lone fr' (Y' ++ [door P]) w') ∧ Stop fr' Y' w') :
    Pool.GW P (Pool.DGrow (InB B)) (fun a w => ∃ fr Y wl, a = G fr (Y ++ Z) ∧ Stop fr Y wl ∧ RelH B wl w) (G fr (Y ++ Z)) w := by
  have hG : Good P Stop fr Y (shut B w) := fun T _ => by
    obtain ⟨fr', Y', w', ⟨N, hN⟩, hS⟩ := hrun T
    exact ⟨N, fr', Y', w', hN, hS⟩
  exact gw_of_lgw K (fun E wc wl' wc' es => dgrow_moved E wc wl' wc' es) (bar K S hF hY (shut_pend h) hG) hF hY w (shut_rel h)
theorem out_end {R : Value → Prop} {fr : Frame} {Y : List Frame} {wl : World} (h : AtOut P L X R fr Y wl) (B : Nat) (Shun : Loc → Prop) (w : World) : AtEnd P Shun B (fun v _ => R v) (G fr (Y ++ [])) w := by
  obtain ⟨hF, rfl, hm, hi, f, t, hf, hr, hR⟩ := h
  obtain ⟨fn, tmps, todo, defers, mode, kind, roundOf⟩ := fr
  obtain ⟨ht, hd, hk, hro, _, _⟩ := hF
  dsimp only at *
  subst hd hk hro hm
  have e : (results f tmps).runT P w #[] = (.ok (tmps.getD t undef) w, #[]) := by
    simp [results, hr, Sem.runT]
  refine ⟨rfl, tmps.getD t undef, #[], ?_, by simp, hR⟩
  simp only [stepG, G, unwind, hf, List.nil_append, doReturn, e, hi]
  simp [GStep.after, seen]
end
end Lift
end Go.Proofs.Ytjehmdhcccmihaa
