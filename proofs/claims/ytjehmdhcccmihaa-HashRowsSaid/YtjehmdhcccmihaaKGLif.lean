/-
  ONE BLOCK SHUT: a world in which a row of cells is held back (its shape asked of, its cells neither read nor written) beside the true one: what an operation's tree comes to in the first, it comes to in the second, and it has touched no cell of that row.
-/
import Derived.Conc.Beside
namespace Go.Proofs.Ytjehmdhcccmihaa
open Go.Conc
namespace Lift

/-- A block that is shut; how far the tapes are looked at; where the counts of draws began. -/
structure Gate where
  block : Nat → Prop
  bound : Nat
  s1 : Nat
  s2 : Nat
def Shut (E : Gate) (wl wc : World) : Prop := ∀ b, E.block b → ∃ arr ty, wl.heap[b]? = some (.pending arr ty) ∧ (wc.heap[b]? = wl.heap[b]? ∨ ∃ arr' ty', wc.heap[b]? = some (.cells arr' ty' (0, 0)) ∧ arr.size = arr'.size ∧ arr'.size ≠ 0)
theorem Shut.of {E : Gate} {wl wc wl' wc' : World} (h : Shut E wl wc) (e1 : ∀ b, E.block b → wl'.heap[b]? = wl.heap[b]?) (e2 : ∀ b, E.block b → wc'.heap[b]? = wc.heap[b]?) : Shut E wl' wc' := fun b hb => by
  rw [e1 b hb, e2 b hb]
  exact h b hb
/-- The world with the block E shut, and the true one. -/
structure Rel (E : Gate) (wl wc : World) : Prop where
  os : wl.os = wc.os
  output : wl.output = wc.output
  tape : ∀ i q, wl.drawn + i < E.bound → wl.tape (wl.drawn + i) q = wc.tape (wc.drawn + i) q
  drawn : wl.drawn + E.s2 = wc.drawn + E.s1
  size : wl.heap.size = wc.heap.size
  same : ∀ b : Nat, ¬ E.block b → wl.heap[b]? = wc.heap[b]?
  shut : Shut E wl wc
theorem Rel.split {E : Gate} {wl wc : World} (h : Rel E wl wc) (r : Nat) : wl.heap[r]? = wc.heap[r]? ∨ (E.block r ∧ ∃ arr ty arr' ty', wl.heap[r]? = some (.pending arr ty) ∧ wc.heap[r]? = some (.cells arr' ty' (0, 0)) ∧ arr.size = arr'.size ∧ arr'.size ≠ 0) := by
  by_cases hE : E.block r
  · obtain ⟨arr, ty, h1, h2 | ⟨arr', ty', h2, h3, h4⟩⟩ := h.shut r hE
    · exact .inl (by rw [h2])
    · exact .inr ⟨hE, arr, ty, arr', ty', h1, h2, h3, h4⟩
  · exact .inl (h.same r hE)

theorem ne_of {B : Nat → Prop} {a b : Nat} (h : ¬ B a) (hb : B b) : a ≠ b := fun e => h (e ▸ hb)
/-- Marks that say nothing of what was done before what. -/
def CalmMark : Mark → Prop
  | .noRoom | .extern _ => True
  | _ => False
/-- What a step may list: a cell of another block; that room was asked for. -/
def FineEv (E : Gate) (n : Nat) (e : Event) : Prop := (∃ a wr s, e = ⟨.cell a, wr, s⟩ ∧ ¬ E.block a.block ∧ a.block < n) ∨ (∃ m, e = ⟨.mark m, false, true⟩ ∧ CalmMark m) ∨ ∃ r wr s, e = ⟨.obj r, wr, s⟩ ∧ r < n
theorem FineEv.mono {E : Gate} {n m : Nat} {e : Event} (h : FineEv E n e) (hm : n ≤ m) : FineEv E m e := by
  rcases h with ⟨a, wr, s, h1, h2, h3⟩ | h | ⟨r, wr, s, h1, h2⟩
  · exact .inl ⟨a, wr, s, h1, h2, by omega⟩
  · exact .inr (.inl h)
  · exact .inr (.inr ⟨r, wr, s, h1, by omega⟩)

structure Moved (E : Gate) (wc wl' wc' : World) (es : Array Event) : Prop where
  rel : Rel E wl' wc'
  size : wc.heap.size ≤ wc'.heap.size
  fine : ∀ e ∈ es, FineEv E wc'.heap.size e
  kept : ∀ b, E.block b → wc'.heap[b]? = wc.heap[b]?
  ctape : wc'.tape = wc.tape
  cos : wc'.os = wc.os
  cout : wc'.output = wc.output

/-- What comes out in the shut world comes out in the true one. -/
def Sim {α : Type} (P : Program) (E : Gate) (t : Sem α) : Prop :=
  ∀ wl wc, Rel E wl wc → ∀ v wl', t.run P wl = .ok v wl' → wl'.drawn ≤ E.bound → ∃ wc' es, (∀ es0, t.runT P wc es0 = (.ok v wc', es0 ++ es)) ∧ Moved E wc wl' wc' es

section
variable {P : Program} {E : Gate} {α β : Type} {wl wc : World}
theorem Rel.moved (h : Rel E wl wc) : Moved E wc wl wc #[] := ⟨h, Nat.le_refl _, by simp, fun _ _ => rfl, rfl, rfl, rfl⟩
theorem Moved.trans {wl1 wc1 wl2 wc2 : World} {es1 es2 : Array Event} (h : Moved E wc wl1 wc1 es1) (k : Moved E wc1 wl2 wc2 es2) : Moved E wc wl2 wc2 (es1 ++ es2) :=
  ⟨k.rel, Nat.le_trans h.size k.size, fun e he => (Array.mem_append.1 he).elim (fun he => (h.fine e he).mono k.size) (k.fine e), fun b hb => (k.kept b hb).trans (h.kept b hb), k.ctape.trans h.ctape, k.cos.trans h.cos, k.cout.trans h.cout⟩
theorem Sim.pure (a : α) : Sim P E (Sem.pure a) := fun wl wc h v wl' hr hB => by
  simp only [Sem.run] at hr
  cases hr
  exact ⟨wc, #[], fun es => by simp [Sem.runT], h.moved⟩
theorem Sim.halt (hh : Halt) : Sim P E (Sem.halt hh : Sem α) := fun wl wc h v wl' hr hB => by
  simp only [Sem.run] at hr
  cases hr
theorem run_bind {t : Sem α} {f : α → Sem β} (w : World) : (t.bind f).run P w = (match t.run P w with | .ok v w' => (f v).run P w' | .halt hh w' => .halt hh w') := by
  induction t generalizing w with
  | pure a => rfl
  | load m a k ih =>
    simp only [Sem.bind, Sem.run]
    split
    · exact ih _ _
    · split
      · exact ih _ _
      · rfl
  | store m a v k ih =>
    by_cases hagg : (∃ x, v = .agg x) ∨ (∃ x, v = .tuple x)
    · rcases hagg with ⟨x, rfl⟩ | ⟨x, rfl⟩ <;> rfl
    · have hrun : ∀ {γ : Type} (k : Sem γ), (Sem.store m a v k).run P w = match w.cell? a with
          | some _ => if w.frozen? a then .halt (.unsupported (.unsafePointer "a write to bytes that a string shares")) w else k.run P (w.setCell a v)
          | none => match w.farStore P a v (m == .atomic) with
            | .ok (w, _) => k.run P w
            | .error h => .halt h w := fun k => by
        cases v <;> first | rfl | (exact absurd (.inl ⟨_, rfl⟩) hagg) | (exact absurd (.inr ⟨_, rfl⟩) hagg)
      simp only [Sem.bind]
      rw [hrun, hrun]
      split
      · split
        · rfl
        · exact ih _
      · split
        · exact ih _
        · rfl
  | new o k ih => exact ih _ _
  | shape r k ih => exact ih _ _
  | freeze a n k ih => exact ih _
  | frozen a k ih => exact ih _ _
  | getObj r k ih =>
    simp only [Sem.bind, Sem.run]
    split
    · rfl
    · exact ih _ _
    · rfl
  | setObj r o k ih =>
    simp only [Sem.bind, Sem.run]
    split
    · rfl
    · exact ih _
    · rfl
  | choose q k ih =>
    simp only [Sem.bind, Sem.run]
    split
    · exact ih _ _
    · exact ih _ _
  | sys c k ih => exact ih _ _
  | program k ih => exact ih _ _
  | mark m k ih => exact ih _
  | halt hh => rfl
theorem runT_bind {t : Sem α} {f : α → Sem β} (w : World) (es : Array Event) : (t.bind f).runT P w es = (match t.runT P w es with | (.ok v w', es') => (f v).runT P w' es' | (.halt hh w', es') => (.halt hh w', es')) := by
  induction t generalizing w es with
  | pure a => rfl
  | load m a k ih =>
    simp only [Sem.bind, Sem.runT]
    split
    · exact ih _ _ _
    · split
      · exact ih _ _ _
      · rfl
  | store m a v k ih =>
    by_cases hagg : (∃ x, v = .agg x) ∨ (∃ x, v = .tuple x)
    · rcases hagg with ⟨x, rfl⟩ | ⟨x, rfl⟩ <;> rfl
    · have hrun : ∀ {γ : Type} (k : Sem γ), (Sem.store m a v k).runT P w es = match w.cell? a with
          | some _ =>
            if w.frozen? a then (.halt (.unsupported (.unsafePointer "a write to bytes that a string shares")) w, es)
            else k.runT P (w.setCell a v) (es.push ⟨.cell a, true, m == .atomic⟩)
          | none => match w.farStore P a v (m == .atomic) with
            | .ok (w, touched) => k.runT P w (es ++ touched.toArray.map (⟨.cell ·, true, m == .atomic⟩))
            | .error h => (.halt h w, es) := fun k => by
        cases v <;> first | rfl | (exact absurd (.inl ⟨_, rfl⟩) hagg) | (exact absurd (.inr ⟨_, rfl⟩) hagg)
      simp only [Sem.bind]
      rw [hrun, hrun]
      split
      · split
        · rfl
        · exact ih _ _
      · split
        · exact ih _ _
        · rfl
  | new o k ih => exact ih _ _ _
  | shape r k ih => exact ih _ _ _
  | freeze a n k ih => exact ih _ _
  | frozen a k ih => exact ih _ _ _
  | getObj r k ih =>
    simp only [Sem.bind, Sem.runT]
    split
    · rfl
    · exact ih _ _ _
    · rfl
  | setObj r o k ih =>
    simp only [Sem.bind, Sem.runT]
    split
    · rfl
    · exact ih _ _
    · rfl
  | choose q k ih =>
    simp only [Sem.bind, Sem.runT]
    split
    · exact ih _ _ _
    · exact ih _ _ _
  | sys c k ih => exact ih _ _ _
  | program k ih => exact ih _ _ _
  | mark m k ih => exact ih _ _
  | halt hh => rfl
/-! ### the nodes -/
theorem Rel.shutCell (h : Rel E wl wc) {a : Addr} (ha : E.block a.block) : wl.cell? a = none ∧ wl.frozen? a = false := by
  obtain ⟨arr, ty, h1, _⟩ := h.shut _ ha
  unfold World.cell? World.frozen?
  rw [h1]
  exact ⟨rfl, rfl⟩
theorem Rel.frozen (h : Rel E wl wc) (a : Addr) : wc.frozen? a = wl.frozen? a := by
  rcases h.split a.block with e | ⟨hE, _, _, arr, ty, _, h2, _⟩
  · unfold World.frozen?
    rw [e]
  · rw [(h.shutCell hE).2]
    unfold World.frozen?
    rw [h2]
    simp
theorem Rel.cell (h : Rel E wl wc) {a : Addr} (hE : ¬ E.block a.block) : wc.cell? a = wl.cell? a := by
  unfold World.cell?
  rw [h.same _ hE]
/-- afar: through a view -/
theorem seen_same {w1 w2 : World} {at_ : Addr} (e : w1.heap[at_.block]? = w2.heap[at_.block]?) (u : TypeId) (k : Addr) (m : Bool) : w1.seen P at_ u k m = w2.seen P at_ u k m := by
  unfold World.seen
  rw [e]
theorem seen_cells {w : World} {at_ : Addr} {u : TypeId} {k : Addr} {m : Bool} {x : Array Value × TypeId × (Nat × Nat) × Nat × Value × List (Nat × Nat × List UInt8)} (h : w.seen P at_ u k m = .ok x) : ∃ c e f, w.heap[at_.block]? = some (.cells c e f) := by
  unfold World.seen at h
  cases hh : w.heap[at_.block]? with
  | none => rw [hh] at h; revert h; simp [bind, Except.bind, throw, throwThe, MonadExceptOf.throw]; (repeat' split) <;> simp
  | some o =>
    rw [hh] at h
    cases o with
    | cells c e f => exact ⟨c, e, f, rfl⟩
    | _ => exfalso; revert h; simp [bind, Except.bind, throw, throwThe, MonadExceptOf.throw]; (repeat' split) <;> simp
theorem viewLoad_touched {w : World} {at_ : Addr} {u : TypeId} {k : Addr} {m : Bool} {v : Value} {l : List Addr} (h : w.viewLoad P at_ u k m = .ok (v, l)) : (∃ c e f, w.heap[at_.block]? = some (.cells c e f)) ∧ ∀ x ∈ l, x.block = at_.block := by
  unfold World.viewLoad at h
  cases hs : w.seen P at_ u k m with
  | error e => rw [hs] at h; simp [bind, Except.bind] at h
  | ok x =>
    rw [hs] at h
    refine ⟨seen_cells hs, fun y hy => ?_⟩
    obtain ⟨c, e, fz, first, like, cells⟩ := x
    simp only [bind, Except.bind, pure, Except.pure] at h
    split at h
    · injection h with h
      injection h with _ h
      subst h
      obtain ⟨z, _, rfl⟩ := List.mem_map.1 hy
      rfl
    · cases h
theorem viewLoad_same {w1 w2 : World} {at_ : Addr} (e : w1.heap[at_.block]? = w2.heap[at_.block]?) (u : TypeId) (k : Addr) (m : Bool) : w1.viewLoad P at_ u k m = w2.viewLoad P at_ u k m := by
  unfold World.viewLoad
  rw [seen_same e]
theorem Rel.notShut (h : Rel E wl wc) {b : Nat} {c : Array Value} {e : TypeId} {f : Nat × Nat} (hb : wl.heap[b]? = some (.cells c e f)) : ¬ E.block b := by
  intro hb0
  obtain ⟨arr, ty, h1, _⟩ := h.shut b hb0
  rw [h1] at hb
  cases hb
theorem Rel.notShutV (h : Rel E wl wc) {b : Nat} {at_ : Addr} {u : TypeId} (hb : wl.heap[b]? = some (.view at_ u)) : ¬ E.block b := by
  intro hb0
  obtain ⟨arr, ty, h1, _⟩ := h.shut b hb0
  rw [h1] at hb
  cases hb
theorem Sim.load (m : Mode) (a : Addr) : Sim P E (Sem.load m a Sem.pure) := fun wl wc h v wl' hr hB => by
  simp only [Sem.run] at hr
  cases hc : wl.cell? a with
  | some u =>
    rw [hc] at hr
    cases hr
    have hE : ¬ E.block a.block := fun e => by rw [(h.shutCell e).1] at hc; cases hc
    refine ⟨wc, #[⟨.cell a, false, m == .atomic⟩], fun es => by simp only [Sem.runT, h.cell hE, hc, Array.push_eq_append], h, Nat.le_refl _, fun e he => ?_, fun _ _ => rfl, rfl, rfl, rfl⟩
    simp only [List.mem_toArray, List.mem_singleton] at he
    exact .inl ⟨a, _, _, he, hE, by rw [← h.size]; exact World.block_lt_of_cell? wl _ hc⟩
  | none =>
    rw [hc] at hr
    simp only at hr
    unfold World.farLoad at hr
    cases ho : wl.heap[a.block]? with
    | none => rw [ho] at hr; cases hr
    | some o =>
      rw [ho] at hr
      cases o with
      | view at_ u =>
        simp only at hr
        cases hv : wl.viewLoad P at_ u a (m == .atomic) with
        | error e => rw [hv] at hr; cases hr
        | ok r =>
          obtain ⟨x, l⟩ := r
          rw [hv] at hr
          simp only at hr
          cases hr
          obtain ⟨⟨c, e, f, hcell⟩, hl⟩ := viewLoad_touched hv
          have hE1 := h.notShutV ho
          have hE2 := h.notShut hcell
          refine ⟨wc, l.toArray.map (⟨.cell ·, false, m == .atomic⟩), fun es => ?_, h, Nat.le_refl _, fun e he => ?_, fun _ _ => rfl, rfl, rfl, rfl⟩
          · simp only [Sem.runT, h.cell hE1, hc]
            unfold World.farLoad
            rw [← h.same _ hE1, ho]
            simp only
            rw [← viewLoad_same (h.same _ hE2), hv]
          · simp only [List.map_toArray, List.mem_toArray, List.mem_map] at he
            obtain ⟨y, hy, rfl⟩ := he
            exact .inl ⟨y, _, _, rfl, by rw [hl y hy]; exact hE2, by rw [hl y hy, ← h.size]; exact (Array.getElem?_eq_some_iff.1 hcell).1⟩
      | _ => cases hr
theorem Rel.set (h : Rel E wl wc) {a : Addr} (hE : ¬ E.block a.block) (v : Value) : Rel E (wl.setCell a v) (wc.setCell a v) := by
  have far : ∀ (w : World) b, b ≠ a.block → (w.setCell a v).heap[b]? = w.heap[b]? := fun w b hb => by
    unfold World.setCell
    simp only [Array.getElem?_modify]
    rw [if_neg (Ne.symm hb)]
  have size : ∀ w : World, (w.setCell a v).heap.size = w.heap.size := fun w => by simp [World.setCell]
  refine ⟨h.os, h.output, h.tape, h.drawn, by rw [size, size, h.size], fun b hb => ?_, ?_⟩
  · by_cases e : b = a.block
    · unfold World.setCell
      simp only [Array.getElem?_modify, h.same b hb]
    · rw [far _ _ e, far _ _ e]; exact h.same b hb
  · exact h.shut.of (fun b hb => far _ _ fun e => hE (e ▸ hb)) (fun b hb => far _ _ fun e => hE (e ▸ hb))
theorem Sim.new (o : Obj) : Sim P E (Sem.new o Sem.pure) := fun wl wc h v wl' hr hB => by
  simp only [Sem.run] at hr
  cases hr
  have hlt : ∀ b, E.block b → b < wl.heap.size := fun b hb => by obtain ⟨arr, ty, h1, _⟩ := h.shut b hb; exact (Array.getElem?_eq_some_iff.1 h1).1
  have old : ∀ (hp : Array Obj) b, b < hp.size → (hp.push o)[b]? = hp[b]? := fun hp b hb => by rw [Array.getElem?_push, if_neg (by omega)]
  refine ⟨{ wc with heap := wc.heap.push o }, #[], fun es => by simp [Sem.runT, h.size], ⟨h.os, h.output, h.tape, h.drawn, by simp [h.size], fun b hb => ?_, ?_⟩, by simp, by simp, fun b hb => old _ _ (by rw [← h.size]; exact hlt b hb), rfl, rfl, rfl⟩
  · simp only [Array.getElem?_push, h.size]
    split
    · rfl
    · exact h.same b hb
  · exact h.shut.of (fun b hb => old _ _ (hlt b hb)) (fun b hb => old _ _ (by rw [← h.size]; exact hlt b hb))
theorem Sim.isFrozen (a : Addr) : Sim P E (Sem.frozen a Sem.pure) := fun wl wc h v wl' hr hB => by
  simp only [Sem.run] at hr
  cases hr
  exact ⟨wc, #[], fun es => by simp [Sem.runT, h.frozen], h.moved⟩
theorem Sim.program : Sim P E (Sem.program Sem.pure) := fun wl wc h v wl' hr hB => by
  simp only [Sem.run] at hr
  cases hr
  exact ⟨wc, #[], fun es => by simp [Sem.runT], h.moved⟩
theorem Sim.noRoom : Sim P E (Sem.mark .noRoom (Sem.pure ())) := fun wl wc h v wl' hr hB => by
  simp only [Sem.run] at hr
  cases hr
  refine ⟨wc, #[⟨.mark .noRoom, false, true⟩], fun es => by simp [Sem.runT], h, Nat.le_refl _, fun e he => ?_, fun _ _ => rfl, rfl, rfl, rfl⟩
  simp only [List.mem_toArray, List.mem_singleton] at he
  exact .inr (.inl ⟨_, he, trivial⟩)
theorem Sim.extern (f : FuncId) : Sim P E (Sem.mark (.extern f) (Sem.pure ())) := fun wl wc h v wl' hr hB => by
  simp only [Sem.run] at hr
  cases hr
  refine ⟨wc, #[⟨.mark (.extern f), false, true⟩], fun es => by simp [Sem.runT], h, Nat.le_refl _, fun e he => ?_, fun _ _ => rfl, rfl, rfl, rfl⟩
  simp only [List.mem_toArray, List.mem_singleton] at he
  exact .inr (.inl ⟨_, he, trivial⟩)
theorem Rel.draw (h : Rel E wl wc) : Rel E { wl with drawn := wl.drawn + 1 } { wc with drawn := wc.drawn + 1 } := ⟨h.os, h.output, fun i q hi => by
  have := h.tape (i + 1) q (by simp only at hi; omega)
  simp only
  rw [show wl.drawn + 1 + i = wl.drawn + (i + 1) by omega, show wc.drawn + 1 + i = wc.drawn + (i + 1) by omega]
  exact this, by have := h.drawn; simp only; omega, h.size, h.same, h.shut⟩
theorem Sim.choose (q : Question) : Sim P E (Sem.choose q Sem.pure) := fun wl wc h v wl' hr hB => by
  simp only [Sem.run] at hr
  by_cases hq : q.forced = true
  · rw [if_pos hq] at hr
    cases hr
    exact ⟨wc, #[], fun es => by simp [Sem.runT, hq], h.moved⟩
  · rw [if_neg hq] at hr
    cases hr
    have ht := h.tape 0 q (by simp only at hB; omega)
    simp only [Nat.add_zero] at ht
    exact ⟨{ wc with drawn := wc.drawn + 1 }, #[], fun es => by simp [Sem.runT, hq, ht], h.draw, Nat.le_refl _, by simp, fun _ _ => rfl, rfl, rfl, rfl⟩
theorem viewStore_two {w1 w2 : World} {at_ : Addr} (e : w1.heap[at_.block]? = w2.heap[at_.block]?) (u : TypeId) (k : Addr) (v : Value) (m : Bool) {w' : World} {l : List Addr} (h : w1.viewStore P at_ u k v m = .ok (w', l)) :
    ∃ c ty f, (∃ c0, w1.heap[at_.block]? = some (.cells c0 ty f)) ∧ w' = { w1 with heap := w1.heap.setIfInBounds at_.block (.cells c ty f) } ∧ w2.viewStore P at_ u k v m = .ok ({ w2 with heap := w2.heap.setIfInBounds at_.block (.cells c ty f) }, l) ∧ ∀ x ∈ l, x.block = at_.block := by
  unfold World.viewStore at h ⊢
  rw [← seen_same e]
  cases ht : tight P P.depth u with
  | false => rw [ht] at h; simp [bind, Except.bind, MonadExcept.throw, throwThe, MonadExceptOf.throw] at h
  | true =>
    rw [ht] at h
    cases hs : w1.seen P at_ u k m with
    | error er => rw [hs] at h; simp [bind, Except.bind, pure, Except.pure] at h
    | ok x =>
      rw [hs] at h
      have hx : ∃ c0, w1.heap[at_.block]? = some (.cells c0 x.2.1 x.2.2.1) := by
        have h2 := hs
        unfold World.seen at h2
        obtain ⟨c0, e0, f0, h3⟩ := seen_cells hs
        rw [h3] at h2 ⊢
        revert h2
        simp [bind, Except.bind, pure, Except.pure, MonadExcept.throw, throwThe, MonadExceptOf.throw]
        (repeat' split) <;> simp
        all_goals (intros; subst_vars; simp)
      obtain ⟨c, ty, f, first, like, cells⟩ := x
      cases hb : v.bytes? with
      | none => rw [hb] at h; simp [bind, Except.bind, pure, Except.pure, MonadExcept.throw, throwThe, MonadExceptOf.throw] at h
      | some bytes =>
        rw [hb] at h
        simp only [bind, Except.bind, pure, Except.pure, Bool.not_true, Bool.false_eq_true, if_false] at h ⊢
        split at h
        · simp [MonadExcept.throw, throwThe, MonadExceptOf.throw] at h
        · rename_i hl
          rw [if_neg hl]
          try simp only at h ⊢
          split at h
          · cases h
          · rename_i c' hf
            injection h with h
            injection h with h1 h2
            subst h1 h2
            refine ⟨c', ty, f, hx, rfl, ?_, fun y hy => ?_⟩
            · rfl
            · obtain ⟨z, _, rfl⟩ := List.mem_map.1 hy
              rfl
theorem Sim.store (m : Mode) (a : Addr) (v : Value) : Sim P E (Sem.store m a v (Sem.pure ())) := fun wl wc h x wl' hr hB => by
  by_cases hagg : (∃ x, v = .agg x) ∨ (∃ x, v = .tuple x)
  · rcases hagg with ⟨x, rfl⟩ | ⟨x, rfl⟩ <;> simp [Sem.run] at hr
  · have hrun : ∀ w : World, (Sem.store m a v (Sem.pure ())).run P w = match w.cell? a with
        | some _ => if w.frozen? a then .halt (.unsupported (.unsafePointer "a write to bytes that a string shares")) w else .ok () (w.setCell a v)
        | none => match w.farStore P a v (m == .atomic) with
          | .ok (w, _) => .ok () w
          | .error h => .halt h w := fun w => by
      cases v <;> first | rfl | (exact absurd (.inl ⟨_, rfl⟩) hagg) | (exact absurd (.inr ⟨_, rfl⟩) hagg)
    have hrunT : ∀ (w : World) es, (Sem.store m a v (Sem.pure ())).runT P w es = match w.cell? a with
        | some _ =>
          if w.frozen? a then (.halt (.unsupported (.unsafePointer "a write to bytes that a string shares")) w, es)
          else (.ok () (w.setCell a v), es.push ⟨.cell a, true, m == .atomic⟩)
        | none => match w.farStore P a v (m == .atomic) with
          | .ok (w, touched) => (.ok () w, es ++ touched.toArray.map (⟨.cell ·, true, m == .atomic⟩))
          | .error h => (.halt h w, es) := fun w es => by
      cases v <;> first | rfl | (exact absurd (.inl ⟨_, rfl⟩) hagg) | (exact absurd (.inr ⟨_, rfl⟩) hagg)
    rw [hrun] at hr
    cases hc : wl.cell? a with
    | some u =>
      rw [hc] at hr
      simp only at hr
      have hE : ¬ E.block a.block := fun e => by rw [(h.shutCell e).1] at hc; cases hc
      by_cases hf : wl.frozen? a = true
      · rw [if_pos hf] at hr; cases hr
      · rw [if_neg hf] at hr
        cases hr
        have hlt := World.block_lt_of_cell? wl _ hc
        refine ⟨wc.setCell a v, #[⟨.cell a, true, m == .atomic⟩], fun es => ?_, h.set hE v, by simp [World.setCell], fun e he => ?_, ?_, rfl, rfl, rfl⟩
        · rw [hrunT, h.cell hE, hc]
          simp only
          rw [if_neg (by rw [h.frozen]; exact hf), Array.push_eq_append]
        · simp only [List.mem_toArray, List.mem_singleton] at he
          exact .inl ⟨a, _, _, he, hE, by simp only [World.setCell, Array.size_modify]; rw [← h.size]; exact hlt⟩
        · unfold World.setCell
          intro b hb
          simp only [Array.getElem?_modify]
          rw [if_neg (ne_of hE hb)]
    | none =>
      rw [hc] at hr
      simp only at hr
      unfold World.farStore at hr
      cases ho : wl.heap[a.block]? with
      | none => rw [ho] at hr; cases hr
      | some o =>
        rw [ho] at hr
        cases o with
        | view at_ u =>
          simp only at hr
          cases hv : wl.viewStore P at_ u a v (m == .atomic) with
          | error e => rw [hv] at hr; cases hr
          | ok r =>
            obtain ⟨w1, l⟩ := r
            rw [hv] at hr
            simp only at hr
            cases hr
            have hE1 := h.notShutV ho
            have hE2 : ¬ E.block at_.block := by
              obtain ⟨c, ty, f, ⟨c0, h0⟩, _⟩ := viewStore_two (w2 := wl) rfl u a v (m == .atomic) hv
              exact h.notShut h0
            obtain ⟨c, ty, f, ⟨c0, h0⟩, rfl, hw2, hl⟩ := viewStore_two (h.same _ hE2) u a v (m == .atomic) hv
            have hlt := (Array.getElem?_eq_some_iff.1 h0).1
            refine ⟨{ wc with heap := wc.heap.setIfInBounds at_.block (.cells c ty f) }, l.toArray.map (⟨.cell ·, true, m == .atomic⟩), fun es => ?_, ⟨h.os, h.output, h.tape, h.drawn, by simp [h.size], fun b hb => ?_, ?_⟩, by simp, fun e he => ?_, ?_, rfl, rfl, rfl⟩
            · rw [hrunT, h.cell hE1, hc]
              simp only
              unfold World.farStore
              rw [← h.same _ hE1, ho]
              simp only
              rw [hw2]
            · simp only [Array.getElem?_setIfInBounds, h.size]
              split
              · rfl
              · exact h.same b hb
            · exact h.shut.of (fun b hb => Array.getElem?_setIfInBounds_ne (ne_of hE2 hb)) (fun b hb => Array.getElem?_setIfInBounds_ne (ne_of hE2 hb))
            · simp only [List.map_toArray, List.mem_toArray, List.mem_map] at he
              obtain ⟨y, hy, rfl⟩ := he
              exact .inl ⟨y, _, _, rfl, by rw [hl y hy]; exact hE2, by simp only [Array.size_setIfInBounds]; rw [hl y hy, ← h.size]; exact hlt⟩
            · intro b hb
              exact Array.getElem?_setIfInBounds_ne (ne_of hE2 hb)
        | _ => cases hr
theorem ask_drawn (k : Ask α) : ∀ w : World, w.drawn ≤ (w.ask k).2.drawn := by
  induction k with
  | done a => exact fun w => Nat.le_refl _
  | ask what range k ih =>
    intro w
    unfold World.ask
    dsimp only
    split
    · exact ih _ _
    · exact Nat.le_trans (Nat.le_succ _) (ih _ { w with drawn := w.drawn + 1 })
theorem sys_drawn (w : World) (c : Sys) : w.drawn ≤ (w.sys c).2.drawn := by
  unfold World.sys
  have := ask_drawn (Kernel.perform c w.os) w
  split
  · exact Nat.le_refl _
  · rename_i heq
    rw [heq] at this
    exact this
theorem farStore_drawn {w w' : World} {a : Addr} {v : Value} {m : Bool} {l : List Addr} (h : w.farStore P a v m = .ok (w', l)) : w'.drawn = w.drawn := by
  unfold World.farStore at h
  split at h
  · rename_i at_ u ho
    split at h
    · rename_i r hv
      obtain ⟨w1, l1⟩ := r
      cases h
      obtain ⟨c, ty, f, _, rfl, _⟩ := viewStore_two (w2 := w) rfl u a v m hv
      rfl
    · cases h
  · cases h
/-- the count of draws grows -/
theorem run_drawn (t : Sem α) : ∀ (w : World) v w', t.run P w = .ok v w' → w.drawn ≤ w'.drawn := by
  induction t with
  | pure a => intro w v w' hr; simp only [Sem.run] at hr; cases hr; exact Nat.le_refl _
  | load m a k ih =>
    intro w v w' hr
    simp only [Sem.run] at hr
    split at hr
    · exact ih _ _ _ _ hr
    · split at hr
      · exact ih _ _ _ _ hr
      · cases hr
  | store m a x k ih =>
    intro w v w' hr
    by_cases hagg : (∃ y, x = .agg y) ∨ (∃ y, x = .tuple y)
    · rcases hagg with ⟨y, rfl⟩ | ⟨y, rfl⟩ <;> simp [Sem.run] at hr
    · have hrun : (Sem.store m a x k).run P w = match w.cell? a with
          | some _ => if w.frozen? a then .halt (.unsupported (.unsafePointer "a write to bytes that a string shares")) w else k.run P (w.setCell a x)
          | none => match w.farStore P a x (m == .atomic) with
            | .ok (w, _) => k.run P w
            | .error h => .halt h w := by
        cases x <;> first | rfl | (exact absurd (.inl ⟨_, rfl⟩) hagg) | (exact absurd (.inr ⟨_, rfl⟩) hagg)
      rw [hrun] at hr
      split at hr
      · split at hr
        · cases hr
        · exact ih (w.setCell a x) _ _ hr
      · split at hr
        · rename_i w1 l hf
          exact farStore_drawn hf ▸ ih w1 _ _ hr
        · cases hr
  | new o k ih => exact fun w v w' hr => ih _ { w with heap := w.heap.push o } _ _ hr
  | shape r k ih => exact fun w v w' hr => ih _ _ _ _ hr
  | freeze a n k ih =>
    intro w v w' hr
    have h2 := ih (w.freeze a n) v w' hr
    have : (w.freeze a n).drawn = w.drawn := by unfold World.freeze; split <;> rfl
    omega
  | frozen a k ih => exact fun w v w' hr => ih _ _ _ _ hr
  | getObj r k ih =>
    intro w v w' hr
    simp only [Sem.run] at hr
    split at hr
    · cases hr
    · exact ih _ _ _ _ hr
    · cases hr
  | setObj r o k ih =>
    intro w v w' hr
    simp only [Sem.run] at hr
    split at hr
    · cases hr
    · exact ih { w with heap := w.heap.setIfInBounds r o } _ _ hr
    · cases hr
  | choose q k ih =>
    intro w v w' hr
    simp only [Sem.run] at hr
    split at hr
    · exact ih _ _ _ _ hr
    · exact Nat.le_trans (Nat.le_succ _) (ih _ { w with drawn := w.drawn + 1 } _ _ hr)
  | sys c k ih => exact fun w v w' hr => Nat.le_trans (sys_drawn w c) (ih _ _ _ _ hr)
  | program k ih => exact fun w v w' hr => ih _ _ _ _ hr
  | mark m k ih => exact fun w v w' hr => ih _ _ _ hr
  | halt hh => intro w v w' hr; simp only [Sem.run] at hr; cases hr
theorem Sim.bind {t : Sem α} {f : α → Sem β} (ht : Sim P E t) (hf : ∀ a, Sim P E (f a)) : Sim P E (t.bind f) := fun wl wc h v wl' hr hB => by
  rw [run_bind] at hr
  cases h1 : t.run P wl with
  | halt hh w1 => rw [h1] at hr; cases hr
  | ok a wl1 =>
    rw [h1] at hr
    obtain ⟨wc1, es1, r1, m1⟩ := ht wl wc h a wl1 h1 (Nat.le_trans (run_drawn _ _ _ _ hr) hB)
    obtain ⟨wc2, es2, r2, m2⟩ := hf a wl1 wc1 m1.rel v wl' hr hB
    exact ⟨wc2, es1 ++ es2, fun es0 => by rw [runT_bind, r1]; simp only; rw [r2, Array.append_assoc], m1.trans m2⟩
end
end Lift
end Go.Proofs.Ytjehmdhcccmihaa
/-
  The model's little words, one by one: with one block shut they come to the same.
-/
namespace Go.Proofs.Ytjehmdhcccmihaa
open Go.Conc
namespace Lift
section
variable {P : Program} {E : Gate} {α β : Type}
theorem Sim.pure' (a : α) : Sim P E (Pure.pure a : Sem α) := Sim.pure a
theorem Sim.bind' {t : Sem α} {f : α → Sem β} (ht : Sim P E t) (hf : ∀ a, Sim P E (f a)) : Sim P E (t >>= f) := Sim.bind ht hf
/-- never comes to a value -/
def Never (P : Program) (t : Sem α) : Prop := ∀ w v w', t.run P w ≠ .ok v w'
theorem Never.sim {t : Sem α} (h : Never P t) : Sim P E t := fun wl _ _ v wl' hr _ => absurd hr (h wl v wl')
theorem Never.halt (hh : Halt) : Never P (Sem.halt hh : Sem α) := fun w v w' h => by simp [Sem.run] at h
theorem Never.bind {t : Sem α} {f : α → Sem β} (h : ∀ a, Never P (f a)) : Never P (t >>= f) := fun w v w' hr => by
  have hr' : (t.bind f).run P w = .ok v w' := hr
  rw [run_bind] at hr'
  cases h1 : t.run P w with
  | halt hh w1 => rw [h1] at hr'; cases hr'
  | ok a w1 => rw [h1] at hr'; exact h a w1 v w' hr'
theorem Never.left {t : Sem α} {f : α → Sem β} (h : Never P t) : Never P (t >>= f) := fun w v w' hr => by
  have hr' : (t.bind f).run P w = .ok v w' := hr
  rw [run_bind] at hr'
  cases h1 : t.run P w with
  | halt hh w1 => rw [h1] at hr'; cases hr'
  | ok a w1 => exact h w a w1 h1
theorem never_stuck (s : String) : Never P (stuck s : Sem α) := Never.halt _
theorem never_unsupported (u : Unsupported) : Never P (unsupported u : Sem α) := Never.halt _
theorem never_goPanic (v : Value) : Never P (goPanic v : Sem α) := Never.halt _
theorem sim_load (a : Addr) (m : Mode) : Sim P E (load a m) := Sim.load m a
theorem sim_store (a : Addr) (v : Value) (m : Mode) : Sim P E (store a v m) := Sim.store m a v
theorem sim_newObj (o : Obj) : Sim P E (newObj o) := Sim.new o
theorem sim_frozen (a : Addr) : Sim P E (frozen a) := Sim.isFrozen a
theorem sim_choose (q : Question) : Sim P E (choose q) := Sim.choose q
theorem sim_program : Sim P E program := Sim.program
theorem sim_askRoom (n : Nat) : Sim P E (askRoom n) := by
  unfold askRoom
  split
  · exact Sim.noRoom
  · exact Sim.pure ()
/-- a shape that must be there -/
theorem Sim.shape {f : Option (TypeId × Nat) → Sem β} (r : Nat) (hf : ∀ s, Sim P E (f s)) (hn : Never P (f none)) : Sim P E (Go.shape r >>= f) := fun wl wc h v wl' hr hB => by
  have e1 : ∀ w : World, (Go.shape r >>= f).run P w = (f (w.shape? r)).run P w := fun w => rfl
  have e2 : ∀ (w : World) es, (Go.shape r >>= f).runT P w es = (f (w.shape? r)).runT P w es := fun w es => rfl
  rw [e1] at hr
  by_cases hE : E.block r
  · obtain ⟨arr, ty, h1, _⟩ := h.shut r hE
    have : wl.shape? r = none := by unfold World.shape?; rw [h1]
    rw [this] at hr
    exact absurd hr (hn _ _ _)
  · have : wl.shape? r = wc.shape? r := by unfold World.shape?; rw [h.same _ hE]
    rw [this] at hr
    obtain ⟨wc', es, h1, h2⟩ := hf _ wl wc h v wl' hr hB
    exact ⟨wc', es, fun es0 => by rw [e2]; exact h1 es0, h2⟩
theorem shut_getObj {wl wc : World} (h : Rel E wl wc) {t : Sem α} {f : Obj → Sem α} : True := trivial
/-- what is asked of a shape, else of the object: at a row that is shut the same as at a row -/
theorem sim_asked {f : Option (TypeId × Nat) → Sem β} (r : Nat) (x : β) (g : Obj → β) (hs : ∀ s, f (some s) = Pure.pure x) (hn : f none = (getObj r >>= fun o => Pure.pure (g o))) (hp : ∀ arr ty, g (.pending arr ty) = x) : Sim P E (Go.shape r >>= f) := fun wl wc h v wl' hr hB => by
  have e1 : ∀ w : World, (Go.shape r >>= f).run P w = (f (w.shape? r)).run P w := fun w => rfl
  have e2 : ∀ (w : World) es, (Go.shape r >>= f).runT P w es = (f (w.shape? r)).runT P w es := fun w es => rfl
  rw [e1] at hr
  rcases h.split r with hE | ⟨hE, arr, ty, arr', ty', h1, h2, h3, _⟩
  rotate_left
  · have s1 : wl.shape? r = none := by unfold World.shape?; rw [h1]
    have s2 : wc.shape? r = some (ty', arr'.size) := by unfold World.shape?; rw [h2]
    rw [s1, hn] at hr
    have e3 : (getObj r >>= fun o => (Pure.pure (g o) : Sem β)).run P wl = .ok (g (.pending arr ty)) wl := by
      show (Sem.getObj r fun o => Sem.pure (g o)).run P wl = _
      simp only [Sem.run, h1]
    rw [e3] at hr
    cases hr
    refine ⟨wc, #[], fun es => ?_, h.moved⟩
    rw [e2, s2, hs, hp]
    show (Sem.pure x).runT P wc es = _
    simp [Sem.runT]
  · have hsh : wl.shape? r = wc.shape? r := by unfold World.shape?; rw [hE]
    cases hq : wl.shape? r with
    | some s =>
      rw [hq, hs] at hr
      have hr2 : (Sem.pure x : Sem β).run P wl = .ok v wl' := hr
      simp only [Sem.run] at hr2
      cases hr2
      refine ⟨wc, #[], fun es => ?_, h.moved⟩
      rw [e2, ← hsh, hq, hs]
      show (Sem.pure x).runT P wc es = _
      simp [Sem.runT]
    | none =>
      rw [hq, hn] at hr
      have hr2 : (Sem.getObj r fun o => (Sem.pure (g o) : Sem β)).run P wl = .ok v wl' := hr
      simp only [Sem.run] at hr2
      cases ho : wl.heap[r]? with
      | none => rw [ho] at hr2; cases hr2
      | some o =>
        rw [ho] at hr2
        have hnc : ∀ c e f, o ≠ .cells c e f := by
          rintro c e f rfl
          cases hr2
        have hv : v = g o ∧ wl' = wl := by cases o <;> first | (exact absurd rfl (hnc _ _ _)) | (cases hr2; exact ⟨rfl, rfl⟩)
        obtain ⟨rfl, rfl⟩ := hv
        have hoc : wc.heap[r]? = some o := by rw [← hE]; exact ho
        refine ⟨wc, #[⟨.obj r, false, o.isChan⟩], fun es => ?_, h, Nat.le_refl _, fun e he => ?_, fun _ _ => rfl, rfl, rfl, rfl⟩
        · rw [e2, ← hsh, hq, hn]
          show (Sem.getObj r fun o => (Sem.pure (g o) : Sem β)).runT P wc es = _
          simp only [Sem.runT, hoc]
          cases o <;> first | (exact absurd rfl (hnc _ _ _)) | (simp only [Sem.runT, Array.push_eq_append])
        · simp only [List.mem_toArray, List.mem_singleton] at he
          exact .inr (.inr ⟨r, _, _, he, (Array.getElem?_eq_some_iff.1 hoc).1⟩)
theorem sim_viewAt (r : Nat) : Sim P E (viewAt r) := by
  unfold viewAt
  refine sim_asked r none (fun o => match o with | .view a t => some (a, t) | _ => none) (fun s => rfl) ?_ (fun _ _ => rfl)
  show (getObj r >>= fun o => _) = _
  congr 1
  funext o
  cases o <;> rfl
theorem sim_numberAt (r : Nat) : Sim P E (numberAt r) := by
  unfold numberAt
  refine sim_asked r none (fun o => match o with | .number a lost => some (a, lost) | _ => none) (fun s => rfl) ?_ (fun _ _ => rfl)
  show (getObj r >>= fun o => _) = _
  congr 1
  funext o
  cases o <;> rfl
theorem sim_typeInfo (t : TypeId) : Sim P E (typeInfo t) := by
  unfold typeInfo
  refine Sim.bind' sim_program fun p => ?_
  split
  · exact Sim.pure _
  · exact (never_stuck _).sim
theorem sim_underlying (t : TypeId) : Sim P E (underlying t) := by
  unfold underlying
  refine Sim.bind' sim_program fun p => ?_
  split
  · exact Sim.pure _
  · exact (never_stuck _).sim
theorem sim_zeroValue (t : TypeId) : Sim P E (zeroValue t) := by
  unfold zeroValue
  refine Sim.bind' (sim_typeInfo t) fun p => ?_
  split
  · exact Sim.pure _
  · exact (never_unsupported _).sim
theorem sim_sizeOf (t : TypeId) : Sim P E (sizeOf t) := Sim.bind' (sim_typeInfo t) fun _ => Sim.pure _
theorem sim_isAgg (t : TypeId) : Sim P E (isAgg t) := by
  unfold isAgg
  refine Sim.bind' (sim_underlying t) fun p => ?_
  split <;> exact Sim.pure _
theorem sim_loadCellsFrom (a : Addr) (n : Nat) : ∀ (i : Nat) (acc : Array Value), Sim P E (loadCellsFrom a i n acc) := by
  induction n with
  | zero => exact fun i acc => Sim.pure _
  | succ n ih => exact fun i acc => Sim.bind' (sim_load _ _) fun v => ih _ _
theorem sim_storeCells (a : Addr) (vs : List Value) : ∀ (i : Nat), Sim P E (storeCells a vs i) := by
  induction vs with
  | nil => exact fun i => Sim.pure _
  | cons v vs ih => exact fun i => Sim.bind' (sim_store _ _ _) fun _ => ih _
theorem sim_loadVar (t : TypeId) (a : Addr) : Sim P E (loadVar t a) := by
  unfold loadVar
  refine Sim.bind' (sim_isAgg t) fun b => ?_
  split
  · exact Sim.bind' (sim_sizeOf t) fun n => Sim.bind' (sim_loadCellsFrom _ _ _ _) fun _ => Sim.pure _
  · exact sim_load _ _
theorem sim_storeVar (t : TypeId) (a : Addr) (v : Value) : Sim P E (storeVar t a v) := by
  unfold storeVar
  refine Sim.bind' (sim_sizeOf t) fun n => ?_
  split
  · exact ((never_stuck _).left).sim
  · exact sim_storeCells _ _ _
theorem sim_newRow (t : TypeId) (cs : Array Value) : Sim P E (newRow t cs) := Sim.bind' (sim_newObj _) fun _ => Sim.pure _
theorem sim_newVar (t : TypeId) (v : Value) : Sim P E (newVar t v) := sim_newRow _ _
theorem sim_elemOf (t : TypeId) : Sim P E (elemOf t) := by
  unfold elemOf
  refine Sim.bind' (sim_underlying t) fun p => ?_
  split
  · exact Sim.pure _
  · exact (never_stuck _).sim
theorem never_runtimePanic (e : RuntimeError) : Never P (runtimePanic e : Sem α) := by
  unfold runtimePanic
  refine Never.bind fun p => ?_
  cases e with
  | typeAssertion i c a m => exact Never.bind fun _ => Never.bind fun _ => never_goPanic _
  | panicNil => exact Never.bind fun _ => Never.bind fun _ => never_goPanic _
  | _ => exact never_goPanic _
theorem never_boundsPanic (k : IntKind) (x y : Int) (c : BoundsCode) : Never P (boundsPanic k x y c : Sem α) := by
  unfold boundsPanic
  dsimp only
  split
  · exact Never.bind fun _ => never_runtimePanic _
  · exact Never.bind fun _ => never_runtimePanic _
theorem sim_asIntOf (v : Value) : Sim P E (asIntOf v) := by
  unfold asIntOf
  split
  · exact Sim.pure _
  · exact (never_unsupported _).sim
  · exact (never_stuck _).sim
theorem sim_asInt (v : Value) : Sim P E (asInt v) := Sim.bind' (sim_asIntOf v) fun _ => Sim.pure _
theorem sim_asBool (v : Value) : Sim P E (asBool v) := by
  unfold asBool
  split
  · exact Sim.pure _
  · exact (never_stuck _).sim
theorem sim_asString (v : Value) : Sim P E (asString v) := by
  unfold asString
  split
  · exact Sim.pure _
  · exact (never_stuck _).sim
theorem sim_asAgg (v : Value) : Sim P E (asAgg v) := by
  unfold asAgg
  split
  · exact Sim.pure _
  · exact (never_stuck _).sim
theorem sim_asAddr (v : Value) : Sim P E (asAddr v) := by
  unfold asAddr
  split
  · exact Sim.pure _
  · exact (never_runtimePanic _).sim
  · exact (never_stuck _).sim
end
end Lift
end Go.Proofs.Ytjehmdhcccmihaa
/-
  The model's operations, those that this program's functions have: with one block shut they come to the same.
-/
namespace Go.Proofs.Ytjehmdhcccmihaa
open Go.Conc
namespace Lift
section
variable {P : Program} {E : Gate} {α β : Type}
theorem sim_sureAddr (v : Value) : Sim P E (Instr.sureAddr v) := by
  unfold Instr.sureAddr
  split
  · exact Sim.pure _
  · exact (never_stuck _).sim
theorem sim_loadAt (t : TypeId) (v : Value) : Sim P E (Instr.loadAt t v) := Sim.bind' (sim_sureAddr v) fun _ => sim_loadVar _ _
theorem sim_storeAt (t : TypeId) (v x : Value) : Sim P E (Instr.storeAt t v x) := Sim.bind' (sim_sureAddr v) fun _ => sim_storeVar _ _ _
theorem sim_noView (a : Addr) : Sim P E (noView a) := by
  unfold noView
  refine Sim.bind' (sim_viewAt _) fun o => ?_
  split
  · exact (never_unsupported _).sim
  · exact Sim.pure _
theorem sim_byteOf (a : Addr) : Sim P E (byteOf a) := by
  unfold byteOf
  split
  · exact Sim.pure _
  · refine Sim.bind' sim_program fun p => Sim.bind' (sim_noView a) fun _ => Sim.shape _ (fun s => ?_) ?_
    · split
      · dsimp only
        split
        · exact Sim.pure _
        · split
          · exact Sim.pure _
          · exact (never_stuck _).sim
      · exact (never_stuck _).sim
    · exact never_stuck _
theorem sim_partAt (a : Addr) (c b : Nat) : Sim P E (partAt a c b) := by
  unfold partAt
  exact Sim.bind' (sim_byteOf _) fun _ => Sim.bind' (sim_byteOf _) fun _ => Sim.pure _
theorem sim_fieldPlace (a : Addr) (f : Field) : Sim P E (fieldPlace a f) := by
  unfold fieldPlace
  refine Sim.bind' (sim_sizeOf _) fun _ => ?_
  split
  · exact sim_partAt _ _ _
  · exact Sim.pure _
theorem sim_fieldAt (s : TypeId) (v : Value) (k : Nat) : Sim P E (Instr.fieldAt s v k) := by
  unfold Instr.fieldAt
  refine Sim.bind' (sim_underlying _) fun d => ?_
  split
  · split
    · exact Sim.bind' (sim_sureAddr _) fun _ => Sim.bind' (sim_fieldPlace _ _) fun _ => Sim.pure _
    · exact (never_stuck _).sim
  · exact (never_stuck _).sim
theorem sim_indexAt (t : TypeId) (x i : Value) : Sim P E (Instr.indexAt t x i) := by
  unfold Instr.indexAt
  repeat' (first
    | exact Sim.pure _
    | exact (never_stuck _).sim | exact ((never_stuck _).left).sim
    | exact (never_unsupported _).sim | exact ((never_unsupported _).left).sim
    | exact (never_runtimePanic _).sim | exact ((never_runtimePanic _).left).sim
    | exact (never_boundsPanic _ _ _ _).sim | exact ((never_boundsPanic _ _ _ _).left).sim
    | exact (never_goPanic _).sim | exact ((never_goPanic _).left).sim
    | exact sim_underlying _
    | exact sim_typeInfo _
    | exact sim_sizeOf _
    | exact sim_isAgg _
    | exact sim_zeroValue _
    | exact sim_newRow _ _
    | exact sim_newVar _ _
    | exact sim_newObj _
    | exact sim_loadVar _ _
    | exact sim_storeVar _ _ _
    | exact sim_asInt _
    | exact sim_asIntOf _
    | exact sim_asBool _
    | exact sim_asString _
    | exact sim_asAgg _
    | exact sim_asAddr _
    | exact sim_elemOf _
    | exact sim_load _ _
    | exact sim_store _ _ _
    | exact sim_choose _
    | exact sim_program
    | exact sim_askRoom _
    | exact sim_frozen _
    | exact sim_viewAt _
    | exact sim_numberAt _
    | exact sim_loadCellsFrom _ _ _ _
    | exact sim_storeCells _ _ _
    | exact sim_sureAddr _
    | exact sim_noView _
    | exact sim_byteOf _
    | exact sim_partAt _ _ _
    | exact sim_fieldPlace _ _
    | exact sim_part _ _ _
    | (refine Sim.bind' ?_ fun _ => ?_)
    | dsimp only
    | split)
theorem sim_part (t : TypeId) (cs : Array Value) (n : Nat) : Sim P E (part t cs n) := by
  unfold part
  refine Sim.bind' (sim_isAgg _) fun b => ?_
  split
  · exact Sim.bind' (sim_sizeOf _) fun _ => Sim.pure _
  · split
    · exact Sim.pure _
    · exact (never_stuck _).sim
theorem sim_index (t : TypeId) (x i : Value) : Sim P E (Instr.index t x i) := by
  unfold Instr.index
  refine Sim.bind' (sim_asIntOf _) fun ki => ?_
  obtain ⟨k, i⟩ := ki
  refine Sim.bind' (sim_underlying _) fun d => ?_
  split
  · split
    · exact Sim.bind' (sim_sizeOf _) fun _ => sim_part _ _ _
    · exact (never_boundsPanic _ _ _ _).sim
  · split
    · exact Sim.pure _
    · exact (never_boundsPanic _ _ _ _).sim
  · exact (never_stuck _).sim
theorem sim_alloc (t : TypeId) (b : Bool) (v : Value) : Sim P E (Instr.alloc t b v) := by
  unfold Instr.alloc
  refine Sim.bind' (sim_zeroValue _) fun z => ?_
  split
  · exact Sim.bind' (sim_storeVar _ _ _) fun _ => Sim.pure _
  · exact Sim.bind' (sim_newVar _ _) fun _ => Sim.pure _
theorem sim_buildSlice (t : TypeId) (n : Nat) (parts : Array (Nat × Value)) : Sim P E (Instr.buildSlice t n parts) := by
  unfold Instr.buildSlice
  repeat' (first
    | exact Sim.pure _
    | exact (never_stuck _).sim | exact ((never_stuck _).left).sim
    | exact (never_unsupported _).sim | exact ((never_unsupported _).left).sim
    | exact (never_runtimePanic _).sim | exact ((never_runtimePanic _).left).sim
    | exact (never_boundsPanic _ _ _ _).sim | exact ((never_boundsPanic _ _ _ _).left).sim
    | exact (never_goPanic _).sim | exact ((never_goPanic _).left).sim
    | exact sim_underlying _
    | exact sim_typeInfo _
    | exact sim_sizeOf _
    | exact sim_isAgg _
    | exact sim_zeroValue _
    | exact sim_newRow _ _
    | exact sim_newVar _ _
    | exact sim_newObj _
    | exact sim_loadVar _ _
    | exact sim_storeVar _ _ _
    | exact sim_asInt _
    | exact sim_asIntOf _
    | exact sim_asBool _
    | exact sim_asString _
    | exact sim_asAgg _
    | exact sim_asAddr _
    | exact sim_elemOf _
    | exact sim_load _ _
    | exact sim_store _ _ _
    | exact sim_choose _
    | exact sim_program
    | exact sim_askRoom _
    | exact sim_frozen _
    | exact sim_viewAt _
    | exact sim_numberAt _
    | exact sim_loadCellsFrom _ _ _ _
    | exact sim_storeCells _ _ _
    | exact sim_sureAddr _
    | exact sim_noView _
    | exact sim_byteOf _
    | exact sim_partAt _ _ _
    | exact sim_fieldPlace _ _
    | exact sim_part _ _ _
    | (refine Sim.bind' ?_ fun _ => ?_)
    | dsimp only
    | split)
theorem sim_makeSlice (t : TypeId) (l c : Value) : Sim P E (Instr.makeSlice t l c) := by
  unfold Instr.makeSlice
  repeat' (first
    | exact Sim.pure _
    | exact (never_stuck _).sim | exact ((never_stuck _).left).sim
    | exact (never_unsupported _).sim | exact ((never_unsupported _).left).sim
    | exact (never_runtimePanic _).sim | exact ((never_runtimePanic _).left).sim
    | exact (never_boundsPanic _ _ _ _).sim | exact ((never_boundsPanic _ _ _ _).left).sim
    | exact (never_goPanic _).sim | exact ((never_goPanic _).left).sim
    | exact sim_underlying _
    | exact sim_typeInfo _
    | exact sim_sizeOf _
    | exact sim_isAgg _
    | exact sim_zeroValue _
    | exact sim_newRow _ _
    | exact sim_newVar _ _
    | exact sim_newObj _
    | exact sim_loadVar _ _
    | exact sim_storeVar _ _ _
    | exact sim_asInt _
    | exact sim_asIntOf _
    | exact sim_asBool _
    | exact sim_asString _
    | exact sim_asAgg _
    | exact sim_asAddr _
    | exact sim_elemOf _
    | exact sim_load _ _
    | exact sim_store _ _ _
    | exact sim_choose _
    | exact sim_program
    | exact sim_askRoom _
    | exact sim_frozen _
    | exact sim_viewAt _
    | exact sim_numberAt _
    | exact sim_loadCellsFrom _ _ _ _
    | exact sim_storeCells _ _ _
    | exact sim_sureAddr _
    | exact sim_noView _
    | exact sim_byteOf _
    | exact sim_partAt _ _ _
    | exact sim_fieldPlace _ _
    | exact sim_part _ _ _
    | (refine Sim.bind' ?_ fun _ => ?_)
    | dsimp only
    | split)
end
end Lift
end Go.Proofs.Ytjehmdhcccmihaa
/-
  The model's operations, on: numbers, texts, comparisons, conversions, append.
-/
namespace Go.Proofs.Ytjehmdhcccmihaa
open Go.Conc
namespace Lift
section
variable {P : Program} {E : Gate} {α β : Type}
/-- a type that is known -/
theorem Sim.known {t : TypeId} {d : TypeDesc} {f : TypeDesc → Sem β} (h : P.underlying t = some d) (hf : Sim P E (f d)) : Sim P E (underlying t >>= f) := fun wl wc hr v wl' hrun hB => by
  have e1 : ∀ w : World, (underlying t >>= f).run P w = (f d).run P w := fun w => by
    show ((underlying t).bind f).run P w = _
    rw [run_bind]
    have : (underlying t).run P w = .ok d w := by
      show ((Sem.program Sem.pure).bind _).run P w = _
      rw [run_bind]
      simp only [Sem.run, h]
      rfl
    rw [this]
  have e2 : ∀ (w : World) es, (underlying t >>= f).runT P w es = (f d).runT P w es := fun w es => by
    show ((underlying t).bind f).runT P w es = _
    rw [runT_bind]
    have : (underlying t).runT P w es = (.ok d w, es) := by
      show ((Sem.program Sem.pure).bind _).runT P w es = _
      rw [runT_bind]
      simp only [Sem.runT, h]
      rfl
    rw [this]
  rw [e1] at hrun
  obtain ⟨wc', es, h1, h2⟩ := hf wl wc hr v wl' hrun hB
  exact ⟨wc', es, fun es0 => by rw [e2]; exact h1 es0, h2⟩
theorem sim_asNumber (a : Addr) (l : Bool) : Sim P E (asNumber a l) := by
  unfold asNumber
  repeat' (first
    | exact Sim.pure _
    | exact (never_stuck _).sim | exact ((never_stuck _).left).sim
    | exact (never_unsupported _).sim | exact ((never_unsupported _).left).sim
    | exact (never_runtimePanic _).sim | exact ((never_runtimePanic _).left).sim
    | exact (never_boundsPanic _ _ _ _).sim | exact ((never_boundsPanic _ _ _ _).left).sim
    | exact (never_goPanic _).sim | exact ((never_goPanic _).left).sim
    | exact sim_underlying _
    | exact sim_typeInfo _
    | exact sim_sizeOf _
    | exact sim_isAgg _
    | exact sim_zeroValue _
    | exact sim_newRow _ _
    | exact sim_newVar _ _
    | exact sim_newObj _
    | exact sim_loadVar _ _
    | exact sim_storeVar _ _ _
    | exact sim_asInt _
    | exact sim_asIntOf _
    | exact sim_asBool _
    | exact sim_asString _
    | exact sim_asAgg _
    | exact sim_asAddr _
    | exact sim_elemOf _
    | exact sim_load _ _
    | exact sim_store _ _ _
    | exact sim_choose _
    | exact sim_program
    | exact sim_askRoom _
    | exact sim_frozen _
    | exact sim_viewAt _
    | exact sim_numberAt _
    | exact sim_loadCellsFrom _ _ _ _
    | exact sim_storeCells _ _ _
    | exact sim_sureAddr _
    | exact sim_noView _
    | exact sim_byteOf _
    | exact sim_partAt _ _ _
    | exact sim_fieldPlace _ _
    | exact sim_part _ _ _
    | (refine Sim.bind' ?_ fun _ => ?_)
    | dsimp only
    | split)
theorem sim_behindNumber (a : Addr) : Sim P E (behindNumber a) := by
  unfold behindNumber
  repeat' (first
    | exact Sim.pure _
    | exact (never_stuck _).sim | exact ((never_stuck _).left).sim
    | exact (never_unsupported _).sim | exact ((never_unsupported _).left).sim
    | exact (never_runtimePanic _).sim | exact ((never_runtimePanic _).left).sim
    | exact (never_boundsPanic _ _ _ _).sim | exact ((never_boundsPanic _ _ _ _).left).sim
    | exact (never_goPanic _).sim | exact ((never_goPanic _).left).sim
    | exact sim_underlying _
    | exact sim_typeInfo _
    | exact sim_sizeOf _
    | exact sim_isAgg _
    | exact sim_zeroValue _
    | exact sim_newRow _ _
    | exact sim_newVar _ _
    | exact sim_newObj _
    | exact sim_loadVar _ _
    | exact sim_storeVar _ _ _
    | exact sim_asInt _
    | exact sim_asIntOf _
    | exact sim_asBool _
    | exact sim_asString _
    | exact sim_asAgg _
    | exact sim_asAddr _
    | exact sim_elemOf _
    | exact sim_load _ _
    | exact sim_store _ _ _
    | exact sim_choose _
    | exact sim_program
    | exact sim_askRoom _
    | exact sim_frozen _
    | exact sim_viewAt _
    | exact sim_numberAt _
    | exact sim_loadCellsFrom _ _ _ _
    | exact sim_storeCells _ _ _
    | exact sim_sureAddr _
    | exact sim_noView _
    | exact sim_byteOf _
    | exact sim_partAt _ _ _
    | exact sim_fieldPlace _ _
    | exact sim_part _ _ _
    | (refine Sim.bind' ?_ fun _ => ?_)
    | dsimp only
    | split)
theorem sim_unsafeAdd (ts : Array TypeId) (t : TypeId) (as : Array Value) : Sim P E (Builtin.unsafeAdd_ ts t as) := by
  unfold Builtin.unsafeAdd_
  rcases as with ⟨_ | ⟨a, _ | ⟨b, _ | ⟨c, l⟩⟩⟩⟩ <;> (first | exact (never_stuck _).sim | skip)
  cases a <;> (first | exact (never_stuck _).sim | skip)
  dsimp only
  repeat' (first
    | exact Sim.pure _
    | (refine Sim.shape _ (fun s => ?_) (never_unsupported _))
    | exact (never_stuck _).sim | exact ((never_stuck _).left).sim
    | exact (never_unsupported _).sim | exact ((never_unsupported _).left).sim
    | exact (never_runtimePanic _).sim | exact ((never_runtimePanic _).left).sim
    | exact (never_boundsPanic _ _ _ _).sim | exact ((never_boundsPanic _ _ _ _).left).sim
    | exact (never_goPanic _).sim | exact ((never_goPanic _).left).sim
    | exact sim_underlying _
    | exact sim_typeInfo _
    | exact sim_sizeOf _
    | exact sim_isAgg _
    | exact sim_zeroValue _
    | exact sim_newRow _ _
    | exact sim_newVar _ _
    | exact sim_newObj _
    | exact sim_loadVar _ _
    | exact sim_storeVar _ _ _
    | exact sim_asInt _
    | exact sim_asIntOf _
    | exact sim_asBool _
    | exact sim_asString _
    | exact sim_asAgg _
    | exact sim_asAddr _
    | exact sim_elemOf _
    | exact sim_load _ _
    | exact sim_store _ _ _
    | exact sim_choose _
    | exact sim_program
    | exact sim_askRoom _
    | exact sim_frozen _
    | exact sim_viewAt _
    | exact sim_numberAt _
    | exact sim_loadCellsFrom _ _ _ _
    | exact sim_storeCells _ _ _
    | exact sim_sureAddr _
    | exact sim_noView _
    | exact sim_byteOf _
    | exact sim_partAt _ _ _
    | exact sim_fieldPlace _ _
    | exact sim_part _ _ _
    | (refine Sim.bind' ?_ fun _ => ?_)
    | dsimp only
    | split)
theorem sim_movedPointer (t : TypeId) (x y : Value) : Sim P E (movedPointer t x y) := by
  unfold movedPointer
  repeat' (first
    | exact Sim.pure _
    | exact (never_stuck _).sim | exact ((never_stuck _).left).sim
    | exact (never_unsupported _).sim | exact ((never_unsupported _).left).sim
    | exact (never_runtimePanic _).sim | exact ((never_runtimePanic _).left).sim
    | exact (never_boundsPanic _ _ _ _).sim | exact ((never_boundsPanic _ _ _ _).left).sim
    | exact (never_goPanic _).sim | exact ((never_goPanic _).left).sim
    | exact sim_unsafeAdd _ _ _
    | exact sim_underlying _
    | exact sim_typeInfo _
    | exact sim_sizeOf _
    | exact sim_isAgg _
    | exact sim_zeroValue _
    | exact sim_newRow _ _
    | exact sim_newVar _ _
    | exact sim_newObj _
    | exact sim_loadVar _ _
    | exact sim_storeVar _ _ _
    | exact sim_asInt _
    | exact sim_asIntOf _
    | exact sim_asBool _
    | exact sim_asString _
    | exact sim_asAgg _
    | exact sim_asAddr _
    | exact sim_elemOf _
    | exact sim_load _ _
    | exact sim_store _ _ _
    | exact sim_choose _
    | exact sim_program
    | exact sim_askRoom _
    | exact sim_frozen _
    | exact sim_viewAt _
    | exact sim_numberAt _
    | exact sim_loadCellsFrom _ _ _ _
    | exact sim_storeCells _ _ _
    | exact sim_sureAddr _
    | exact sim_noView _
    | exact sim_byteOf _
    | exact sim_partAt _ _ _
    | exact sim_fieldPlace _ _
    | exact sim_part _ _ _
    | (refine Sim.bind' ?_ fun _ => ?_)
    | dsimp only
    | split)
theorem sim_movedNumber (t : TypeId) (x y : Value) : Sim P E (movedNumber t x y) := by
  unfold movedNumber
  repeat' (first
    | exact Sim.pure _
    | exact (never_stuck _).sim | exact ((never_stuck _).left).sim
    | exact (never_unsupported _).sim | exact ((never_unsupported _).left).sim
    | exact (never_runtimePanic _).sim | exact ((never_runtimePanic _).left).sim
    | exact (never_boundsPanic _ _ _ _).sim | exact ((never_boundsPanic _ _ _ _).left).sim
    | exact (never_goPanic _).sim | exact ((never_goPanic _).left).sim
    | exact sim_unsafeAdd _ _ _
    | exact sim_behindNumber _
    | exact sim_asNumber _ _
    | exact sim_underlying _
    | exact sim_typeInfo _
    | exact sim_sizeOf _
    | exact sim_isAgg _
    | exact sim_zeroValue _
    | exact sim_newRow _ _
    | exact sim_newVar _ _
    | exact sim_newObj _
    | exact sim_loadVar _ _
    | exact sim_storeVar _ _ _
    | exact sim_asInt _
    | exact sim_asIntOf _
    | exact sim_asBool _
    | exact sim_asString _
    | exact sim_asAgg _
    | exact sim_asAddr _
    | exact sim_elemOf _
    | exact sim_load _ _
    | exact sim_store _ _ _
    | exact sim_choose _
    | exact sim_program
    | exact sim_askRoom _
    | exact sim_frozen _
    | exact sim_viewAt _
    | exact sim_numberAt _
    | exact sim_loadCellsFrom _ _ _ _
    | exact sim_storeCells _ _ _
    | exact sim_sureAddr _
    | exact sim_noView _
    | exact sim_byteOf _
    | exact sim_partAt _ _ _
    | exact sim_fieldPlace _ _
    | exact sim_part _ _ _
    | (refine Sim.bind' ?_ fun _ => ?_)
    | dsimp only
    | split)
theorem sim_intArith (op : BinOp) (k : IntKind) (x y : Int) : Sim P E (Op.intArith op k x y) := by
  unfold Op.intArith
  repeat' (first
    | exact Sim.pure _
    | exact (never_stuck _).sim | exact ((never_stuck _).left).sim
    | exact (never_unsupported _).sim | exact ((never_unsupported _).left).sim
    | exact (never_runtimePanic _).sim | exact ((never_runtimePanic _).left).sim
    | exact (never_boundsPanic _ _ _ _).sim | exact ((never_boundsPanic _ _ _ _).left).sim
    | exact (never_goPanic _).sim | exact ((never_goPanic _).left).sim
    | exact sim_underlying _
    | exact sim_typeInfo _
    | exact sim_sizeOf _
    | exact sim_isAgg _
    | exact sim_zeroValue _
    | exact sim_newRow _ _
    | exact sim_newVar _ _
    | exact sim_newObj _
    | exact sim_loadVar _ _
    | exact sim_storeVar _ _ _
    | exact sim_asInt _
    | exact sim_asIntOf _
    | exact sim_asBool _
    | exact sim_asString _
    | exact sim_asAgg _
    | exact sim_asAddr _
    | exact sim_elemOf _
    | exact sim_load _ _
    | exact sim_store _ _ _
    | exact sim_choose _
    | exact sim_program
    | exact sim_askRoom _
    | exact sim_frozen _
    | exact sim_viewAt _
    | exact sim_numberAt _
    | exact sim_loadCellsFrom _ _ _ _
    | exact sim_storeCells _ _ _
    | exact sim_sureAddr _
    | exact sim_noView _
    | exact sim_byteOf _
    | exact sim_partAt _ _ _
    | exact sim_fieldPlace _ _
    | exact sim_part _ _ _
    | (refine Sim.bind' ?_ fun _ => ?_)
    | dsimp only
    | split)
theorem sim_intDiv (op : BinOp) (k : IntKind) (x y : Int) : Sim P E (Op.intDiv op k x y) := by
  unfold Op.intDiv
  repeat' (first
    | exact Sim.pure _
    | exact (never_stuck _).sim | exact ((never_stuck _).left).sim
    | exact (never_unsupported _).sim | exact ((never_unsupported _).left).sim
    | exact (never_runtimePanic _).sim | exact ((never_runtimePanic _).left).sim
    | exact (never_boundsPanic _ _ _ _).sim | exact ((never_boundsPanic _ _ _ _).left).sim
    | exact (never_goPanic _).sim | exact ((never_goPanic _).left).sim
    | exact sim_underlying _
    | exact sim_typeInfo _
    | exact sim_sizeOf _
    | exact sim_isAgg _
    | exact sim_zeroValue _
    | exact sim_newRow _ _
    | exact sim_newVar _ _
    | exact sim_newObj _
    | exact sim_loadVar _ _
    | exact sim_storeVar _ _ _
    | exact sim_asInt _
    | exact sim_asIntOf _
    | exact sim_asBool _
    | exact sim_asString _
    | exact sim_asAgg _
    | exact sim_asAddr _
    | exact sim_elemOf _
    | exact sim_load _ _
    | exact sim_store _ _ _
    | exact sim_choose _
    | exact sim_program
    | exact sim_askRoom _
    | exact sim_frozen _
    | exact sim_viewAt _
    | exact sim_numberAt _
    | exact sim_loadCellsFrom _ _ _ _
    | exact sim_storeCells _ _ _
    | exact sim_sureAddr _
    | exact sim_noView _
    | exact sim_byteOf _
    | exact sim_partAt _ _ _
    | exact sim_fieldPlace _ _
    | exact sim_part _ _ _
    | (refine Sim.bind' ?_ fun _ => ?_)
    | dsimp only
    | split)
theorem sim_intBits (op : BinOp) (k : IntKind) (x y : Int) : Sim P E (Op.intBits op k x y) := by
  unfold Op.intBits
  repeat' (first
    | exact Sim.pure _
    | exact (never_stuck _).sim | exact ((never_stuck _).left).sim
    | exact (never_unsupported _).sim | exact ((never_unsupported _).left).sim
    | exact (never_runtimePanic _).sim | exact ((never_runtimePanic _).left).sim
    | exact (never_boundsPanic _ _ _ _).sim | exact ((never_boundsPanic _ _ _ _).left).sim
    | exact (never_goPanic _).sim | exact ((never_goPanic _).left).sim
    | exact sim_underlying _
    | exact sim_typeInfo _
    | exact sim_sizeOf _
    | exact sim_isAgg _
    | exact sim_zeroValue _
    | exact sim_newRow _ _
    | exact sim_newVar _ _
    | exact sim_newObj _
    | exact sim_loadVar _ _
    | exact sim_storeVar _ _ _
    | exact sim_asInt _
    | exact sim_asIntOf _
    | exact sim_asBool _
    | exact sim_asString _
    | exact sim_asAgg _
    | exact sim_asAddr _
    | exact sim_elemOf _
    | exact sim_load _ _
    | exact sim_store _ _ _
    | exact sim_choose _
    | exact sim_program
    | exact sim_askRoom _
    | exact sim_frozen _
    | exact sim_viewAt _
    | exact sim_numberAt _
    | exact sim_loadCellsFrom _ _ _ _
    | exact sim_storeCells _ _ _
    | exact sim_sureAddr _
    | exact sim_noView _
    | exact sim_byteOf _
    | exact sim_partAt _ _ _
    | exact sim_fieldPlace _ _
    | exact sim_part _ _ _
    | (refine Sim.bind' ?_ fun _ => ?_)
    | dsimp only
    | split)
theorem sim_intCmp (op : BinOp) (x y : Int) : Sim P E (Op.intCmp op x y) := by
  unfold Op.intCmp
  repeat' (first
    | exact Sim.pure _
    | exact (never_stuck _).sim | exact ((never_stuck _).left).sim
    | exact (never_unsupported _).sim | exact ((never_unsupported _).left).sim
    | exact (never_runtimePanic _).sim | exact ((never_runtimePanic _).left).sim
    | exact (never_boundsPanic _ _ _ _).sim | exact ((never_boundsPanic _ _ _ _).left).sim
    | exact (never_goPanic _).sim | exact ((never_goPanic _).left).sim
    | exact sim_underlying _
    | exact sim_typeInfo _
    | exact sim_sizeOf _
    | exact sim_isAgg _
    | exact sim_zeroValue _
    | exact sim_newRow _ _
    | exact sim_newVar _ _
    | exact sim_newObj _
    | exact sim_loadVar _ _
    | exact sim_storeVar _ _ _
    | exact sim_asInt _
    | exact sim_asIntOf _
    | exact sim_asBool _
    | exact sim_asString _
    | exact sim_asAgg _
    | exact sim_asAddr _
    | exact sim_elemOf _
    | exact sim_load _ _
    | exact sim_store _ _ _
    | exact sim_choose _
    | exact sim_program
    | exact sim_askRoom _
    | exact sim_frozen _
    | exact sim_viewAt _
    | exact sim_numberAt _
    | exact sim_loadCellsFrom _ _ _ _
    | exact sim_storeCells _ _ _
    | exact sim_sureAddr _
    | exact sim_noView _
    | exact sim_byteOf _
    | exact sim_partAt _ _ _
    | exact sim_fieldPlace _ _
    | exact sim_part _ _ _
    | (refine Sim.bind' ?_ fun _ => ?_)
    | dsimp only
    | split)
theorem sim_stringOp (op : BinOp) (x y : ByteArray) : Sim P E (Op.stringOp op x y) := by
  unfold Op.stringOp
  repeat' (first
    | exact Sim.pure _
    | exact (never_stuck _).sim | exact ((never_stuck _).left).sim
    | exact (never_unsupported _).sim | exact ((never_unsupported _).left).sim
    | exact (never_runtimePanic _).sim | exact ((never_runtimePanic _).left).sim
    | exact (never_boundsPanic _ _ _ _).sim | exact ((never_boundsPanic _ _ _ _).left).sim
    | exact (never_goPanic _).sim | exact ((never_goPanic _).left).sim
    | exact sim_underlying _
    | exact sim_typeInfo _
    | exact sim_sizeOf _
    | exact sim_isAgg _
    | exact sim_zeroValue _
    | exact sim_newRow _ _
    | exact sim_newVar _ _
    | exact sim_newObj _
    | exact sim_loadVar _ _
    | exact sim_storeVar _ _ _
    | exact sim_asInt _
    | exact sim_asIntOf _
    | exact sim_asBool _
    | exact sim_asString _
    | exact sim_asAgg _
    | exact sim_asAddr _
    | exact sim_elemOf _
    | exact sim_load _ _
    | exact sim_store _ _ _
    | exact sim_choose _
    | exact sim_program
    | exact sim_askRoom _
    | exact sim_frozen _
    | exact sim_viewAt _
    | exact sim_numberAt _
    | exact sim_loadCellsFrom _ _ _ _
    | exact sim_storeCells _ _ _
    | exact sim_sureAddr _
    | exact sim_noView _
    | exact sim_byteOf _
    | exact sim_partAt _ _ _
    | exact sim_fieldPlace _ _
    | exact sim_part _ _ _
    | (refine Sim.bind' ?_ fun _ => ?_)
    | dsimp only
    | split)
theorem sim_shift (op : BinOp) (k : IntKind) (x : Int) (yk : IntKind) (y : Int) : Sim P E (Op.shift op k x yk y) := by
  unfold Op.shift
  repeat' (first
    | exact Sim.pure _
    | exact (never_stuck _).sim | exact ((never_stuck _).left).sim
    | exact (never_unsupported _).sim | exact ((never_unsupported _).left).sim
    | exact (never_runtimePanic _).sim | exact ((never_runtimePanic _).left).sim
    | exact (never_boundsPanic _ _ _ _).sim | exact ((never_boundsPanic _ _ _ _).left).sim
    | exact (never_goPanic _).sim | exact ((never_goPanic _).left).sim
    | exact sim_underlying _
    | exact sim_typeInfo _
    | exact sim_sizeOf _
    | exact sim_isAgg _
    | exact sim_zeroValue _
    | exact sim_newRow _ _
    | exact sim_newVar _ _
    | exact sim_newObj _
    | exact sim_loadVar _ _
    | exact sim_storeVar _ _ _
    | exact sim_asInt _
    | exact sim_asIntOf _
    | exact sim_asBool _
    | exact sim_asString _
    | exact sim_asAgg _
    | exact sim_asAddr _
    | exact sim_elemOf _
    | exact sim_load _ _
    | exact sim_store _ _ _
    | exact sim_choose _
    | exact sim_program
    | exact sim_askRoom _
    | exact sim_frozen _
    | exact sim_viewAt _
    | exact sim_numberAt _
    | exact sim_loadCellsFrom _ _ _ _
    | exact sim_storeCells _ _ _
    | exact sim_sureAddr _
    | exact sim_noView _
    | exact sim_byteOf _
    | exact sim_partAt _ _ _
    | exact sim_fieldPlace _ _
    | exact sim_part _ _ _
    | (refine Sim.bind' ?_ fun _ => ?_)
    | dsimp only
    | split)
theorem sim_floatArith (op : BinOp) (k : FloatKind) (x y : Nat) : Sim P E (Op.floatArith op k x y) := by
  unfold Op.floatArith
  repeat' (first
    | exact Sim.pure _
    | exact (never_stuck _).sim | exact ((never_stuck _).left).sim
    | exact (never_unsupported _).sim | exact ((never_unsupported _).left).sim
    | exact (never_runtimePanic _).sim | exact ((never_runtimePanic _).left).sim
    | exact (never_boundsPanic _ _ _ _).sim | exact ((never_boundsPanic _ _ _ _).left).sim
    | exact (never_goPanic _).sim | exact ((never_goPanic _).left).sim
    | exact sim_underlying _
    | exact sim_typeInfo _
    | exact sim_sizeOf _
    | exact sim_isAgg _
    | exact sim_zeroValue _
    | exact sim_newRow _ _
    | exact sim_newVar _ _
    | exact sim_newObj _
    | exact sim_loadVar _ _
    | exact sim_storeVar _ _ _
    | exact sim_asInt _
    | exact sim_asIntOf _
    | exact sim_asBool _
    | exact sim_asString _
    | exact sim_asAgg _
    | exact sim_asAddr _
    | exact sim_elemOf _
    | exact sim_load _ _
    | exact sim_store _ _ _
    | exact sim_choose _
    | exact sim_program
    | exact sim_askRoom _
    | exact sim_frozen _
    | exact sim_viewAt _
    | exact sim_numberAt _
    | exact sim_loadCellsFrom _ _ _ _
    | exact sim_storeCells _ _ _
    | exact sim_sureAddr _
    | exact sim_noView _
    | exact sim_byteOf _
    | exact sim_partAt _ _ _
    | exact sim_fieldPlace _ _
    | exact sim_part _ _ _
    | (refine Sim.bind' ?_ fun _ => ?_)
    | dsimp only
    | split)
theorem sim_floatCmp (op : BinOp) (k : FloatKind) (x y : Nat) : Sim P E (Op.floatCmp op k x y) := by
  unfold Op.floatCmp
  repeat' (first
    | exact Sim.pure _
    | exact (never_stuck _).sim | exact ((never_stuck _).left).sim
    | exact (never_unsupported _).sim | exact ((never_unsupported _).left).sim
    | exact (never_runtimePanic _).sim | exact ((never_runtimePanic _).left).sim
    | exact (never_boundsPanic _ _ _ _).sim | exact ((never_boundsPanic _ _ _ _).left).sim
    | exact (never_goPanic _).sim | exact ((never_goPanic _).left).sim
    | exact sim_underlying _
    | exact sim_typeInfo _
    | exact sim_sizeOf _
    | exact sim_isAgg _
    | exact sim_zeroValue _
    | exact sim_newRow _ _
    | exact sim_newVar _ _
    | exact sim_newObj _
    | exact sim_loadVar _ _
    | exact sim_storeVar _ _ _
    | exact sim_asInt _
    | exact sim_asIntOf _
    | exact sim_asBool _
    | exact sim_asString _
    | exact sim_asAgg _
    | exact sim_asAddr _
    | exact sim_elemOf _
    | exact sim_load _ _
    | exact sim_store _ _ _
    | exact sim_choose _
    | exact sim_program
    | exact sim_askRoom _
    | exact sim_frozen _
    | exact sim_viewAt _
    | exact sim_numberAt _
    | exact sim_loadCellsFrom _ _ _ _
    | exact sim_storeCells _ _ _
    | exact sim_sureAddr _
    | exact sim_noView _
    | exact sim_byteOf _
    | exact sim_partAt _ _ _
    | exact sim_fieldPlace _ _
    | exact sim_part _ _ _
    | (refine Sim.bind' ?_ fun _ => ?_)
    | dsimp only
    | split)
theorem sim_twoPlaces (a b : Addr) : Sim P E (Op.twoPlaces a b) := by
  unfold Op.twoPlaces
  repeat' (first
    | exact Sim.pure _
    | (refine Sim.shape _ (fun s => ?_) (never_unsupported _))
    | exact (never_stuck _).sim | exact ((never_stuck _).left).sim
    | exact (never_unsupported _).sim | exact ((never_unsupported _).left).sim
    | exact (never_runtimePanic _).sim | exact ((never_runtimePanic _).left).sim
    | exact (never_boundsPanic _ _ _ _).sim | exact ((never_boundsPanic _ _ _ _).left).sim
    | exact (never_goPanic _).sim | exact ((never_goPanic _).left).sim
    | exact sim_underlying _
    | exact sim_typeInfo _
    | exact sim_sizeOf _
    | exact sim_isAgg _
    | exact sim_zeroValue _
    | exact sim_newRow _ _
    | exact sim_newVar _ _
    | exact sim_newObj _
    | exact sim_loadVar _ _
    | exact sim_storeVar _ _ _
    | exact sim_asInt _
    | exact sim_asIntOf _
    | exact sim_asBool _
    | exact sim_asString _
    | exact sim_asAgg _
    | exact sim_asAddr _
    | exact sim_elemOf _
    | exact sim_load _ _
    | exact sim_store _ _ _
    | exact sim_choose _
    | exact sim_program
    | exact sim_askRoom _
    | exact sim_frozen _
    | exact sim_viewAt _
    | exact sim_numberAt _
    | exact sim_loadCellsFrom _ _ _ _
    | exact sim_storeCells _ _ _
    | exact sim_sureAddr _
    | exact sim_noView _
    | exact sim_byteOf _
    | exact sim_partAt _ _ _
    | exact sim_fieldPlace _ _
    | exact sim_part _ _ _
    | (refine Sim.bind' ?_ fun _ => ?_)
    | dsimp only
    | split)
theorem sim_addrSub (k : IntKind) (a b : Addr) : Sim P E (Op.addrSub k a b) := by
  unfold Op.addrSub
  repeat' (first
    | exact Sim.pure _
    | (refine Sim.shape _ (fun s => ?_) (never_unsupported _))
    | exact (never_stuck _).sim | exact ((never_stuck _).left).sim
    | exact (never_unsupported _).sim | exact ((never_unsupported _).left).sim
    | exact (never_runtimePanic _).sim | exact ((never_runtimePanic _).left).sim
    | exact (never_boundsPanic _ _ _ _).sim | exact ((never_boundsPanic _ _ _ _).left).sim
    | exact (never_goPanic _).sim | exact ((never_goPanic _).left).sim
    | exact sim_twoPlaces _ _
    | exact sim_underlying _
    | exact sim_typeInfo _
    | exact sim_sizeOf _
    | exact sim_isAgg _
    | exact sim_zeroValue _
    | exact sim_newRow _ _
    | exact sim_newVar _ _
    | exact sim_newObj _
    | exact sim_loadVar _ _
    | exact sim_storeVar _ _ _
    | exact sim_asInt _
    | exact sim_asIntOf _
    | exact sim_asBool _
    | exact sim_asString _
    | exact sim_asAgg _
    | exact sim_asAddr _
    | exact sim_elemOf _
    | exact sim_load _ _
    | exact sim_store _ _ _
    | exact sim_choose _
    | exact sim_program
    | exact sim_askRoom _
    | exact sim_frozen _
    | exact sim_viewAt _
    | exact sim_numberAt _
    | exact sim_loadCellsFrom _ _ _ _
    | exact sim_storeCells _ _ _
    | exact sim_sureAddr _
    | exact sim_noView _
    | exact sim_byteOf _
    | exact sim_partAt _ _ _
    | exact sim_fieldPlace _ _
    | exact sim_part _ _ _
    | (refine Sim.bind' ?_ fun _ => ?_)
    | dsimp only
    | split)
theorem sim_addrCmp (op : BinOp) (a b : Addr) : Sim P E (Op.addrCmp op a b) := by
  unfold Op.addrCmp
  repeat' (first
    | exact Sim.pure _
    | (refine Sim.shape _ (fun s => ?_) (never_unsupported _))
    | exact (never_stuck _).sim | exact ((never_stuck _).left).sim
    | exact (never_unsupported _).sim | exact ((never_unsupported _).left).sim
    | exact (never_runtimePanic _).sim | exact ((never_runtimePanic _).left).sim
    | exact (never_boundsPanic _ _ _ _).sim | exact ((never_boundsPanic _ _ _ _).left).sim
    | exact (never_goPanic _).sim | exact ((never_goPanic _).left).sim
    | exact sim_twoPlaces _ _
    | exact sim_underlying _
    | exact sim_typeInfo _
    | exact sim_sizeOf _
    | exact sim_isAgg _
    | exact sim_zeroValue _
    | exact sim_newRow _ _
    | exact sim_newVar _ _
    | exact sim_newObj _
    | exact sim_loadVar _ _
    | exact sim_storeVar _ _ _
    | exact sim_asInt _
    | exact sim_asIntOf _
    | exact sim_asBool _
    | exact sim_asString _
    | exact sim_asAgg _
    | exact sim_asAddr _
    | exact sim_elemOf _
    | exact sim_load _ _
    | exact sim_store _ _ _
    | exact sim_choose _
    | exact sim_program
    | exact sim_askRoom _
    | exact sim_frozen _
    | exact sim_viewAt _
    | exact sim_numberAt _
    | exact sim_loadCellsFrom _ _ _ _
    | exact sim_storeCells _ _ _
    | exact sim_sureAddr _
    | exact sim_noView _
    | exact sim_byteOf _
    | exact sim_partAt _ _ _
    | exact sim_fieldPlace _ _
    | exact sim_part _ _ _
    | (refine Sim.bind' ?_ fun _ => ?_)
    | dsimp only
    | split)
theorem sim_addrMod (k : IntKind) (a : Addr) (n : Int) : Sim P E (Op.addrMod k a n) := by
  unfold Op.addrMod
  repeat' (first
    | exact Sim.pure _
    | (refine Sim.shape _ (fun s => ?_) (never_unsupported _))
    | exact (never_stuck _).sim | exact ((never_stuck _).left).sim
    | exact (never_unsupported _).sim | exact ((never_unsupported _).left).sim
    | exact (never_runtimePanic _).sim | exact ((never_runtimePanic _).left).sim
    | exact (never_boundsPanic _ _ _ _).sim | exact ((never_boundsPanic _ _ _ _).left).sim
    | exact (never_goPanic _).sim | exact ((never_goPanic _).left).sim
    | exact sim_underlying _
    | exact sim_typeInfo _
    | exact sim_sizeOf _
    | exact sim_isAgg _
    | exact sim_zeroValue _
    | exact sim_newRow _ _
    | exact sim_newVar _ _
    | exact sim_newObj _
    | exact sim_loadVar _ _
    | exact sim_storeVar _ _ _
    | exact sim_asInt _
    | exact sim_asIntOf _
    | exact sim_asBool _
    | exact sim_asString _
    | exact sim_asAgg _
    | exact sim_asAddr _
    | exact sim_elemOf _
    | exact sim_load _ _
    | exact sim_store _ _ _
    | exact sim_choose _
    | exact sim_program
    | exact sim_askRoom _
    | exact sim_frozen _
    | exact sim_viewAt _
    | exact sim_numberAt _
    | exact sim_loadCellsFrom _ _ _ _
    | exact sim_storeCells _ _ _
    | exact sim_sureAddr _
    | exact sim_noView _
    | exact sim_byteOf _
    | exact sim_partAt _ _ _
    | exact sim_fieldPlace _ _
    | exact sim_part _ _ _
    | (refine Sim.bind' ?_ fun _ => ?_)
    | dsimp only
    | split)
end
end Lift
end Go.Proofs.Ytjehmdhcccmihaa
/-
  The model's operations, on: complex numbers, places compared, a binary operation whole.
-/
namespace Go.Proofs.Ytjehmdhcccmihaa
open Go.Conc
namespace Lift
section
variable {P : Program} {E : Gate} {α β : Type}
/-- is it a row of no cells? -/
theorem sim_none (r : Nat) : Sim P E (do Pure.pure ((← Go.shape r) matches some (_, 0)) : Sem Bool) := fun wl wc h v wl' hr hB => by
  have e1 : ∀ w : World, (do Pure.pure ((← Go.shape r) matches some (_, 0)) : Sem Bool).run P w = .ok ((w.shape? r) matches some (_, 0)) w := fun w => rfl
  have e2 : ∀ (w : World) es, (do Pure.pure ((← Go.shape r) matches some (_, 0)) : Sem Bool).runT P w es = (.ok ((w.shape? r) matches some (_, 0)) w, es) := fun w es => rfl
  rw [e1] at hr
  cases hr
  refine ⟨wc, #[], fun es => ?_, h.moved⟩
  rw [e2, Array.append_empty]
  congr 2
  rcases h.split r with hE | ⟨hE, arr, ty, arr', ty', h1, h2, _, h4⟩
  rotate_left
  · have s1 : wl.shape? r = none := by unfold World.shape?; rw [h1]
    have s2 : wc.shape? r = some (ty', arr'.size) := by unfold World.shape?; rw [h2]
    rw [s1, s2]
    split
    · rename_i heq
      injection heq with heq
      injection heq with _ heq
      exact absurd heq h4
    · rfl
  · have : wl.shape? r = wc.shape? r := by unfold World.shape?; rw [hE]
    rw [this]
theorem sim_stringish (a : Addr) : Sim P E (stringish a) := by
  unfold stringish
  refine Sim.bind' (sim_frozen _) fun b => ?_
  split
  · exact Sim.pure _
  · intro wl wc h v wl' hr hB
    have e1 : ∀ w : World, (do match ← Go.shape a.block with | some (_, n) => Go.frozen { block := a.block, off := n } | none => Pure.pure false : Sem Bool).run P w = .ok (match w.shape? a.block with | some (_, n) => w.frozen? { block := a.block, off := n } | none => false) w := fun w => by
      show ((fun s => (match s with | some (_, n) => Go.frozen { block := a.block, off := n } | none => Pure.pure false : Sem Bool)) (w.shape? a.block)).run P w = _
      cases w.shape? a.block <;> rfl
    have e2 : ∀ (w : World) es, (do match ← Go.shape a.block with | some (_, n) => Go.frozen { block := a.block, off := n } | none => Pure.pure false : Sem Bool).runT P w es = (.ok (match w.shape? a.block with | some (_, n) => w.frozen? { block := a.block, off := n } | none => false) w, es) := fun w es => by
      show ((fun s => (match s with | some (_, n) => Go.frozen { block := a.block, off := n } | none => Pure.pure false : Sem Bool)) (w.shape? a.block)).runT P w es = _
      cases w.shape? a.block <;> rfl
    have hr' := hr
    erw [e1] at hr'
    cases hr'
    refine ⟨wc, #[], fun es => ?_, h.moved⟩
    erw [e2]
    rw [Array.append_empty]
    congr 2
    rcases h.split a.block with hE | ⟨hE, arr, ty, arr', ty', h1, h2, _, h4⟩
    rotate_left
    · have s1 : wl.shape? a.block = none := by unfold World.shape?; rw [h1]
      have s2 : wc.shape? a.block = some (ty', arr'.size) := by unfold World.shape?; rw [h2]
      rw [s1, s2]
      simp only
      unfold World.frozen?
      simp only [h2]
      simp
    · have : wl.shape? a.block = wc.shape? a.block := by unfold World.shape?; rw [hE]
      rw [this]
      cases wc.shape? a.block with
      | none => rfl
      | some s => exact h.frozen _
theorem sim_mayBeOne (a b : Addr) : Sim P E (mayBeOne a b) := by
  unfold mayBeOne
  repeat' (first
    | exact Sim.pure _
    | exact (never_stuck _).sim | exact ((never_stuck _).left).sim
    | exact (never_unsupported _).sim | exact ((never_unsupported _).left).sim
    | exact (never_runtimePanic _).sim | exact ((never_runtimePanic _).left).sim
    | exact (never_boundsPanic _ _ _ _).sim | exact ((never_boundsPanic _ _ _ _).left).sim
    | exact (never_goPanic _).sim | exact ((never_goPanic _).left).sim
    | exact sim_stringish _
    | exact sim_none _
    | exact sim_underlying _
    | exact sim_typeInfo _
    | exact sim_sizeOf _
    | exact sim_isAgg _
    | exact sim_zeroValue _
    | exact sim_newRow _ _
    | exact sim_newVar _ _
    | exact sim_newObj _
    | exact sim_loadVar _ _
    | exact sim_storeVar _ _ _
    | exact sim_asInt _
    | exact sim_asIntOf _
    | exact sim_asBool _
    | exact sim_asString _
    | exact sim_asAgg _
    | exact sim_asAddr _
    | exact sim_elemOf _
    | exact sim_load _ _
    | exact sim_store _ _ _
    | exact sim_choose _
    | exact sim_program
    | exact sim_askRoom _
    | exact sim_frozen _
    | exact sim_viewAt _
    | exact sim_numberAt _
    | exact sim_loadCellsFrom _ _ _ _
    | exact sim_storeCells _ _ _
    | exact sim_sureAddr _
    | exact sim_noView _
    | exact sim_byteOf _
    | exact sim_partAt _ _ _
    | exact sim_fieldPlace _ _
    | exact sim_part _ _ _
    | (refine Sim.bind' ?_ fun _ => ?_)
    | dsimp only
    | split)
theorem sim_sameAddr (a b : Addr) : Sim P E (sameAddr a b) := by
  unfold sameAddr
  repeat' (first
    | exact Sim.pure _
    | exact (never_stuck _).sim | exact ((never_stuck _).left).sim
    | exact (never_unsupported _).sim | exact ((never_unsupported _).left).sim
    | exact (never_runtimePanic _).sim | exact ((never_runtimePanic _).left).sim
    | exact (never_boundsPanic _ _ _ _).sim | exact ((never_boundsPanic _ _ _ _).left).sim
    | exact (never_goPanic _).sim | exact ((never_goPanic _).left).sim
    | exact sim_mayBeOne _ _
    | exact sim_underlying _
    | exact sim_typeInfo _
    | exact sim_sizeOf _
    | exact sim_isAgg _
    | exact sim_zeroValue _
    | exact sim_newRow _ _
    | exact sim_newVar _ _
    | exact sim_newObj _
    | exact sim_loadVar _ _
    | exact sim_storeVar _ _ _
    | exact sim_asInt _
    | exact sim_asIntOf _
    | exact sim_asBool _
    | exact sim_asString _
    | exact sim_asAgg _
    | exact sim_asAddr _
    | exact sim_elemOf _
    | exact sim_load _ _
    | exact sim_store _ _ _
    | exact sim_choose _
    | exact sim_program
    | exact sim_askRoom _
    | exact sim_frozen _
    | exact sim_viewAt _
    | exact sim_numberAt _
    | exact sim_loadCellsFrom _ _ _ _
    | exact sim_storeCells _ _ _
    | exact sim_sureAddr _
    | exact sim_noView _
    | exact sim_byteOf _
    | exact sim_partAt _ _ _
    | exact sim_fieldPlace _ _
    | exact sim_part _ _ _
    | (refine Sim.bind' ?_ fun _ => ?_)
    | dsimp only
    | split)
theorem sim_samePointer (a b : Option Addr) : Sim P E (samePointer a b) := by
  unfold samePointer
  repeat' (first
    | exact Sim.pure _
    | exact (never_stuck _).sim | exact ((never_stuck _).left).sim
    | exact (never_unsupported _).sim | exact ((never_unsupported _).left).sim
    | exact (never_runtimePanic _).sim | exact ((never_runtimePanic _).left).sim
    | exact (never_boundsPanic _ _ _ _).sim | exact ((never_boundsPanic _ _ _ _).left).sim
    | exact (never_goPanic _).sim | exact ((never_goPanic _).left).sim
    | exact sim_sameAddr _ _
    | exact sim_underlying _
    | exact sim_typeInfo _
    | exact sim_sizeOf _
    | exact sim_isAgg _
    | exact sim_zeroValue _
    | exact sim_newRow _ _
    | exact sim_newVar _ _
    | exact sim_newObj _
    | exact sim_loadVar _ _
    | exact sim_storeVar _ _ _
    | exact sim_asInt _
    | exact sim_asIntOf _
    | exact sim_asBool _
    | exact sim_asString _
    | exact sim_asAgg _
    | exact sim_asAddr _
    | exact sim_elemOf _
    | exact sim_load _ _
    | exact sim_store _ _ _
    | exact sim_choose _
    | exact sim_program
    | exact sim_askRoom _
    | exact sim_frozen _
    | exact sim_viewAt _
    | exact sim_numberAt _
    | exact sim_loadCellsFrom _ _ _ _
    | exact sim_storeCells _ _ _
    | exact sim_sureAddr _
    | exact sim_noView _
    | exact sim_byteOf _
    | exact sim_partAt _ _ _
    | exact sim_fieldPlace _ _
    | exact sim_part _ _ _
    | (refine Sim.bind' ?_ fun _ => ?_)
    | dsimp only
    | split)
theorem sim_floatToFloat (s : FloatKind) (b : Nat) (d : FloatKind) : Sim P E (Conv.floatToFloat s b d) := by
  unfold Conv.floatToFloat
  repeat' (first
    | exact Sim.pure _
    | exact (never_stuck _).sim | exact ((never_stuck _).left).sim
    | exact (never_unsupported _).sim | exact ((never_unsupported _).left).sim
    | exact (never_runtimePanic _).sim | exact ((never_runtimePanic _).left).sim
    | exact (never_boundsPanic _ _ _ _).sim | exact ((never_boundsPanic _ _ _ _).left).sim
    | exact (never_goPanic _).sim | exact ((never_goPanic _).left).sim
    | exact sim_underlying _
    | exact sim_typeInfo _
    | exact sim_sizeOf _
    | exact sim_isAgg _
    | exact sim_zeroValue _
    | exact sim_newRow _ _
    | exact sim_newVar _ _
    | exact sim_newObj _
    | exact sim_loadVar _ _
    | exact sim_storeVar _ _ _
    | exact sim_asInt _
    | exact sim_asIntOf _
    | exact sim_asBool _
    | exact sim_asString _
    | exact sim_asAgg _
    | exact sim_asAddr _
    | exact sim_elemOf _
    | exact sim_load _ _
    | exact sim_store _ _ _
    | exact sim_choose _
    | exact sim_program
    | exact sim_askRoom _
    | exact sim_frozen _
    | exact sim_viewAt _
    | exact sim_numberAt _
    | exact sim_loadCellsFrom _ _ _ _
    | exact sim_storeCells _ _ _
    | exact sim_sureAddr _
    | exact sim_noView _
    | exact sim_byteOf _
    | exact sim_partAt _ _ _
    | exact sim_fieldPlace _ _
    | exact sim_part _ _ _
    | (refine Sim.bind' ?_ fun _ => ?_)
    | dsimp only
    | split)
theorem sim_floatToInt (s : FloatKind) (b : Nat) (d : IntKind) : Sim P E (Conv.floatToInt s b d) := by
  unfold Conv.floatToInt
  repeat' (first
    | exact Sim.pure _
    | exact (never_stuck _).sim | exact ((never_stuck _).left).sim
    | exact (never_unsupported _).sim | exact ((never_unsupported _).left).sim
    | exact (never_runtimePanic _).sim | exact ((never_runtimePanic _).left).sim
    | exact (never_boundsPanic _ _ _ _).sim | exact ((never_boundsPanic _ _ _ _).left).sim
    | exact (never_goPanic _).sim | exact ((never_goPanic _).left).sim
    | exact sim_underlying _
    | exact sim_typeInfo _
    | exact sim_sizeOf _
    | exact sim_isAgg _
    | exact sim_zeroValue _
    | exact sim_newRow _ _
    | exact sim_newVar _ _
    | exact sim_newObj _
    | exact sim_loadVar _ _
    | exact sim_storeVar _ _ _
    | exact sim_asInt _
    | exact sim_asIntOf _
    | exact sim_asBool _
    | exact sim_asString _
    | exact sim_asAgg _
    | exact sim_asAddr _
    | exact sim_elemOf _
    | exact sim_load _ _
    | exact sim_store _ _ _
    | exact sim_choose _
    | exact sim_program
    | exact sim_askRoom _
    | exact sim_frozen _
    | exact sim_viewAt _
    | exact sim_numberAt _
    | exact sim_loadCellsFrom _ _ _ _
    | exact sim_storeCells _ _ _
    | exact sim_sureAddr _
    | exact sim_noView _
    | exact sim_byteOf _
    | exact sim_partAt _ _ _
    | exact sim_fieldPlace _ _
    | exact sim_part _ _ _
    | (refine Sim.bind' ?_ fun _ => ?_)
    | dsimp only
    | split)
theorem sim_carith (op : BinOp) (k : FloatKind) (x y : Nat) : Sim P E (Op.Complex.arith op k x y) := by
  unfold Op.Complex.arith
  repeat' (first
    | exact Sim.pure _
    | exact (never_stuck _).sim | exact ((never_stuck _).left).sim
    | exact (never_unsupported _).sim | exact ((never_unsupported _).left).sim
    | exact (never_runtimePanic _).sim | exact ((never_runtimePanic _).left).sim
    | exact (never_boundsPanic _ _ _ _).sim | exact ((never_boundsPanic _ _ _ _).left).sim
    | exact (never_goPanic _).sim | exact ((never_goPanic _).left).sim
    | exact sim_floatArith _ _ _ _
    | exact sim_underlying _
    | exact sim_typeInfo _
    | exact sim_sizeOf _
    | exact sim_isAgg _
    | exact sim_zeroValue _
    | exact sim_newRow _ _
    | exact sim_newVar _ _
    | exact sim_newObj _
    | exact sim_loadVar _ _
    | exact sim_storeVar _ _ _
    | exact sim_asInt _
    | exact sim_asIntOf _
    | exact sim_asBool _
    | exact sim_asString _
    | exact sim_asAgg _
    | exact sim_asAddr _
    | exact sim_elemOf _
    | exact sim_load _ _
    | exact sim_store _ _ _
    | exact sim_choose _
    | exact sim_program
    | exact sim_askRoom _
    | exact sim_frozen _
    | exact sim_viewAt _
    | exact sim_numberAt _
    | exact sim_loadCellsFrom _ _ _ _
    | exact sim_storeCells _ _ _
    | exact sim_sureAddr _
    | exact sim_noView _
    | exact sim_byteOf _
    | exact sim_partAt _ _ _
    | exact sim_fieldPlace _ _
    | exact sim_part _ _ _
    | (refine Sim.bind' ?_ fun _ => ?_)
    | dsimp only
    | split)
theorem sim_ccmp (op : BinOp) (k : FloatKind) (x y : Nat) : Sim P E (Op.Complex.cmp op k x y) := by
  unfold Op.Complex.cmp
  repeat' (first
    | exact Sim.pure _
    | exact (never_stuck _).sim | exact ((never_stuck _).left).sim
    | exact (never_unsupported _).sim | exact ((never_unsupported _).left).sim
    | exact (never_runtimePanic _).sim | exact ((never_runtimePanic _).left).sim
    | exact (never_boundsPanic _ _ _ _).sim | exact ((never_boundsPanic _ _ _ _).left).sim
    | exact (never_goPanic _).sim | exact ((never_goPanic _).left).sim
    | exact sim_floatCmp _ _ _ _
    | exact sim_underlying _
    | exact sim_typeInfo _
    | exact sim_sizeOf _
    | exact sim_isAgg _
    | exact sim_zeroValue _
    | exact sim_newRow _ _
    | exact sim_newVar _ _
    | exact sim_newObj _
    | exact sim_loadVar _ _
    | exact sim_storeVar _ _ _
    | exact sim_asInt _
    | exact sim_asIntOf _
    | exact sim_asBool _
    | exact sim_asString _
    | exact sim_asAgg _
    | exact sim_asAddr _
    | exact sim_elemOf _
    | exact sim_load _ _
    | exact sim_store _ _ _
    | exact sim_choose _
    | exact sim_program
    | exact sim_askRoom _
    | exact sim_frozen _
    | exact sim_viewAt _
    | exact sim_numberAt _
    | exact sim_loadCellsFrom _ _ _ _
    | exact sim_storeCells _ _ _
    | exact sim_sureAddr _
    | exact sim_noView _
    | exact sim_byteOf _
    | exact sim_partAt _ _ _
    | exact sim_fieldPlace _ _
    | exact sim_part _ _ _
    | (refine Sim.bind' ?_ fun _ => ?_)
    | dsimp only
    | split)
theorem sim_cconv (s : FloatKind) (x : Nat) (d : FloatKind) : Sim P E (Op.Complex.conv s x d) := by
  unfold Op.Complex.conv
  repeat' (first
    | exact Sim.pure _
    | exact (never_stuck _).sim | exact ((never_stuck _).left).sim
    | exact (never_unsupported _).sim | exact ((never_unsupported _).left).sim
    | exact (never_runtimePanic _).sim | exact ((never_runtimePanic _).left).sim
    | exact (never_boundsPanic _ _ _ _).sim | exact ((never_boundsPanic _ _ _ _).left).sim
    | exact (never_goPanic _).sim | exact ((never_goPanic _).left).sim
    | exact sim_floatToFloat _ _ _
    | exact sim_underlying _
    | exact sim_typeInfo _
    | exact sim_sizeOf _
    | exact sim_isAgg _
    | exact sim_zeroValue _
    | exact sim_newRow _ _
    | exact sim_newVar _ _
    | exact sim_newObj _
    | exact sim_loadVar _ _
    | exact sim_storeVar _ _ _
    | exact sim_asInt _
    | exact sim_asIntOf _
    | exact sim_asBool _
    | exact sim_asString _
    | exact sim_asAgg _
    | exact sim_asAddr _
    | exact sim_elemOf _
    | exact sim_load _ _
    | exact sim_store _ _ _
    | exact sim_choose _
    | exact sim_program
    | exact sim_askRoom _
    | exact sim_frozen _
    | exact sim_viewAt _
    | exact sim_numberAt _
    | exact sim_loadCellsFrom _ _ _ _
    | exact sim_storeCells _ _ _
    | exact sim_sureAddr _
    | exact sim_noView _
    | exact sim_byteOf _
    | exact sim_partAt _ _ _
    | exact sim_fieldPlace _ _
    | exact sim_part _ _ _
    | (refine Sim.bind' ?_ fun _ => ?_)
    | dsimp only
    | split)
theorem sim_cadd (x y : Nat) : Sim P E (Op.Complex.add x y) := sim_carith _ _ _ _
theorem sim_csub (x y : Nat) : Sim P E (Op.Complex.sub x y) := sim_carith _ _ _ _
theorem sim_cmul (x y : Nat) : Sim P E (Op.Complex.mul x y) := sim_carith _ _ _ _
theorem sim_cquo (x y : Nat) : Sim P E (Op.Complex.quo x y) := sim_carith _ _ _ _
theorem sim_product (a b c d : Nat) : Sim P E (Op.Complex.product a b c d) := by
  unfold Op.Complex.product
  repeat' (first
    | with_reducible exact Sim.pure' _
    | with_reducible exact sim_cadd _ _
    | with_reducible exact sim_csub _ _
    | with_reducible exact sim_cmul _ _
    | with_reducible exact sim_cquo _ _
    | with_reducible exact sim_ccmp _ _ _ _
    | with_reducible (refine Sim.bind' ?_ fun _ => ?_)
    | split
    | dsimp only)
theorem sim_corrected (s a b c d : Nat) : Sim P E (Op.Complex.corrected s a b c d) := by
  unfold Op.Complex.corrected
  repeat' (first
    | with_reducible exact Sim.pure' _
    | with_reducible exact sim_cadd _ _
    | with_reducible exact sim_csub _ _
    | with_reducible exact sim_cmul _ _
    | with_reducible exact sim_cquo _ _
    | with_reducible exact sim_ccmp _ _ _ _
    | with_reducible (refine Sim.bind' ?_ fun _ => ?_)
    | split
    | dsimp only)
theorem sim_quotient (a b c d : Nat) : Sim P E (Op.Complex.quotient a b c d) := by
  unfold Op.Complex.quotient
  repeat' (first
    | with_reducible exact Sim.pure' _
    | with_reducible exact sim_cadd _ _
    | with_reducible exact sim_csub _ _
    | with_reducible exact sim_cmul _ _
    | with_reducible exact sim_cquo _ _
    | with_reducible exact sim_ccmp _ _ _ _
    | with_reducible exact sim_corrected _ _ _ _ _
    | with_reducible (refine Sim.bind' ?_ fun _ => ?_)
    | split
    | dsimp only)
theorem sim_complexOp (op : BinOp) (k : FloatKind) (a b c d : Nat) : Sim P E (Op.complexOp op k a b c d) := by
  unfold Op.complexOp
  repeat' (first
    | with_reducible exact Sim.pure' _
    | with_reducible exact (never_stuck _).sim
    | with_reducible exact sim_carith _ _ _ _
    | with_reducible exact sim_ccmp _ _ _ _
    | with_reducible exact sim_cconv _ _ _
    | with_reducible exact sim_product _ _ _ _
    | with_reducible exact sim_quotient _ _ _ _
    | with_reducible (refine Sim.bind' ?_ fun _ => ?_)
    | split
    | dsimp only)
end
end Lift
end Go.Proofs.Ytjehmdhcccmihaa
/-
  The model's operations, on: a binary operation whole, conversions of numbers, length, least and greatest.
-/
namespace Go.Proofs.Ytjehmdhcccmihaa
open Go.Conc
namespace Lift
section
variable {P : Program} {E : Gate} {α β : Type}
/-- types whose values are compared without a look at parts -/
def Plain (P : Program) (t : TypeId) : Prop := (∃ k, P.underlying t = some (.int k)) ∨ P.underlying t = some .string ∨ P.underlying t = some .bool ∨ (∃ e, P.underlying t = some (.pointer e)) ∨ ∃ e, P.underlying t = some (.slice e)
theorem sim_eqGuardIn {t : TypeId} (h : Plain P t) (d : Nat) (x y : Value) : Sim P E (Op.eqGuardIn (d + 1) t x y) := by
  unfold Op.eqGuardIn
  rcases h with ⟨k, h⟩ | h | h | ⟨e, h⟩ | ⟨e, h⟩ <;> refine Sim.known h ?_ <;> (split <;> first | exact Sim.pure _ | (rename_i heq; cases heq) | skip)
theorem sim_eqGuard {t : TypeId} (h : Plain P t) (op : BinOp) (x y : Operand) (a b : Value) : Sim P E (eqGuard op t x y a b) := by
  have hg := fun x y => sim_eqGuardIn (E := E) h 9999 x y
  unfold eqGuard
  repeat' (first
    | exact Sim.pure _
    | exact (never_stuck _).sim | exact ((never_stuck _).left).sim
    | exact (never_unsupported _).sim | exact ((never_unsupported _).left).sim
    | exact (never_runtimePanic _).sim | exact ((never_runtimePanic _).left).sim
    | exact (never_boundsPanic _ _ _ _).sim | exact ((never_boundsPanic _ _ _ _).left).sim
    | exact (never_goPanic _).sim | exact ((never_goPanic _).left).sim
    | exact hg _ _
    | exact sim_underlying _
    | exact sim_typeInfo _
    | exact sim_sizeOf _
    | exact sim_isAgg _
    | exact sim_zeroValue _
    | exact sim_newRow _ _
    | exact sim_newVar _ _
    | exact sim_newObj _
    | exact sim_loadVar _ _
    | exact sim_storeVar _ _ _
    | exact sim_asInt _
    | exact sim_asIntOf _
    | exact sim_asBool _
    | exact sim_asString _
    | exact sim_asAgg _
    | exact sim_asAddr _
    | exact sim_elemOf _
    | exact sim_load _ _
    | exact sim_store _ _ _
    | exact sim_choose _
    | exact sim_program
    | exact sim_askRoom _
    | exact sim_frozen _
    | exact sim_viewAt _
    | exact sim_numberAt _
    | exact sim_loadCellsFrom _ _ _ _
    | exact sim_storeCells _ _ _
    | exact sim_sureAddr _
    | exact sim_noView _
    | exact sim_byteOf _
    | exact sim_partAt _ _ _
    | exact sim_fieldPlace _ _
    | exact sim_part _ _ _
    | (refine Sim.bind' ?_ fun _ => ?_)
    | dsimp only
    | split)
set_option maxHeartbeats 4000000 in
theorem sim_equalIn {t : TypeId} (h : Plain P t) (d : Nat) (x y : Value) : Sim P E (Op.equalIn (d + 1) t x y) := by
  unfold Op.equalIn
  rcases h with ⟨k, h⟩ | h | h | ⟨e, h⟩ | ⟨e, h⟩ <;> refine Sim.known h ?_
  all_goals split
  all_goals (first | with_reducible exact Sim.pure' _ | with_reducible exact (never_stuck _).sim | with_reducible exact (never_unsupported _).sim | (rename_i heq; cases heq) | (rename_i heq _; cases heq) | (rename_i heq _ _; cases heq) | skip)
  all_goals
    repeat' (first
      | with_reducible exact Sim.pure' _
      | with_reducible exact (never_stuck _).sim | with_reducible exact ((never_stuck _).left).sim
      | with_reducible exact (never_unsupported _).sim | with_reducible exact ((never_unsupported _).left).sim
      | with_reducible exact (never_runtimePanic _).sim | with_reducible exact ((never_runtimePanic _).left).sim
      | with_reducible exact (never_boundsPanic _ _ _ _).sim | with_reducible exact ((never_boundsPanic _ _ _ _).left).sim
      | with_reducible exact (never_goPanic _).sim | with_reducible exact ((never_goPanic _).left).sim
      | with_reducible exact sim_behindNumber _
      | with_reducible exact sim_sameAddr _ _
      | with_reducible exact sim_underlying _
      | with_reducible exact sim_typeInfo _
      | with_reducible exact sim_sizeOf _
      | with_reducible exact sim_isAgg _
      | with_reducible exact sim_zeroValue _
      | with_reducible exact sim_newRow _ _
      | with_reducible exact sim_newVar _ _
      | with_reducible exact sim_newObj _
      | with_reducible exact sim_loadVar _ _
      | with_reducible exact sim_storeVar _ _ _
      | with_reducible exact sim_asInt _
      | with_reducible exact sim_asIntOf _
      | with_reducible exact sim_asBool _
      | with_reducible exact sim_asString _
      | with_reducible exact sim_asAgg _
      | with_reducible exact sim_asAddr _
      | with_reducible exact sim_elemOf _
      | with_reducible exact sim_load _ _
      | with_reducible exact sim_store _ _ _
      | with_reducible exact sim_choose _
      | with_reducible exact sim_program
      | with_reducible exact sim_askRoom _
      | with_reducible exact sim_frozen _
      | with_reducible exact sim_viewAt _
      | with_reducible exact sim_numberAt _
      | with_reducible exact sim_loadCellsFrom _ _ _ _
      | with_reducible exact sim_storeCells _ _ _
      | with_reducible exact sim_sureAddr _
      | with_reducible exact sim_noView _
      | with_reducible exact sim_byteOf _
      | with_reducible exact sim_partAt _ _ _
      | with_reducible exact sim_fieldPlace _ _
      | with_reducible exact sim_part _ _ _
      | with_reducible (refine Sim.bind' ?_ fun _ => ?_)
      | split
      | dsimp only)
theorem sim_equal {t : TypeId} (h : Plain P t) (x y : Value) : Sim P E (Op.equal t x y) := sim_equalIn h 9999 x y

set_option maxHeartbeats 4000000 in
theorem sim_binOp {t : TypeId} (h : Plain P t) (op : BinOp) (x y : Value) : Sim P E (binOp op t x y) := by
  have he := fun x y => sim_equal (E := E) h x y
  unfold binOp
  repeat' (first
    | with_reducible exact Sim.pure' _
    | with_reducible exact (never_stuck _).sim | with_reducible exact ((never_stuck _).left).sim
    | with_reducible exact (never_unsupported _).sim | with_reducible exact ((never_unsupported _).left).sim
    | with_reducible exact (never_runtimePanic _).sim | with_reducible exact ((never_runtimePanic _).left).sim
    | with_reducible exact (never_boundsPanic _ _ _ _).sim | with_reducible exact ((never_boundsPanic _ _ _ _).left).sim
    | with_reducible exact (never_goPanic _).sim | with_reducible exact ((never_goPanic _).left).sim
    | with_reducible exact sim_shift _ _ _ _ _
    | with_reducible exact sim_intArith _ _ _ _
    | with_reducible exact sim_intDiv _ _ _ _
    | with_reducible exact sim_intBits _ _ _ _
    | with_reducible exact sim_intCmp _ _ _
    | with_reducible exact sim_floatArith _ _ _ _
    | with_reducible exact sim_floatCmp _ _ _ _
    | with_reducible exact sim_complexOp _ _ _ _ _ _
    | with_reducible exact sim_stringOp _ _ _
    | with_reducible exact he _ _
    | with_reducible exact sim_movedPointer _ _ _
    | with_reducible exact sim_movedNumber _ _ _
    | with_reducible exact sim_addrSub _ _ _
    | with_reducible exact sim_addrCmp _ _ _
    | with_reducible exact sim_addrMod _ _ _
    | with_reducible exact sim_behindNumber _
    | with_reducible exact sim_underlying _
    | with_reducible exact sim_typeInfo _
    | with_reducible exact sim_sizeOf _
    | with_reducible exact sim_isAgg _
    | with_reducible exact sim_zeroValue _
    | with_reducible exact sim_newRow _ _
    | with_reducible exact sim_newVar _ _
    | with_reducible exact sim_newObj _
    | with_reducible exact sim_loadVar _ _
    | with_reducible exact sim_storeVar _ _ _
    | with_reducible exact sim_asInt _
    | with_reducible exact sim_asIntOf _
    | with_reducible exact sim_asBool _
    | with_reducible exact sim_asString _
    | with_reducible exact sim_asAgg _
    | with_reducible exact sim_asAddr _
    | with_reducible exact sim_elemOf _
    | with_reducible exact sim_load _ _
    | with_reducible exact sim_store _ _ _
    | with_reducible exact sim_choose _
    | with_reducible exact sim_program
    | with_reducible exact sim_askRoom _
    | with_reducible exact sim_frozen _
    | with_reducible exact sim_viewAt _
    | with_reducible exact sim_numberAt _
    | with_reducible exact sim_loadCellsFrom _ _ _ _
    | with_reducible exact sim_storeCells _ _ _
    | with_reducible exact sim_sureAddr _
    | with_reducible exact sim_noView _
    | with_reducible exact sim_byteOf _
    | with_reducible exact sim_partAt _ _ _
    | with_reducible exact sim_fieldPlace _ _
    | with_reducible exact sim_part _ _ _
    | with_reducible (refine Sim.bind' ?_ fun _ => ?_)
    | split
    | dsimp only)
theorem sim_unary (op : UnOp) (x : Value) : Sim P E (Op.unary op x) := by
  unfold Op.unary
  repeat' (first
    | with_reducible exact Sim.pure' _
    | with_reducible exact (never_stuck _).sim | with_reducible exact ((never_stuck _).left).sim
    | with_reducible exact (never_unsupported _).sim | with_reducible exact ((never_unsupported _).left).sim
    | with_reducible exact (never_runtimePanic _).sim | with_reducible exact ((never_runtimePanic _).left).sim
    | with_reducible exact (never_boundsPanic _ _ _ _).sim | with_reducible exact ((never_boundsPanic _ _ _ _).left).sim
    | with_reducible exact (never_goPanic _).sim | with_reducible exact ((never_goPanic _).left).sim
    | with_reducible exact sim_intArith _ _ _ _
    | with_reducible exact sim_intBits _ _ _ _
    | with_reducible exact sim_underlying _
    | with_reducible exact sim_typeInfo _
    | with_reducible exact sim_sizeOf _
    | with_reducible exact sim_isAgg _
    | with_reducible exact sim_zeroValue _
    | with_reducible exact sim_newRow _ _
    | with_reducible exact sim_newVar _ _
    | with_reducible exact sim_newObj _
    | with_reducible exact sim_loadVar _ _
    | with_reducible exact sim_storeVar _ _ _
    | with_reducible exact sim_asInt _
    | with_reducible exact sim_asIntOf _
    | with_reducible exact sim_asBool _
    | with_reducible exact sim_asString _
    | with_reducible exact sim_asAgg _
    | with_reducible exact sim_asAddr _
    | with_reducible exact sim_elemOf _
    | with_reducible exact sim_load _ _
    | with_reducible exact sim_store _ _ _
    | with_reducible exact sim_choose _
    | with_reducible exact sim_program
    | with_reducible exact sim_askRoom _
    | with_reducible exact sim_frozen _
    | with_reducible exact sim_viewAt _
    | with_reducible exact sim_numberAt _
    | with_reducible exact sim_loadCellsFrom _ _ _ _
    | with_reducible exact sim_storeCells _ _ _
    | with_reducible exact sim_sureAddr _
    | with_reducible exact sim_noView _
    | with_reducible exact sim_byteOf _
    | with_reducible exact sim_partAt _ _ _
    | with_reducible exact sim_fieldPlace _ _
    | with_reducible exact sim_part _ _ _
    | with_reducible (refine Sim.bind' ?_ fun _ => ?_)
    | split
    | dsimp only)
theorem sim_intToInt (k : IntKind) (n : Int) : Sim P E (Conv.intToInt k n) := Sim.pure _
set_option maxHeartbeats 4000000 in
theorem sim_convertInt {s t : TypeId} {k k' : IntKind} (hs : P.underlying s = some (.int k)) (ht : P.underlying t = some (.int k')) (x : Value) : Sim P E (convert s t x) := by
  unfold convert
  refine Sim.known hs (Sim.known ht ?_)
  split
  all_goals (first | contradiction | skip)
  all_goals
    repeat' (first
      | with_reducible exact Sim.pure' _
      | with_reducible exact (never_stuck _).sim | with_reducible exact ((never_stuck _).left).sim
      | with_reducible exact (never_unsupported _).sim | with_reducible exact ((never_unsupported _).left).sim
      | with_reducible exact (never_runtimePanic _).sim | with_reducible exact ((never_runtimePanic _).left).sim
      | with_reducible exact (never_boundsPanic _ _ _ _).sim | with_reducible exact ((never_boundsPanic _ _ _ _).left).sim
      | with_reducible exact (never_goPanic _).sim | with_reducible exact ((never_goPanic _).left).sim
      | with_reducible exact sim_intToInt _ _
      | with_reducible exact sim_floatToInt _ _ _
      | with_reducible exact sim_underlying _
      | with_reducible exact sim_typeInfo _
      | with_reducible exact sim_sizeOf _
      | with_reducible exact sim_isAgg _
      | with_reducible exact sim_zeroValue _
      | with_reducible exact sim_newRow _ _
      | with_reducible exact sim_newVar _ _
      | with_reducible exact sim_newObj _
      | with_reducible exact sim_loadVar _ _
      | with_reducible exact sim_storeVar _ _ _
      | with_reducible exact sim_asInt _
      | with_reducible exact sim_asIntOf _
      | with_reducible exact sim_asBool _
      | with_reducible exact sim_asString _
      | with_reducible exact sim_asAgg _
      | with_reducible exact sim_asAddr _
      | with_reducible exact sim_elemOf _
      | with_reducible exact sim_load _ _
      | with_reducible exact sim_store _ _ _
      | with_reducible exact sim_choose _
      | with_reducible exact sim_program
      | with_reducible exact sim_askRoom _
      | with_reducible exact sim_frozen _
      | with_reducible exact sim_viewAt _
      | with_reducible exact sim_numberAt _
      | with_reducible exact sim_loadCellsFrom _ _ _ _
      | with_reducible exact sim_storeCells _ _ _
      | with_reducible exact sim_sureAddr _
      | with_reducible exact sim_noView _
      | with_reducible exact sim_byteOf _
      | with_reducible exact sim_partAt _ _ _
      | with_reducible exact sim_fieldPlace _ _
      | with_reducible exact sim_part _ _ _
      | with_reducible (refine Sim.bind' ?_ fun _ => ?_)
      | split
      | dsimp only)

theorem sim_min2 (x y : Value) : Sim P E (Builtin.min2 x y) := by
  unfold Builtin.min2
  repeat' (first
    | with_reducible exact Sim.pure' _
    | with_reducible exact (never_stuck _).sim | with_reducible exact ((never_stuck _).left).sim
    | with_reducible exact (never_unsupported _).sim | with_reducible exact ((never_unsupported _).left).sim
    | with_reducible exact (never_runtimePanic _).sim | with_reducible exact ((never_runtimePanic _).left).sim
    | with_reducible exact (never_boundsPanic _ _ _ _).sim | with_reducible exact ((never_boundsPanic _ _ _ _).left).sim
    | with_reducible exact (never_goPanic _).sim | with_reducible exact ((never_goPanic _).left).sim
    | with_reducible exact sim_stringOp _ _ _
    | with_reducible exact sim_underlying _
    | with_reducible exact sim_typeInfo _
    | with_reducible exact sim_sizeOf _
    | with_reducible exact sim_isAgg _
    | with_reducible exact sim_zeroValue _
    | with_reducible exact sim_newRow _ _
    | with_reducible exact sim_newVar _ _
    | with_reducible exact sim_newObj _
    | with_reducible exact sim_loadVar _ _
    | with_reducible exact sim_storeVar _ _ _
    | with_reducible exact sim_asInt _
    | with_reducible exact sim_asIntOf _
    | with_reducible exact sim_asBool _
    | with_reducible exact sim_asString _
    | with_reducible exact sim_asAgg _
    | with_reducible exact sim_asAddr _
    | with_reducible exact sim_elemOf _
    | with_reducible exact sim_load _ _
    | with_reducible exact sim_store _ _ _
    | with_reducible exact sim_choose _
    | with_reducible exact sim_program
    | with_reducible exact sim_askRoom _
    | with_reducible exact sim_frozen _
    | with_reducible exact sim_viewAt _
    | with_reducible exact sim_numberAt _
    | with_reducible exact sim_loadCellsFrom _ _ _ _
    | with_reducible exact sim_storeCells _ _ _
    | with_reducible exact sim_sureAddr _
    | with_reducible exact sim_noView _
    | with_reducible exact sim_byteOf _
    | with_reducible exact sim_partAt _ _ _
    | with_reducible exact sim_fieldPlace _ _
    | with_reducible exact sim_part _ _ _
    | with_reducible (refine Sim.bind' ?_ fun _ => ?_)
    | split
    | dsimp only)
theorem sim_max2 (x y : Value) : Sim P E (Builtin.max2 x y) := by
  unfold Builtin.max2
  repeat' (first
    | with_reducible exact Sim.pure' _
    | with_reducible exact (never_stuck _).sim | with_reducible exact ((never_stuck _).left).sim
    | with_reducible exact (never_unsupported _).sim | with_reducible exact ((never_unsupported _).left).sim
    | with_reducible exact (never_runtimePanic _).sim | with_reducible exact ((never_runtimePanic _).left).sim
    | with_reducible exact (never_boundsPanic _ _ _ _).sim | with_reducible exact ((never_boundsPanic _ _ _ _).left).sim
    | with_reducible exact (never_goPanic _).sim | with_reducible exact ((never_goPanic _).left).sim
    | with_reducible exact sim_stringOp _ _ _
    | with_reducible exact sim_underlying _
    | with_reducible exact sim_typeInfo _
    | with_reducible exact sim_sizeOf _
    | with_reducible exact sim_isAgg _
    | with_reducible exact sim_zeroValue _
    | with_reducible exact sim_newRow _ _
    | with_reducible exact sim_newVar _ _
    | with_reducible exact sim_newObj _
    | with_reducible exact sim_loadVar _ _
    | with_reducible exact sim_storeVar _ _ _
    | with_reducible exact sim_asInt _
    | with_reducible exact sim_asIntOf _
    | with_reducible exact sim_asBool _
    | with_reducible exact sim_asString _
    | with_reducible exact sim_asAgg _
    | with_reducible exact sim_asAddr _
    | with_reducible exact sim_elemOf _
    | with_reducible exact sim_load _ _
    | with_reducible exact sim_store _ _ _
    | with_reducible exact sim_choose _
    | with_reducible exact sim_program
    | with_reducible exact sim_askRoom _
    | with_reducible exact sim_frozen _
    | with_reducible exact sim_viewAt _
    | with_reducible exact sim_numberAt _
    | with_reducible exact sim_loadCellsFrom _ _ _ _
    | with_reducible exact sim_storeCells _ _ _
    | with_reducible exact sim_sureAddr _
    | with_reducible exact sim_noView _
    | with_reducible exact sim_byteOf _
    | with_reducible exact sim_partAt _ _ _
    | with_reducible exact sim_fieldPlace _ _
    | with_reducible exact sim_part _ _ _
    | with_reducible (refine Sim.bind' ?_ fun _ => ?_)
    | split
    | dsimp only)
theorem sim_foldlM {γ δ : Type} {f : δ → γ → Sem δ} (hf : ∀ a b, Sim P E (f a b)) (l : List γ) : ∀ x, Sim P E (l.foldlM f x) := by
  induction l with
  | nil => exact fun x => Sim.pure _
  | cons a l ih => exact fun x => by rw [List.foldlM_cons]; exact Sim.bind' (hf _ _) fun y => ih y
theorem sim_min (ts : Array TypeId) (t : TypeId) (as : Array Value) : Sim P E (Builtin.min_ ts t as) := by
  unfold Builtin.min_
  split
  · exact (never_stuck _).sim
  · exact sim_foldlM (fun _ _ => sim_min2 _ _) _ _
theorem sim_max (ts : Array TypeId) (t : TypeId) (as : Array Value) : Sim P E (Builtin.max_ ts t as) := by
  unfold Builtin.max_
  split
  · exact (never_stuck _).sim
  · exact sim_foldlM (fun _ _ => sim_max2 _ _) _ _
theorem sim_lenSlice {ts : Array TypeId} {s e : TypeId} (h0 : ts[0]? = some s) (h : P.underlying s = some (.slice e)) (t : TypeId) (as : Array Value) : Sim P E (Builtin.len_ ts t as) := by
  unfold Builtin.len_
  rw [h0]
  cases as[0]? with
  | none => exact (never_stuck _).sim
  | some x =>
    dsimp only
    refine Sim.known h ?_
    split
    all_goals (first | contradiction | with_reducible exact Sim.pure' _ | with_reducible exact (never_stuck _).sim | skip)
theorem sim_lenString {ts : Array TypeId} {s : TypeId} (h0 : ts[0]? = some s) (h : P.underlying s = some .string) (t : TypeId) (as : Array Value) : Sim P E (Builtin.len_ ts t as) := by
  unfold Builtin.len_
  rw [h0]
  cases as[0]? with
  | none => exact (never_stuck _).sim
  | some x =>
    dsimp only
    refine Sim.known h ?_
    split
    all_goals (first | contradiction | with_reducible exact Sim.pure' _ | with_reducible exact (never_stuck _).sim | skip)

end
end Lift
end Go.Proofs.Ytjehmdhcccmihaa
/-
  The model's operations, the last: append, unsafe pointers, the bytes of a builder as a text.
-/
namespace Go.Proofs.Ytjehmdhcccmihaa
open Go.Conc
namespace Lift
section
variable {P : Program} {E : Gate} {α β : Type}
theorem Sim.ite {c : Prop} [Decidable c] {a b : Sem α} (ha : Sim P E a) (hb : Sim P E b) : Sim P E (if c then a else b) := by
  split
  · exact ha
  · exact hb
theorem sim_lenOf (v : Value) : Sim P E (Builtin.lenOf v) := by
  unfold Builtin.lenOf
  repeat' (first
    | with_reducible exact Sim.pure' _
    | with_reducible exact (never_stuck _).sim | with_reducible exact ((never_stuck _).left).sim
    | with_reducible exact (never_unsupported _).sim | with_reducible exact ((never_unsupported _).left).sim
    | with_reducible exact (never_runtimePanic _).sim | with_reducible exact ((never_runtimePanic _).left).sim
    | with_reducible exact (never_boundsPanic _ _ _ _).sim | with_reducible exact ((never_boundsPanic _ _ _ _).left).sim
    | with_reducible exact (never_goPanic _).sim | with_reducible exact ((never_goPanic _).left).sim
    | with_reducible exact sim_underlying _
    | with_reducible exact sim_typeInfo _
    | with_reducible exact sim_sizeOf _
    | with_reducible exact sim_isAgg _
    | with_reducible exact sim_zeroValue _
    | with_reducible exact sim_newRow _ _
    | with_reducible exact sim_newVar _ _
    | with_reducible exact sim_newObj _
    | with_reducible exact sim_loadVar _ _
    | with_reducible exact sim_storeVar _ _ _
    | with_reducible exact sim_asInt _
    | with_reducible exact sim_asIntOf _
    | with_reducible exact sim_asBool _
    | with_reducible exact sim_asString _
    | with_reducible exact sim_asAgg _
    | with_reducible exact sim_asAddr _
    | with_reducible exact sim_elemOf _
    | with_reducible exact sim_load _ _
    | with_reducible exact sim_store _ _ _
    | with_reducible exact sim_choose _
    | with_reducible exact sim_program
    | with_reducible exact sim_askRoom _
    | with_reducible exact sim_frozen _
    | with_reducible exact sim_viewAt _
    | with_reducible exact sim_numberAt _
    | with_reducible exact sim_loadCellsFrom _ _ _ _
    | with_reducible exact sim_storeCells _ _ _
    | with_reducible exact sim_sureAddr _
    | with_reducible exact sim_noView _
    | with_reducible exact sim_byteOf _
    | with_reducible exact sim_partAt _ _ _
    | with_reducible exact sim_fieldPlace _ _
    | with_reducible exact sim_part _ _ _
    | with_reducible (refine Sim.bind' ?_ fun _ => ?_)
    | split
    | dsimp only)
theorem sim_loadCells (a : Addr) (n : Nat) : Sim P E (loadCells a n) := sim_loadCellsFrom _ _ _ _
theorem sim_firstCells (s n : Nat) (v : Value) : Sim P E (Builtin.firstCells s n v) := by
  unfold Builtin.firstCells
  repeat' (first
    | with_reducible exact Sim.pure' _
    | with_reducible exact (never_stuck _).sim | with_reducible exact ((never_stuck _).left).sim
    | with_reducible exact (never_unsupported _).sim | with_reducible exact ((never_unsupported _).left).sim
    | with_reducible exact (never_runtimePanic _).sim | with_reducible exact ((never_runtimePanic _).left).sim
    | with_reducible exact (never_boundsPanic _ _ _ _).sim | with_reducible exact ((never_boundsPanic _ _ _ _).left).sim
    | with_reducible exact (never_goPanic _).sim | with_reducible exact ((never_goPanic _).left).sim
    | with_reducible exact sim_loadCells _ _
    | with_reducible exact sim_underlying _
    | with_reducible exact sim_typeInfo _
    | with_reducible exact sim_sizeOf _
    | with_reducible exact sim_isAgg _
    | with_reducible exact sim_zeroValue _
    | with_reducible exact sim_newRow _ _
    | with_reducible exact sim_newVar _ _
    | with_reducible exact sim_newObj _
    | with_reducible exact sim_loadVar _ _
    | with_reducible exact sim_storeVar _ _ _
    | with_reducible exact sim_asInt _
    | with_reducible exact sim_asIntOf _
    | with_reducible exact sim_asBool _
    | with_reducible exact sim_asString _
    | with_reducible exact sim_asAgg _
    | with_reducible exact sim_asAddr _
    | with_reducible exact sim_elemOf _
    | with_reducible exact sim_load _ _
    | with_reducible exact sim_store _ _ _
    | with_reducible exact sim_choose _
    | with_reducible exact sim_program
    | with_reducible exact sim_askRoom _
    | with_reducible exact sim_frozen _
    | with_reducible exact sim_viewAt _
    | with_reducible exact sim_numberAt _
    | with_reducible exact sim_loadCellsFrom _ _ _ _
    | with_reducible exact sim_storeCells _ _ _
    | with_reducible exact sim_sureAddr _
    | with_reducible exact sim_noView _
    | with_reducible exact sim_byteOf _
    | with_reducible exact sim_partAt _ _ _
    | with_reducible exact sim_fieldPlace _ _
    | with_reducible exact sim_part _ _ _
    | with_reducible (refine Sim.bind' ?_ fun _ => ?_)
    | split
    | dsimp only)
theorem never_share {b : Sem Bool} (u : Unsupported) : Never P (do
    if !(← b) then mark .noRoom
    unsupported u : Sem α) := Never.bind fun x => by
  dsimp only
  split
  · exact Never.bind fun _ => never_unsupported _
  · exact never_unsupported _
set_option maxHeartbeats 4000000 in
theorem sim_append (ts : Array TypeId) (t : TypeId) (as : Array Value) : Sim P E (Builtin.append_ ts t as) := by
  unfold Builtin.append_
  repeat' (first
    | with_reducible exact Sim.pure' _
    | with_reducible exact (never_stuck _).sim | with_reducible exact ((never_stuck _).left).sim
    | with_reducible exact (never_unsupported _).sim | with_reducible exact ((never_unsupported _).left).sim
    | with_reducible exact (never_runtimePanic _).sim | with_reducible exact ((never_runtimePanic _).left).sim
    | with_reducible exact (never_boundsPanic _ _ _ _).sim | with_reducible exact ((never_boundsPanic _ _ _ _).left).sim
    | with_reducible exact (never_goPanic _).sim | with_reducible exact ((never_goPanic _).left).sim
    | with_reducible exact sim_lenOf _
    | with_reducible exact sim_loadCells _ _
    | with_reducible exact sim_firstCells _ _ _
    | with_reducible exact (never_share _).sim
    | with_reducible exact sim_underlying _
    | with_reducible exact sim_typeInfo _
    | with_reducible exact sim_sizeOf _
    | with_reducible exact sim_isAgg _
    | with_reducible exact sim_zeroValue _
    | with_reducible exact sim_newRow _ _
    | with_reducible exact sim_newVar _ _
    | with_reducible exact sim_newObj _
    | with_reducible exact sim_loadVar _ _
    | with_reducible exact sim_storeVar _ _ _
    | with_reducible exact sim_asInt _
    | with_reducible exact sim_asIntOf _
    | with_reducible exact sim_asBool _
    | with_reducible exact sim_asString _
    | with_reducible exact sim_asAgg _
    | with_reducible exact sim_asAddr _
    | with_reducible exact sim_elemOf _
    | with_reducible exact sim_load _ _
    | with_reducible exact sim_store _ _ _
    | with_reducible exact sim_choose _
    | with_reducible exact sim_program
    | with_reducible exact sim_askRoom _
    | with_reducible exact sim_frozen _
    | with_reducible exact sim_viewAt _
    | with_reducible exact sim_numberAt _
    | with_reducible exact sim_loadCellsFrom _ _ _ _
    | with_reducible exact sim_storeCells _ _ _
    | with_reducible exact sim_sureAddr _
    | with_reducible exact sim_noView _
    | with_reducible exact sim_byteOf _
    | with_reducible exact sim_partAt _ _ _
    | with_reducible exact sim_fieldPlace _ _
    | with_reducible exact sim_part _ _ _
    | with_reducible (refine Sim.bind' ?_ fun _ => ?_)
    | with_reducible (refine Sim.ite ?_ ?_)
    | split
    | dsimp only)
theorem sim_asked2 {f : Option (TypeId × Nat) → Sem β} (r : Nat) (x : TypeId × Nat → β) (g : Obj → β) (hs : ∀ s, f (some s) = Pure.pure (x s)) (hn : f none = (getObj r >>= fun o => Pure.pure (g o))) (hp : ∀ arr ty ty', g (.pending arr ty) = x (ty', arr.size)) : Sim P E (Go.shape r >>= f) := fun wl wc h v wl' hr hB => by
  have e1 : ∀ w : World, (Go.shape r >>= f).run P w = (f (w.shape? r)).run P w := fun w => rfl
  have e2 : ∀ (w : World) es, (Go.shape r >>= f).runT P w es = (f (w.shape? r)).runT P w es := fun w es => rfl
  rw [e1] at hr
  rcases h.split r with hE | ⟨hE, arr, ty, arr', ty', h1, h2, h3, _⟩
  rotate_left
  · skip
    have s1 : wl.shape? r = none := by unfold World.shape?; rw [h1]
    have s2 : wc.shape? r = some (ty', arr'.size) := by unfold World.shape?; rw [h2]
    rw [s1, hn] at hr
    have e3 : (getObj r >>= fun o => (Pure.pure (g o) : Sem β)).run P wl = .ok (g (.pending arr ty)) wl := by
      show (Sem.getObj r fun o => Sem.pure (g o)).run P wl = _
      simp only [Sem.run, h1]
    rw [e3] at hr
    cases hr
    refine ⟨wc, #[], fun es => ?_, h.moved⟩
    rw [e2, s2, hs, hp arr ty ty', h3]
    show (Sem.pure (x (ty', arr'.size))).runT P wc es = _
    simp [Sem.runT]
  · have hsh : wl.shape? r = wc.shape? r := by unfold World.shape?; rw [hE]
    cases hq : wl.shape? r with
    | some s =>
      rw [hq, hs] at hr
      have hr2 : (Sem.pure (x s) : Sem β).run P wl = .ok v wl' := hr
      simp only [Sem.run] at hr2
      cases hr2
      refine ⟨wc, #[], fun es => ?_, h.moved⟩
      rw [e2, ← hsh, hq, hs]
      show (Sem.pure (x s)).runT P wc es = _
      simp [Sem.runT]
    | none =>
      rw [hq, hn] at hr
      have hr2 : (Sem.getObj r fun o => (Sem.pure (g o) : Sem β)).run P wl = .ok v wl' := hr
      simp only [Sem.run] at hr2
      cases ho : wl.heap[r]? with
      | none => rw [ho] at hr2; cases hr2
      | some o =>
        rw [ho] at hr2
        have hnc : ∀ c e f, o ≠ .cells c e f := by
          rintro c e f rfl
          cases hr2
        have hv : v = g o ∧ wl' = wl := by cases o <;> first | (exact absurd rfl (hnc _ _ _)) | (cases hr2; exact ⟨rfl, rfl⟩)
        obtain ⟨rfl, rfl⟩ := hv
        have hoc : wc.heap[r]? = some o := by rw [← hE]; exact ho
        refine ⟨wc, #[⟨.obj r, false, o.isChan⟩], fun es => ?_, h, Nat.le_refl _, fun e he => ?_, fun _ _ => rfl, rfl, rfl, rfl⟩
        · rw [e2, ← hsh, hq, hn]
          show (Sem.getObj r fun o => (Sem.pure (g o) : Sem β)).runT P wc es = _
          simp only [Sem.runT, hoc]
          cases o <;> first | (exact absurd rfl (hnc _ _ _)) | (simp only [Sem.runT, Array.push_eq_append])
        · simp only [List.mem_toArray, List.mem_singleton] at he
          exact .inr (.inr ⟨r, _, _, he, (Array.getElem?_eq_some_iff.1 hoc).1⟩)
theorem sim_cellsIn (r : Nat) : Sim P E (cellsIn r) := by
  unfold cellsIn
  refine sim_asked2 r (fun s => some s.2) (fun o => match o with | .pending c _ => some c.size | _ => none) (fun s => rfl) ?_ (fun _ _ _ => rfl)
  show (getObj r >>= fun o => _) = _
  congr 1
  funext o
  cases o <;> rfl
theorem sim_seenAt (a : Addr) : Sim P E (Conv.seenAt a) := by
  unfold Conv.seenAt
  dsimp only
  repeat' (first
    | exact never_unsupported _
    | with_reducible (refine Sim.shape _ (fun s => ?_) ?_)
    | with_reducible exact Sim.pure' _
    | with_reducible exact (never_stuck _).sim | with_reducible exact ((never_stuck _).left).sim
    | with_reducible exact (never_unsupported _).sim | with_reducible exact ((never_unsupported _).left).sim
    | with_reducible exact (never_runtimePanic _).sim | with_reducible exact ((never_runtimePanic _).left).sim
    | with_reducible exact (never_boundsPanic _ _ _ _).sim | with_reducible exact ((never_boundsPanic _ _ _ _).left).sim
    | with_reducible exact (never_goPanic _).sim | with_reducible exact ((never_goPanic _).left).sim
    | with_reducible exact sim_viewAt _
    | with_reducible exact sim_underlying _
    | with_reducible exact sim_typeInfo _
    | with_reducible exact sim_sizeOf _
    | with_reducible exact sim_isAgg _
    | with_reducible exact sim_zeroValue _
    | with_reducible exact sim_newRow _ _
    | with_reducible exact sim_newVar _ _
    | with_reducible exact sim_newObj _
    | with_reducible exact sim_loadVar _ _
    | with_reducible exact sim_storeVar _ _ _
    | with_reducible exact sim_asInt _
    | with_reducible exact sim_asIntOf _
    | with_reducible exact sim_asBool _
    | with_reducible exact sim_asString _
    | with_reducible exact sim_asAgg _
    | with_reducible exact sim_asAddr _
    | with_reducible exact sim_elemOf _
    | with_reducible exact sim_load _ _
    | with_reducible exact sim_store _ _ _
    | with_reducible exact sim_choose _
    | with_reducible exact sim_program
    | with_reducible exact sim_askRoom _
    | with_reducible exact sim_frozen _
    | with_reducible exact sim_viewAt _
    | with_reducible exact sim_numberAt _
    | with_reducible exact sim_loadCellsFrom _ _ _ _
    | with_reducible exact sim_storeCells _ _ _
    | with_reducible exact sim_sureAddr _
    | with_reducible exact sim_noView _
    | with_reducible exact sim_byteOf _
    | with_reducible exact sim_partAt _ _ _
    | with_reducible exact sim_fieldPlace _ _
    | with_reducible exact sim_part _ _ _
    | with_reducible (refine Sim.bind' ?_ fun _ => ?_)
    | with_reducible (refine Sim.ite ?_ ?_)
    | split
    | dsimp only)
theorem sim_toUnsafe {s t e : TypeId} (hs : P.underlying s = some (.pointer e)) (ht : P.underlying t = some .unsafePointer) (x : Value) : Sim P E (convert s t x) := by
  unfold convert
  refine Sim.known hs (Sim.known ht ?_)
  split
  all_goals (first | contradiction | skip)
  all_goals (first | (with_reducible exact (never_unsupported _).sim) | skip)
  all_goals
    unfold Conv.unsafePointer
    refine Sim.known hs (Sim.known ht ?_)
    split
    all_goals (first | contradiction | skip)
    repeat' (first
      | with_reducible exact Sim.pure' _
      | with_reducible exact (never_stuck _).sim | with_reducible exact ((never_stuck _).left).sim
      | with_reducible exact (never_unsupported _).sim | with_reducible exact ((never_unsupported _).left).sim
      | with_reducible exact (never_runtimePanic _).sim | with_reducible exact ((never_runtimePanic _).left).sim
      | with_reducible exact (never_boundsPanic _ _ _ _).sim | with_reducible exact ((never_boundsPanic _ _ _ _).left).sim
      | with_reducible exact (never_goPanic _).sim | with_reducible exact ((never_goPanic _).left).sim
      | with_reducible exact sim_seenAt _
      | with_reducible exact sim_cellsIn _
      | with_reducible exact sim_underlying _
      | with_reducible exact sim_typeInfo _
      | with_reducible exact sim_sizeOf _
      | with_reducible exact sim_isAgg _
      | with_reducible exact sim_zeroValue _
      | with_reducible exact sim_newRow _ _
      | with_reducible exact sim_newVar _ _
      | with_reducible exact sim_newObj _
      | with_reducible exact sim_loadVar _ _
      | with_reducible exact sim_storeVar _ _ _
      | with_reducible exact sim_asInt _
      | with_reducible exact sim_asIntOf _
      | with_reducible exact sim_asBool _
      | with_reducible exact sim_asString _
      | with_reducible exact sim_asAgg _
      | with_reducible exact sim_asAddr _
      | with_reducible exact sim_elemOf _
      | with_reducible exact sim_load _ _
      | with_reducible exact sim_store _ _ _
      | with_reducible exact sim_choose _
      | with_reducible exact sim_program
      | with_reducible exact sim_askRoom _
      | with_reducible exact sim_frozen _
      | with_reducible exact sim_viewAt _
      | with_reducible exact sim_numberAt _
      | with_reducible exact sim_loadCellsFrom _ _ _ _
      | with_reducible exact sim_storeCells _ _ _
      | with_reducible exact sim_sureAddr _
      | with_reducible exact sim_noView _
      | with_reducible exact sim_byteOf _
      | with_reducible exact sim_partAt _ _ _
      | with_reducible exact sim_fieldPlace _ _
      | with_reducible exact sim_part _ _ _
      | with_reducible (refine Sim.bind' ?_ fun _ => ?_)
      | with_reducible (refine Sim.ite ?_ ?_)
      | split
      | dsimp only)
end
end Lift
end Go.Proofs.Ytjehmdhcccmihaa
/-
  The model's operations, the last: where cells of a type must lie there; bytes that a text shares.
-/
namespace Go.Proofs.Ytjehmdhcccmihaa
open Go.Conc
namespace Lift
section
variable {P : Program} {E : Gate} {α β : Type}
/-- never comes to a value where the block B is held back -/
def NeverAt (P : Program) (B : Nat) (t : Sem α) : Prop := ∀ w v w', (∃ arr ty, w.heap[B]? = some (.pending arr ty)) → t.run P w ≠ .ok v w'
/-- whether cells of a type lie there: where none does, it halts at a row that is held back -/
theorem Sim.variables {f : Bool → Sem β} (a : Addr) (u : TypeId) (n : Nat) (hf : ¬ E.block a.block → ∀ b, Sim P E (f b)) (hn : E.block a.block → NeverAt P a.block (f false)) : Sim P E (variablesAt a u n >>= f) := fun wl wc h v wl' hr hB => by
  have e1 : ∀ w : World, (variablesAt a u n >>= f).run P w = (f (match w.shape? a.block with | some (e, cells) => liesAt P P.depth e (cells / P.cellsOf e) a.off u n | none => false)).run P w := fun w => by
    show ((variablesAt a u n).bind f).run P w = _
    rw [run_bind]
    have : (variablesAt a u n).run P w = .ok (match w.shape? a.block with | some (e, cells) => liesAt P P.depth e (cells / P.cellsOf e) a.off u n | none => false) w := by
      unfold variablesAt
      show ((fun s => (match s with | some (e, cells) => Pure.pure (liesAt P P.depth e (cells / P.cellsOf e) a.off u n) | none => Pure.pure false : Sem Bool)) (w.shape? a.block)).run P w = _
      cases w.shape? a.block <;> rfl
    rw [this]
  have e2 : ∀ (w : World) es, (variablesAt a u n >>= f).runT P w es = (f (match w.shape? a.block with | some (e, cells) => liesAt P P.depth e (cells / P.cellsOf e) a.off u n | none => false)).runT P w es := fun w es => by
    show ((variablesAt a u n).bind f).runT P w es = _
    rw [runT_bind]
    have : (variablesAt a u n).runT P w es = (.ok (match w.shape? a.block with | some (e, cells) => liesAt P P.depth e (cells / P.cellsOf e) a.off u n | none => false) w, es) := by
      unfold variablesAt
      show ((fun s => (match s with | some (e, cells) => Pure.pure (liesAt P P.depth e (cells / P.cellsOf e) a.off u n) | none => Pure.pure false : Sem Bool)) (w.shape? a.block)).runT P w es = _
      cases w.shape? a.block <;> rfl
    rw [this]
  rw [e1] at hr
  by_cases hE : E.block a.block
  · obtain ⟨arr, ty, h1, _⟩ := h.shut _ hE
    have : wl.shape? a.block = none := by unfold World.shape?; rw [h1]
    rw [this] at hr
    exact absurd hr (hn hE wl v wl' ⟨arr, ty, h1⟩)
  · have hsh : wl.shape? a.block = wc.shape? a.block := by unfold World.shape?; rw [h.same _ hE]
    rw [hsh] at hr
    obtain ⟨wc', es, h1, h2⟩ := hf hE _ wl wc h v wl' hr hB
    exact ⟨wc', es, fun es0 => by rw [e2]; exact h1 es0, h2⟩
theorem NeverAt.of {B : Nat} {t : Sem α} (h : Never P t) : NeverAt P B t := fun w v w' _ => h w v w'
theorem NeverAt.shape {B : Nat} {f : Option (TypeId × Nat) → Sem β} (h : Never P (f none)) : NeverAt P B (Go.shape B >>= f) := fun w v w' ⟨arr, ty, h1⟩ hr => by
  have e1 : (Go.shape B >>= f).run P w = (f (w.shape? B)).run P w := rfl
  have : w.shape? B = none := by unfold World.shape?; rw [h1]
  rw [e1, this] at hr
  exact h _ _ _ hr
theorem Rel.freeze {wl wc : World} (h : Rel E wl wc) {a : Addr} (hE : ¬ E.block a.block) (n : Nat) : Rel E (wl.freeze a n) (wc.freeze a n) ∧ (∀ b, E.block b → (wc.freeze a n).heap[b]? = wc.heap[b]?) ∧ (wc.freeze a n).heap.size = wc.heap.size ∧ (wc.freeze a n).tape = wc.tape ∧ (wc.freeze a n).os = wc.os ∧ (wc.freeze a n).output = wc.output := by
  by_cases hn : n = 0
  · subst hn
    have e : ∀ w : World, w.freeze a 0 = w := fun w => by unfold World.freeze; rw [if_pos rfl]
    rw [e, e]
    exact ⟨h, fun _ _ => rfl, rfl, rfl, rfl, rfl⟩
  · have far : ∀ (w : World) b, b ≠ a.block → (w.freeze a n).heap[b]? = w.heap[b]? := fun w b hb => by
      unfold World.freeze
      rw [if_neg hn]
      simp only [Array.getElem?_modify]
      rw [if_neg (Ne.symm hb)]
    have size : ∀ w : World, (w.freeze a n).heap.size = w.heap.size := fun w => by unfold World.freeze; rw [if_neg hn]; simp
    have os : ∀ w : World, (w.freeze a n).os = w.os ∧ (w.freeze a n).output = w.output ∧ (w.freeze a n).tape = w.tape ∧ (w.freeze a n).drawn = w.drawn := fun w => by unfold World.freeze; rw [if_neg hn]; exact ⟨rfl, rfl, rfl, rfl⟩
    refine ⟨⟨by rw [(os wl).1, (os wc).1, h.os], by rw [(os wl).2.1, (os wc).2.1, h.output], by rw [(os wl).2.2.1, (os wc).2.2.1, (os wl).2.2.2, (os wc).2.2.2]; exact h.tape, by rw [(os wl).2.2.2, (os wc).2.2.2]; exact h.drawn, by rw [size, size, h.size], fun b hb => ?_, ?_⟩, fun b hb => far _ _ fun e => hE (e ▸ hb), size _, (os wc).2.2.1, (os wc).1, (os wc).2.1⟩
    · by_cases e : b = a.block
      · unfold World.freeze
        rw [if_neg hn, if_neg hn]
        simp only [Array.getElem?_modify, h.same b hb]
      · rw [far _ _ e, far _ _ e]; exact h.same b hb
    · exact h.shut.of (fun b hb => far _ _ fun e => hE (e ▸ hb)) (fun b hb => far _ _ fun e => hE (e ▸ hb))
theorem sim_freeze {a : Addr} (hE : ¬ E.block a.block) (n : Nat) : Sim P E (freeze a n) := fun wl wc h v wl' hr hB => by
  have e1 : ∀ w : World, (freeze a n).run P w = .ok () (w.freeze a n) := fun w => rfl
  have e2 : ∀ (w : World) es, (freeze a n).runT P w es = (.ok () (w.freeze a n), es) := fun w es => rfl
  rw [e1] at hr
  cases hr
  obtain ⟨h1, h2, h3, h4, h5, h6⟩ := h.freeze hE n
  exact ⟨wc.freeze a n, #[], fun es => by rw [e2]; simp, h1, by rw [h3]; exact Nat.le_refl _, by simp, h2, h4, h5, h6⟩
theorem sim_loadBytes (n : Nat) : ∀ (a : Addr) (acc : ByteArray), Sim P E (loadBytes a acc n) := by
  induction n with
  | zero => exact fun a acc => Sim.pure _
  | succ n ih =>
    intro a acc
    unfold loadBytes
    refine Sim.bind' (sim_load _ _) fun v => ?_
    split
    · exact ih _ _
    · exact (never_stuck _).sim
/-- where the answer is not looked at -/
theorem Sim.variables' {t : Sem β} (a : Addr) (u : TypeId) (n : Nat) (hf : Sim P E t) : Sim P E (variablesAt a u n >>= fun _ => t) := fun wl wc h v wl' hr hB => by
  have e1 : ∀ w : World, (variablesAt a u n >>= fun _ => t).run P w = t.run P w := fun w => by
    show ((variablesAt a u n).bind fun _ => t).run P w = _
    rw [run_bind]
    have : ∃ b, (variablesAt a u n).run P w = .ok b w := by
      unfold variablesAt
      refine ⟨(match w.shape? a.block with | some (e, cells) => liesAt P P.depth e (cells / P.cellsOf e) a.off u n | none => false), ?_⟩
      show ((fun s => (match s with | some (e, cells) => Pure.pure (liesAt P P.depth e (cells / P.cellsOf e) a.off u n) | none => Pure.pure false : Sem Bool)) (w.shape? a.block)).run P w = _
      cases w.shape? a.block <;> rfl
    obtain ⟨b, this⟩ := this
    rw [this]
  have e2 : ∀ (w : World) es, (variablesAt a u n >>= fun _ => t).runT P w es = t.runT P w es := fun w es => by
    show ((variablesAt a u n).bind fun _ => t).runT P w es = _
    rw [runT_bind]
    have : ∃ b, (variablesAt a u n).runT P w es = (.ok b w, es) := by
      unfold variablesAt
      refine ⟨(match w.shape? a.block with | some (e, cells) => liesAt P P.depth e (cells / P.cellsOf e) a.off u n | none => false), ?_⟩
      show ((fun s => (match s with | some (e, cells) => Pure.pure (liesAt P P.depth e (cells / P.cellsOf e) a.off u n) | none => Pure.pure false : Sem Bool)) (w.shape? a.block)).runT P w es = _
      cases w.shape? a.block <;> rfl
    obtain ⟨b, this⟩ := this
    rw [this]
  rw [e1] at hr
  obtain ⟨wc', es, h1, h2⟩ := hf wl wc h v wl' hr hB
  exact ⟨wc', es, fun es0 => by rw [e2]; exact h1 es0, h2⟩
theorem sim_unsafeSliceData (ts : Array TypeId) (t : TypeId) (as : Array Value) : Sim P E (Builtin.unsafeSliceData_ ts t as) := by
  unfold Builtin.unsafeSliceData_
  rcases as with ⟨_ | ⟨a, _ | ⟨b, l⟩⟩⟩ <;> (first | exact (never_stuck _).sim | skip)
  · cases a <;> (first | exact (never_stuck _).sim | skip)
    rename_i o n c
    cases o with
    | none => exact Sim.pure _
    | some a =>
      refine Sim.ite (Sim.pure' _) (Sim.bind' (sim_viewAt _) fun v => Sim.ite (Sim.pure' _) (Sim.bind' (sim_elemOf _) fun e => Sim.bind' (sim_newObj _) fun r => Sim.pure' _))
theorem sim_stringTail (a : Addr) (e : TypeId) (n : Nat) : Sim P E (do
      if ← variablesAt a e n then do
        let s ← loadBytes a .empty n
        freeze a n
        pure (.string s)
      else unsupported (.unsafePointer "String: not so many bytes at ptr") : Sem Value) := by
  refine Sim.variables a e n (fun hE b => Sim.ite (Sim.bind' (sim_loadBytes n a _) fun s => Sim.bind' (sim_freeze hE n) fun _ => Sim.pure' _) (never_unsupported _).sim) fun hE => ?_
  exact NeverAt.of (never_unsupported _)
theorem sim_unsafeString (ts : Array TypeId) (t : TypeId) (as : Array Value) : Sim P E (Builtin.unsafeString_ ts t as) := by
  unfold Builtin.unsafeString_
  rcases as with ⟨_ | ⟨a, _ | ⟨b, _ | ⟨c, l⟩⟩⟩⟩ <;> (first | exact (never_stuck _).sim | skip)
  · cases a <;> (first | exact (never_stuck _).sim | skip)
    rename_i o
    dsimp only
    refine Sim.bind' (sim_asInt _) fun n => ?_
    cases ts[0]? with
    | none => exact (never_stuck _).sim
    | some pt =>
      dsimp only
      refine Sim.ite ((never_runtimePanic _).left).sim (Sim.ite ((never_unsupported _).left).sim ?_)
      cases o with
      | none => exact Sim.ite (Sim.pure' _) (never_runtimePanic _).sim
      | some a => exact Sim.ite (Sim.pure' _) (Sim.bind' (sim_elemOf _) fun e => sim_stringTail a e _)
theorem sim_fromUnsafe {s t e : TypeId} (hs : P.underlying s = some .unsafePointer) (ht : P.underlying t = some (.pointer e)) (x : Value) : Sim P E (convert s t x) := by
  unfold convert
  refine Sim.known hs (Sim.known ht ?_)
  have key : Sim P E (Conv.unsafePointer s t x) := by
    unfold Conv.unsafePointer
    refine Sim.known hs (Sim.known ht ?_)
    cases x <;> (first | exact (never_stuck _).sim | skip)
    rename_i o
    cases o with
    | none => exact Sim.pure' _
    | some a =>
      dsimp only
      refine Sim.bind' (sim_seenAt a) fun a => Sim.bind' (sim_sizeOf _) fun n => ?_
      by_cases hn : n = 0
      · subst hn
        simp only [decide_true, Bool.true_or, if_true]
        exact Sim.variables' _ _ _ (Sim.pure' _)
      · simp only [hn, decide_false, Bool.false_or]
        refine Sim.variables a e 1 (fun hE b => ?_) fun hE => ?_
        · refine Sim.ite (Sim.pure' _) (Sim.shape _ (fun sh => ?_) ?_)
          · cases sh with
            | none => exact ((never_unsupported _).left).sim
            | some q => exact Sim.bind' sim_program fun _ => Sim.bind' sim_program fun _ => Sim.ite ((never_unsupported _).left).sim (Sim.bind' (sim_newObj _) fun _ => Sim.pure' _)
          · exact (never_unsupported _).left
        · exact NeverAt.shape ((never_unsupported _).left)
  cases x <;> exact key
end
end Lift
end Go.Proofs.Ytjehmdhcccmihaa
