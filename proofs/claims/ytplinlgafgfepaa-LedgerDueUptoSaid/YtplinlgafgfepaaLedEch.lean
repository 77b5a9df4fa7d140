/-
  A range over a function, the iterator of which hands out new memory: the caller is told what lies there (the kit's laws let a body know no more than what it is handed). The proof goes by the model's own words for a round (as the kit's laws on a range over a function do).
-/
import Derived.Test.YtplinlgafgfepaaLedOrd
import Derived.RangeFuncFrom
import Derived.RangeFuncNested
import Derived.RangeFuncBound
import Derived.RangeFuncCalls
import Derived.RangeFuncLeaves
import Derived.RangeFuncBox
import Derived.Shelf.RegionOpen
import Derived.OwnWalkIn
import Derived.TacticsInMore
import Derived.LoopNIn
import Derived.LoopIn
import Derived.Maps.AppendAt
import Derived.Maps.OwnIn
import Derived.Stop.RegionWithIn
import Derived.Sort.CutIn
import Derived.Sort.MapsRangeIn
namespace Go.Proofs.Ytplinlgafgfepaa.Ld
open Go.RowKit

/-- an iterator's contract: it hands out one x behind the other, each with what Fr tells of it; the caller's blocks (ow) turn between, and no other of what there was -/
def Each {α : Type} (F : Fence) (n : Nat) (P : Program) (gf : Nat) (lb : Array Value) (encs : α → Array Value) (Fr : List Nat → List α → α → World → Prop) (S : List α → Prop) (Rd : List Nat → Prop) (w : World) : Prop :=
  ∀ (l : Nat) (J Jx : List Nat → List α → World → Prop) (ow : List Nat) (W : World), Below w.heap.size w W → (∀ x ∈ ow, x < W.heap.size) → Rd ow →
    (∀ ow1 pre W1 W2, J ow1 pre W1 → Below W1.heap.size W1 W2 → J ow1 pre W2) →
    (∀ ow1 pre W1 W2, Jx ow1 pre W1 → Below W1.heap.size W1 W2 → Jx ow1 pre W2) →
    (∀ ow1 pre x W1, J ow1 pre W1 → Fr ow1 pre x W1 → (∀ y ∈ ow1, y < W1.heap.size) → YieldAt F (n - 1) P l (encs x) W1 fun e W' =>
      (e = .returned (.bool true) ∧ ∃ ow2, J ow2 (pre ++ [x]) W' ∧ Go.Proofs.Ytplinlgafgfepaa.Kept ow1 W1 ow2 W' ∧ ∀ y ∈ ow2, y < W'.heap.size) ∨ (e = .returned (.bool false) ∧ ∃ ow2, Jx ow2 (pre ++ [x]) W')) →
    J ow [] W →
    CallsIn F n P gf (#[.func (.yield l) #[] #[]] ++ lb) W fun e W' => (∃ v, e = .returned v) ∧ ((∃ ow2 xs, S xs ∧ J ow2 xs W') ∨ (∃ ow2 pre, Jx ow2 pre W'))

/-- the loop's record, at l, has turned, and new blocks have come -/
def Near (l : Nat) (W W' : World) : Prop := Only [l] W W' ∧ ∃ r, W.heap[l]? = some (.loop r)
theorem Near.at_ {l : Nat} {W W' : World} (h : Near l W W') {k : Nat} {o : Obj} (hk : W.heap[k]? = some o) (ho : ∀ r, o ≠ .loop r) : W'.heap[k]? = some o := by
  obtain ⟨h1, r, h2⟩ := h
  refine (h1.block k (Array.getElem?_eq_some_iff.1 hk).1 ?_).trans hk
  simp only [List.mem_singleton]
  rintro rfl
  rw [h2] at hk
  exact ho r (Option.some.inj hk).symm
theorem Near.below {l B : Nat} {w0 W W' : World} (h : Near l W W') (hb : Below B w0 W) (hl : B ≤ l) (hB : B ≤ W.heap.size) : Below B w0 W' := h.1.below hb (by simpa using hl) hB

def eachPost {α : Type} (I : List Nat → List α → World → Prop) (Ix : Code → List Nat → List α → World → Prop) (ow : List Nat) (xs : List α) (W : World) : Exit → Act → World → Prop
  | .normal, _, W' => ∃ ow2, Go.Proofs.Ytplinlgafgfepaa.Kept ow W ow2 W' ∧ I ow2 xs W' ∧ ∀ y ∈ ow2, y < W'.heap.size
  | .ret, _, W' => ∃ ow2, Go.Proofs.Ytplinlgafgfepaa.Kept ow W ow2 W' ∧ Ix .ret ow2 xs W'
  | .exit id, _, W' => ∃ ow2, Go.Proofs.Ytplinlgafgfepaa.Kept ow W ow2 W' ∧ Ix (.exit id) ow2 xs W'
  | .goto t, _, W' => ∃ ow2, Go.Proofs.Ytplinlgafgfepaa.Kept ow W ow2 W' ∧ Ix (.goto t) ow2 xs W'
  | .panic _, _, _ => False
  | .outgrown, _, _ => False

theorem only_putObj (W : World) (l : Nat) (o : Obj) : Only [l] W (W.putObj l o) := (Only.refl [l] W).grown (grownBy_putObj' W l o) (fun k e => by cases e; exact .inl (by simp))
theorem only_kept {l : Nat} {ow ow2 : List Nat} {W W' : World} (h : Go.Proofs.Ytplinlgafgfepaa.Kept ow W ow2 W') (hl : l ∉ ow) {o : Obj} (hk : W.heap[l]? = some o) : W'.heap[l]? = some o := (h.1.block l (Array.getElem?_eq_some_iff.1 hk).1 hl).trans hk

/-- a range over such an iterator -/
theorem wpIn_each {α : Type} {F : Fence} {n : Nat} {P : Program} {w : World} {g : Operand} {ps : Array Tmp} {assign body : Code} {Q : Exit → Act → World → Prop} {a : Act}
    (hro : F.round = none) (h1 : 1 ≤ n) {gf : Nat} {lb : Array Value} (hg : a.eval g = .func (.func gf) #[] lb) (hFg : F.fn gf) (eg : ∀ args w, (callFunc gf args).run P w = .ok (.enter gf args) w)
    {encs : α → Array Value} {Fr : List Nat → List α → α → World → Prop} {S : List α → Prop} {Rd : List Nat → Prop} {w0 : World} (hseq : Each F (n - 1) P gf lb encs Fr S Rd w0) (hb0 : Below w0.heap.size w0 w) (hps : ∀ x, (encs x).size = ps.size)
    (ow : List Nat) (how : ∀ x ∈ ow, x < w.heap.size) (hRd : Rd ((w.heap.size + 1) :: ow))
    (I : List Nat → List α → World → Prop) (Ix : Code → List Nat → List α → World → Prop)
    (hI : ∀ ow1 pre W W', I ow1 pre W → Near (w.heap.size + 1) W W' → I ow1 pre W') (hIx : ∀ c ow1 pre W W', Ix c ow1 pre W → Near (w.heap.size + 1) W W' → Ix c ow1 pre W')
    (hI0 : ∀ W', Below w.heap.size w W' → I ow [] W')
    (hround : ∀ (ow1 : List Nat) (pre : List α) (x : α) (W : World), I ow1 pre W → Fr ((w.heap.size + 1) :: ow1) pre x W → (∀ y ∈ ow1, y < W.heap.size) → w.heap.size + 1 < W.heap.size → assign.wpIn (F.inRound (w.heap.size + 1)) (n - 1 - 1) P (Exit.then (fun a' Wa => Below W.heap.size W Wa ∧
      ∀ Wb, Near (w.heap.size + 1) Wa Wb → Wb.heap.size = Wa.heap.size → body.wpIn (F.inRound (w.heap.size + 1)) (n - 1 - 1) P (eachPost I Ix ow1 (pre ++ [x]) Wb) a' Wb) (fun _ _ _ => False))
      { tmps := (ps.zip (encs x)).foldl (fun t (p, v) => t.setIfInBounds p v) a.tmps, defers := [] } W)
    (hdone : ∀ (D : Nat) (ow1 : List Nat) (xs : List α) (W : World), D = w.heap.size → S xs → I ow1 xs W → W.heap[D]? = some (.deferred (some [])) → Q .normal { a with defers := { target := .collected D, args := #[] } :: a.defers } W)
    (hstop : ∀ (D : Nat) (c : Code) (ow1 : List Nat) (pre : List α) (W : World), D = w.heap.size → Ix c ow1 pre W → W.heap[D]? = some (.deferred (some [])) → c.wpIn F n P Q { a with defers := { target := .collected D, args := #[] } :: a.defers } W) :
    (Code.rangeFunc g ps assign body).wpIn F n P Q a w := by
  refine wpIn_rangeFunc ?_
  intro fn hfn
  rw [hro]
  obtain ⟨rec, hrec⟩ : ∃ rec : LoopState → Option Code → Loop, rec = fun st pe => { state := st, pending := pe, fn, tmps := a.tmps, params := ps, assign, body, defers := w.heap.size } := ⟨_, rfl⟩
  obtain ⟨W1, hW1⟩ : ∃ W1, (w.alloc (.deferred (some []))).alloc (.loop (rec .ready none)) = W1 := ⟨_, rfl⟩
  have hL1 : W1.heap[w.heap.size + 1]? = some (.loop (rec .ready none)) := by
    have := heap_alloc_new (w.alloc (.deferred (some []))) (.loop (rec .ready none))
    rw [World.size_alloc] at this
    rw [← hW1]; exact this
  have hK1 : W1.heap[w.heap.size]? = some (.deferred (some [])) := by
    rw [← hW1]; exact (Below.heap_alloc _ _ _ (by simp)).trans (heap_alloc_new w _)
  have hww : Below w.heap.size w W1 := by rw [← hW1]; exact ((Below.refl _ w).alloc (Nat.le_refl _) _).alloc (by simp) _
  have hs1 : W1.heap.size = w.heap.size + 2 := by rw [← hW1]; simp
  refine ⟨w.heap.size + 1, [{ target := .collected w.heap.size, args := #[] }], W1, { target := .fn (.func gf) lb, args := #[.func (.yield (w.heap.size + 1)) #[] #[]] }, W1, gf,
    #[.func (.yield (w.heap.size + 1)) #[] #[]] ++ lb, W1, ?_, ?_, ?_, ?_, fun _ => h1, ?_⟩
  · rw [← hW1, hrec]; exact run_enterLoop_outer _ _ _ _ _
  · simp only [resolve, hg]
    simp [go_sem]
  · intro f' hf'; simp [Target.leads] at hf'; subst hf'; exact hFg
  · simp [invoke, go_sem, eg]
  · have near : ∀ {W2 : World} {st : LoopState} {pe : Option Code} (o : Obj), W2.heap[w.heap.size + 1]? = some (.loop (rec st pe)) → Near (w.heap.size + 1) W2 (W2.putObj (w.heap.size + 1) o) := fun o h => ⟨only_putObj _ _ _, _, h⟩
    have lt_of : ∀ {W2 : World} {k : Nat} {o : Obj}, W2.heap[k]? = some o → k < W2.heap.size := fun h => (Array.getElem?_eq_some_iff.1 h).1
    refine (hseq (w.heap.size + 1)
      (fun owj pre W => ∃ ow1, owj = (w.heap.size + 1) :: ow1 ∧ I ow1 pre W ∧ W.heap[w.heap.size + 1]? = some (.loop (rec .ready none)) ∧ W.heap[w.heap.size]? = some (.deferred (some [])) ∧ w.heap.size + 1 ∉ ow1 ∧ w.heap.size ∉ ow1)
      (fun _ pre W => ∃ ow1 c, Ix c ow1 pre W ∧ W.heap[w.heap.size + 1]? = some (.loop (rec .done (some c))) ∧ W.heap[w.heap.size]? = some (.deferred (some [])))
      ((w.heap.size + 1) :: ow) W1 (hb0.trans (hww.mono hb0.size)) (fun x hx => (List.mem_cons.1 hx).elim (fun e => by omega) (fun h => by have := how x h; omega)) hRd ?_ ?_ ?_
      ⟨ow, rfl, hI0 W1 hww, hL1, hK1, fun hc => by have := how _ hc; omega, fun hc => by have := how _ hc; omega⟩).mono ?_
    · rintro owj pre A B ⟨ow1, rfl, hi, hl, hk, n1, n2⟩ hb
      exact ⟨ow1, rfl, hI _ _ _ _ hi ⟨Only.of_below _ hb, _, hl⟩, (hb.block _ (lt_of hl)).trans hl, (hb.block _ (lt_of hk)).trans hk, n1, n2⟩
    · rintro owj pre A B ⟨ow1, c, hi, hl, hk⟩ hb
      exact ⟨ow1, c, hIx _ _ _ _ _ hi ⟨Only.of_below _ hb, _, hl⟩, (hb.block _ (lt_of hl)).trans hl, (hb.block _ (lt_of hk)).trans hk⟩
    · rintro owj pre x W ⟨ow1, rfl, hi, hl, hk, n1, n2⟩ hfr hlt
      have hy := run_yield (P := P) (args := encs x) hl (by rw [hrec]; exact hps x)
      rw [hrec] at hy
      refine ⟨fn, _, assign, body, hy, roundIn_of_wpIn hfn (wpIn_mono (hround ow1 pre x W hi hfr (fun y hy => hlt y (by simp [hy])) (lt_of hl)) ?_)⟩
      rintro e a' Wa hp
      cases e with
      | normal =>
        obtain ⟨hba, hbody⟩ := (hp : _ ∧ _)
        have hla := (hba.block _ (lt_of hl)).trans hl
        have hka := (hba.block _ (lt_of hk)).trans hk
        refine ⟨_, run_beginRound hla (by rw [hrec]), ?_⟩
        have hl2 : (Wa.putObj (w.heap.size + 1) (.loop { rec .ready none with state := .busy })).heap[w.heap.size + 1]? = some (.loop { rec .ready none with state := .busy }) := World.putObj_heap_same (lt_of hla)
        have hk2 : (Wa.putObj (w.heap.size + 1) (.loop { rec .ready none with state := .busy })).heap[w.heap.size]? = some (.deferred (some [])) := (World.putObj_heap_other (by omega)).trans hka
        have hnb := near (.loop { rec .ready none with state := .busy }) hla
        have hzb : (Wa.putObj (w.heap.size + 1) (.loop { rec .ready none with state := .busy })).heap.size = Wa.heap.size := by simp [World.putObj]
        generalize Wa.putObj (w.heap.size + 1) (.loop { rec .ready none with state := .busy }) = Wb at hl2 hk2 hnb hzb ⊢
        refine wpIn_mono (hbody Wb hnb hzb) ?_
        have fin : ∀ (jump : Option Code) (ow2 : List Nat) (W3 : World), Go.Proofs.Ytplinlgafgfepaa.Kept ow1 Wb ow2 W3 →
            (Instr.endRound (w.heap.size + 1) jump).run P W3 = .ok (.bool jump.isNone) (W3.putObj (w.heap.size + 1) (.loop (rec (if jump.isNone then .ready else .done) jump))) ∧
            Near (w.heap.size + 1) W3 (W3.putObj (w.heap.size + 1) (.loop (rec (if jump.isNone then .ready else .done) jump))) ∧
            (W3.putObj (w.heap.size + 1) (.loop (rec (if jump.isNone then .ready else .done) jump))).heap[w.heap.size + 1]? = some (.loop (rec (if jump.isNone then .ready else .done) jump)) ∧
            (W3.putObj (w.heap.size + 1) (.loop (rec (if jump.isNone then .ready else .done) jump))).heap[w.heap.size]? = some (.deferred (some [])) := fun jump ow2 W3 hk3 => by
          have hl3 := only_kept hk3 n1 hl2
          have hk4 := only_kept hk3 n2 hk2
          have := run_endRound (P := P) jump hl3
          rw [hrec] at this hl3 ⊢
          exact ⟨this, ⟨only_putObj _ _ _, _, hl3⟩, World.putObj_heap_same (lt_of hl3), (World.putObj_heap_other (by omega)).trans hk4⟩
        rintro e a3 W3 hp
        cases e with
        | normal =>
          obtain ⟨ow2, hk3, hi3, hlt3⟩ := hp
          obtain ⟨hr, hn4, hl4, hk4⟩ := fin none ow2 W3 hk3
          have hlb := lt_of hl2
          have hkb := lt_of hk2
          have hsa := hba.size
          refine ⟨_, _, hr, .inl ⟨rfl, (w.heap.size + 1) :: ow2, ⟨ow2, rfl, hI _ _ _ _ hi3 hn4, hl4, hk4, fun hc => (hk3.2 _ hc).elim n1 (fun h => by omega), fun hc => (hk3.2 _ hc).elim n2 (fun h => by omega)⟩, ⟨?_, ?_⟩, ?_⟩⟩
          · exact (((Only.of_below _ hba).also (hnb.1.mono (by simp))).also (hk3.1.mono fun x hx => .inl (by simp [hx]))).also (hn4.1.mono (by simp))
          · intro y hy
            rcases List.mem_cons.1 hy with rfl | hy
            · exact .inl (by simp)
            · exact (hk3.2 y hy).elim (fun h => .inl (by simp [h])) (fun h => .inr (by omega))
          · intro y hy
            have hz := hn4.1.size
            rcases List.mem_cons.1 hy with rfl | hy
            · exact lt_of hl4
            · have := hlt3 y hy; omega
        | ret =>
          obtain ⟨ow2, hk3, hi3⟩ := hp
          obtain ⟨hr, hn4, hl4, hk4⟩ := fin (some .ret) ow2 W3 hk3
          exact ⟨_, _, hr, .inr ⟨rfl, ow2, ow2, .ret, hIx _ _ _ _ _ hi3 hn4, hl4, hk4⟩⟩
        | exit id =>
          obtain ⟨ow2, hk3, hi3⟩ := hp
          obtain ⟨hr, hn4, hl4, hk4⟩ := fin (some (.exit id)) ow2 W3 hk3
          exact ⟨_, _, hr, .inr ⟨rfl, ow2, ow2, .exit id, hIx _ _ _ _ _ hi3 hn4, hl4, hk4⟩⟩
        | goto t =>
          obtain ⟨ow2, hk3, hi3⟩ := hp
          obtain ⟨hr, hn4, hl4, hk4⟩ := fin (some (.goto t)) ow2 W3 hk3
          exact ⟨_, _, hr, .inr ⟨rfl, ow2, ow2, .goto t, hIx _ _ _ _ _ hi3 hn4, hl4, hk4⟩⟩
        | panic ch => exact hp.elim
        | outgrown => exact hp.elim
      | ret => exact (hp : False).elim
      | exit id => exact (hp : False).elim
      | goto t => exact (hp : False).elim
      | panic ch => exact (hp : False).elim
      | outgrown => exact (hp : False).elim
    · rintro e W2 ⟨⟨v, rfl⟩, (⟨owj, xs, hS, ow1, rfl, hi, hl, hk, _, _⟩ | ⟨owj, pre, ow1, c, hi, hl, hk⟩)⟩
      · exact ⟨none, _, by have := run_endLoop (P := P) hl (by rw [hrec]; simp); rw [hrec] at this; exact this, hdone _ ow1 xs _ rfl hS (hI _ _ _ _ hi ⟨only_putObj _ _ _, _, hl⟩) ((World.putObj_heap_other (by omega)).trans hk)⟩
      · exact ⟨some c, _, by have := run_endLoop (P := P) hl (by rw [hrec]; simp); rw [hrec] at this; exact this, hstop _ c ow1 pre _ rfl (hIx _ _ _ _ _ hi ⟨only_putObj _ _ _, _, hl⟩) ((World.putObj_heap_other (by omega)).trans hk)⟩
end Go.Proofs.Ytplinlgafgfepaa.Ld
