/-
  A range over a function, the iterator of which turns memory of its own as it goes, and hands memory over. The proof goes by the model's own words for a round (as the kit's laws on a range over a function do).
-/
import Derived.Test.YtgjedhdnnfdcgaaRspTak
import Derived.RangeFuncFrom
import Derived.RangeFuncNested
import Derived.RangeFuncBound
import Derived.RangeFuncCalls
import Derived.RangeFuncLeaves
import Derived.RangeFuncBox
import Derived.Shelf.RegionOpen
import Derived.OwnWalkIn
import Derived.TacticsInMore
import Derived.LoopNIn
import Derived.LoopIn
import Derived.Maps.OwnIn
import Derived.Stop.RegionWithIn
import Derived.Sort.CutIn
import Derived.Sort.LoopGhostIn
namespace Go.Proofs.Ytgjedhdnnfdcgaa.Rp
open Go.RowKit Go.Shelf

/-- an iterator's contract: it hands out one x behind the other, each with what Fr tells of it and with the blocks Rel x, which are the caller's from then on; the caller's blocks (ow) turn between; what is so at the end is told by End -/
def EachM {α : Type} (F : Fence) (n : Nat) (P : Program) (gf : Nat) (lb : Array Value) (encs : α → Array Value) (Fr : List α → α → World → Prop) (Rel : α → List Nat) (End : List Nat → World → List α → List Nat → World → Prop) (Rd : List Nat → Prop) (w : World) : Prop :=
  ∀ (l : Nat) (J : List Nat → List α → World → Prop) (ow : List Nat) (W : World), Below w.heap.size w W → (∀ x ∈ ow, x < W.heap.size) → Rd ow →
    (∀ ow1 pre o W1 W2, J ow1 pre W1 → Only o W1 W2 → (∀ x ∈ ow1, x ∉ o) → J ow1 pre W2) →
    (∀ ow1 pre x W1, J ow1 pre W1 → Fr pre x W1 → (∀ y ∈ ow1, y < W1.heap.size ∧ y ∉ Rel x) → YieldAt F (n - 1) P l (encs x) W1 fun e W' =>
      e = .returned (.bool true) ∧ ∃ ow2, J ow2 (pre ++ [x]) W' ∧ Only ow1 W1 W' ∧ ∀ y ∈ ow2, (y ∈ ow1 ∨ y ∈ Rel x ∨ W1.heap.size ≤ y) ∧ y < W'.heap.size) →
    J ow [] W →
    CallsIn F n P gf (#[.func (.yield l) #[] #[]] ++ lb) W fun e W' => (∃ v, e = .returned v) ∧ ∃ ow2 xs, J ow2 xs W' ∧ End ow W xs ow2 W'

def eachPostM {α : Type} (I : List Nat → List α → World → Prop) (ow rel : List Nat) (xs : List α) (W : World) : Exit → Act → World → Prop
  | .normal, _, W' => ∃ ow2, Only ow W W' ∧ I ow2 xs W' ∧ ∀ y ∈ ow2, (y ∈ ow ∨ y ∈ rel ∨ W.heap.size ≤ y) ∧ y < W'.heap.size
  | .ret, _, _ => False
  | .exit _, _, _ => False
  | .goto _, _, _ => False
  | .panic _, _, _ => False
  | .outgrown, _, _ => False
theorem only_putObj (W : World) (l : Nat) (o : Obj) : Only [l] W (W.putObj l o) := (Only.refl [l] W).grown (grownBy_putObj' W l o) (fun k e => by cases e; exact .inl (by simp))
theorem only_at {own : List Nat} {W W' : World} (h : Only own W W') {l : Nat} (hl : l ∉ own) {o : Obj} (hk : W.heap[l]? = some o) : W'.heap[l]? = some o := (h.block l (Array.getElem?_eq_some_iff.1 hk).1 hl).trans hk

theorem wpIn_eachM {α : Type} {F : Fence} {n : Nat} {P : Program} {w : World} {g : Operand} {ps : Array Tmp} {assign body : Code} {Q : Exit → Act → World → Prop} {a : Act}
    (hro : F.round = none) (h1 : 1 ≤ n) {gf : Nat} {lb : Array Value} (hg : a.eval g = .func (.func gf) #[] lb) (hFg : F.fn gf) (eg : ∀ args w, (callFunc gf args).run P w = .ok (.enter gf args) w)
    {encs : α → Array Value} {Fr : List α → α → World → Prop} {Rel : α → List Nat} {End : List Nat → World → List α → List Nat → World → Prop} {Rd : List Nat → Prop} {w0 : World} (hseq : EachM F (n - 1) P gf lb encs Fr Rel End Rd w0) (hb0 : Below w0.heap.size w0 w) (hps : ∀ x, (encs x).size = ps.size)
    (ow : List Nat) (how : ∀ x ∈ ow, x < w.heap.size) (hRd : Rd ((w.heap.size + 1) :: w.heap.size :: ow))
    (I : List Nat → List α → World → Prop) (hI : ∀ ow1 pre o W W', I ow1 pre W → Only o W W' → (∀ x ∈ ow1, x ∉ o) → I ow1 pre W')
    (hI0 : I ow [] w)
    (hround : ∀ (ow1 : List Nat) (pre : List α) (x : α) (W : World), I ow1 pre W → Fr pre x W → (∀ y ∈ ow1, y < W.heap.size ∧ y ∉ Rel x) → w.heap.size + 1 < W.heap.size → w.heap.size + 1 ∉ Rel x → w.heap.size + 1 ∉ ow1 → assign.wpIn (F.inRound (w.heap.size + 1)) (n - 1 - 1) P (Exit.then (fun a' Wa => Below W.heap.size W Wa ∧
      ∀ Wb, Only [w.heap.size + 1] Wa Wb → Wb.heap.size = Wa.heap.size → body.wpIn (F.inRound (w.heap.size + 1)) (n - 1 - 1) P (eachPostM I ow1 (Rel x) (pre ++ [x]) Wb) a' Wb) (fun _ _ _ => False))
      { tmps := (ps.zip (encs x)).foldl (fun t (p, v) => t.setIfInBounds p v) a.tmps, defers := [] } W)
    (hdone : ∀ (D : Nat) (ow1 : List Nat) (xs : List α) (W1 W2 W : World), D = w.heap.size → Below w.heap.size w W1 → W1.heap.size = w.heap.size + 2 → End ((w.heap.size + 1) :: w.heap.size :: ow) W1 xs ((w.heap.size + 1) :: w.heap.size :: ow1) W2 → Only [w.heap.size + 1] W2 W → I ow1 xs W → w.heap.size ∉ ow1 →
      W.heap[D]? = some (.deferred (some [])) → Q .normal { a with defers := { target := .collected D, args := #[] } :: a.defers } W) :
    (Code.rangeFunc g ps assign body).wpIn F n P Q a w := by
  refine wpIn_rangeFunc ?_
  intro fn hfn
  rw [hro]
  obtain ⟨rec, hrec⟩ : ∃ rec : LoopState → Option Code → Loop, rec = fun st pe => { state := st, pending := pe, fn, tmps := a.tmps, params := ps, assign, body, defers := w.heap.size } := ⟨_, rfl⟩
  obtain ⟨W1, hW1⟩ : ∃ W1, (w.alloc (.deferred (some []))).alloc (.loop (rec .ready none)) = W1 := ⟨_, rfl⟩
  have hL1 : W1.heap[w.heap.size + 1]? = some (.loop (rec .ready none)) := by
    have := heap_alloc_new (w.alloc (.deferred (some []))) (.loop (rec .ready none))
    rw [World.size_alloc] at this
    rw [← hW1]; exact this
  have hK1 : W1.heap[w.heap.size]? = some (.deferred (some [])) := by
    rw [← hW1]; exact (Below.heap_alloc _ _ _ (by simp)).trans (heap_alloc_new w _)
  have hww : Below w.heap.size w W1 := by rw [← hW1]; exact ((Below.refl _ w).alloc (Nat.le_refl _) _).alloc (by simp) _
  have hs1 : W1.heap.size = w.heap.size + 2 := by rw [← hW1]; simp
  refine ⟨w.heap.size + 1, [{ target := .collected w.heap.size, args := #[] }], W1, { target := .fn (.func gf) lb, args := #[.func (.yield (w.heap.size + 1)) #[] #[]] }, W1, gf,
    #[.func (.yield (w.heap.size + 1)) #[] #[]] ++ lb, W1, ?_, ?_, ?_, ?_, fun _ => h1, ?_⟩
  · rw [← hW1, hrec]; exact run_enterLoop_outer _ _ _ _ _
  · simp only [resolve, hg]
    simp [go_sem]
  · intro f' hf'; simp [Target.leads] at hf'; subst hf'; exact hFg
  · simp [invoke, go_sem, eg]
  · have lt_of : ∀ {W2 : World} {k : Nat} {o : Obj}, W2.heap[k]? = some o → k < W2.heap.size := fun h => (Array.getElem?_eq_some_iff.1 h).1
    refine (hseq (w.heap.size + 1)
      (fun owj pre W => ∃ ow1, owj = (w.heap.size + 1) :: w.heap.size :: ow1 ∧ I ow1 pre W ∧ W.heap[w.heap.size + 1]? = some (.loop (rec .ready none)) ∧ W.heap[w.heap.size]? = some (.deferred (some [])) ∧ w.heap.size + 1 ∉ ow1 ∧ w.heap.size ∉ ow1)
      ((w.heap.size + 1) :: w.heap.size :: ow) W1 (hb0.trans (hww.mono hb0.size)) (fun x hx => by
        rcases List.mem_cons.1 hx with rfl | hx
        · omega
        · rcases List.mem_cons.1 hx with rfl | hx
          · omega
          · have := how x hx; omega) hRd ?_ ?_
      ⟨ow, rfl, hI _ _ [] _ _ hI0 (Only.of_below _ hww) (by simp), hL1, hK1, fun hc => by have := how _ hc; omega, fun hc => by have := how _ hc; omega⟩).mono ?_
    · rintro owj pre o A B ⟨ow1, rfl, hi, hl, hk, n1, n2⟩ ho hd
      exact ⟨ow1, rfl, hI _ _ o _ _ hi ho (fun x hx => hd x (by simp [hx])), only_at ho (hd _ (by simp)) hl, only_at ho (hd _ (by simp)) hk, n1, n2⟩
    · rintro owj pre x W ⟨ow1, rfl, hi, hl, hk, n1, n2⟩ hfr hlt
      have hlR := (hlt (w.heap.size + 1) (by simp)).2
      have hDR := (hlt (w.heap.size) (by simp)).2
      have hy := run_yield (P := P) (args := encs x) hl (by rw [hrec]; exact hps x)
      rw [hrec] at hy
      refine ⟨fn, _, assign, body, hy, roundIn_of_wpIn hfn (wpIn_mono (hround ow1 pre x W hi hfr (fun y hy => hlt y (by simp [hy])) (lt_of hl) hlR n1) ?_)⟩
      rintro e a' Wa hp
      cases e with
      | normal =>
        obtain ⟨hba, hbody⟩ := (hp : _ ∧ _)
        have hla := (hba.block _ (lt_of hl)).trans hl
        have hka := (hba.block _ (lt_of hk)).trans hk
        refine ⟨_, run_beginRound hla (by rw [hrec]), ?_⟩
        have hl2 : (Wa.putObj (w.heap.size + 1) (.loop { rec .ready none with state := .busy })).heap[w.heap.size + 1]? = some (.loop { rec .ready none with state := .busy }) := World.putObj_heap_same (lt_of hla)
        have hk2 : (Wa.putObj (w.heap.size + 1) (.loop { rec .ready none with state := .busy })).heap[w.heap.size]? = some (.deferred (some [])) := (World.putObj_heap_other (by omega)).trans hka
        have hnb := only_putObj Wa (w.heap.size + 1) (.loop { rec .ready none with state := .busy })
        have hzb : (Wa.putObj (w.heap.size + 1) (.loop { rec .ready none with state := .busy })).heap.size = Wa.heap.size := by simp [World.putObj]
        generalize Wa.putObj (w.heap.size + 1) (.loop { rec .ready none with state := .busy }) = Wb at hl2 hk2 hnb hzb ⊢
        refine wpIn_mono (hbody Wb hnb hzb) ?_
        rintro e a3 W3 hp
        cases e with
        | normal =>
          obtain ⟨ow2, hk3, hi3, hlt3⟩ := hp
          have hl3 := only_at hk3 n1 hl2
          have hk4 := only_at hk3 n2 hk2
          have hend := run_endRound (P := P) none hl3
          have hn4 := only_putObj W3 (w.heap.size + 1) (.loop (rec .ready none))
          have hl5 : (W3.putObj (w.heap.size + 1) (.loop (rec .ready none))).heap[w.heap.size + 1]? = some (.loop (rec .ready none)) := World.putObj_heap_same (lt_of hl3)
          have hk5 : (W3.putObj (w.heap.size + 1) (.loop (rec .ready none))).heap[w.heap.size]? = some (.deferred (some [])) := (World.putObj_heap_other (by omega)).trans hk4
          have hlb := lt_of hl2
          have hkb := lt_of hk2
          have hsa := hba.size
          have l2 : w.heap.size + 1 ∉ ow2 := fun hc => by
            rcases (hlt3 _ hc).1 with h | h | h
            · exact n1 h
            · exact hlR h
            · omega
          have D2 : w.heap.size ∉ ow2 := fun hc => by
            rcases (hlt3 _ hc).1 with h | h | h
            · exact n2 h
            · exact hDR h
            · omega
          have hz4 := hn4.size
          rw [hrec] at hend hn4 hl5 hk5 hz4
          refine ⟨_, _, hend, rfl, (w.heap.size + 1) :: w.heap.size :: ow2, ⟨ow2, rfl, hI _ _ _ _ _ hi3 hn4 (fun x hx hc => by rw [List.mem_singleton] at hc; subst hc; exact l2 hx), by rw [hrec]; exact hl5, hk5, l2, D2⟩, ?_, ?_⟩
          · exact (((Only.of_below _ hba).also (hnb.mono (by simp))).also (hk3.mono fun x hx => .inl (by simp [hx]))).also (hn4.mono (by simp))
          · intro y hy
            rcases List.mem_cons.1 hy with rfl | hy
            · exact ⟨.inl (by simp), lt_of hl5⟩
            · rcases List.mem_cons.1 hy with rfl | hy
              · exact ⟨.inl (by simp), lt_of hk5⟩
              · obtain ⟨q1, q2⟩ := hlt3 y hy
                refine ⟨?_, Nat.lt_of_lt_of_le q2 hz4⟩
                rcases q1 with q | q | q
                · exact .inl (by simp [q])
                · exact .inr (.inl q)
                · exact .inr (.inr (by omega))
        | ret => exact (hp : False).elim
        | exit id => exact (hp : False).elim
        | goto t => exact (hp : False).elim
        | panic ch => exact (hp : False).elim
        | outgrown => exact (hp : False).elim
      | ret => exact (hp : False).elim
      | exit id => exact (hp : False).elim
      | goto t => exact (hp : False).elim
      | panic ch => exact (hp : False).elim
      | outgrown => exact (hp : False).elim
    · rintro e W2 ⟨⟨v, rfl⟩, owj, xs, ⟨ow1, rfl, hi, hl, hk, n1, n2⟩, hE⟩
      exact ⟨none, _, by have := run_endLoop (P := P) hl (by rw [hrec]; simp); rw [hrec] at this; exact this, hdone _ ow1 xs W1 W2 _ rfl hww hs1 hE (only_putObj _ _ _) (hI _ _ _ _ _ hi (only_putObj _ _ _) (fun x hx hc => by rw [List.mem_singleton] at hc; subst hc; exact n1 hx)) n2 ((World.putObj_heap_other (by omega)).trans hk)⟩
end Go.Proofs.Ytgjedhdnnfdcgaa.Rp
