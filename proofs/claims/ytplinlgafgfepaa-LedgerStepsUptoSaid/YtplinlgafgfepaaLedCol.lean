/-
  A row of dues that a loop over the iterator gathers.
-/
import Derived.Test.YtplinlgafgfepaaLedNex
namespace Go.Proofs.Ytplinlgafgfepaa.Ld
open Go.RowKit Go.Maps Pr Go.Shelf
attribute [local go_sem] Oper.semAt_some

abbrev y3 (L : LL (List Lim)) (x : Yx) : List Value := [.int .i64 (x.1 : Nat), .int .i64 ((fnd L x.1).2.1 : Nat), .slice (la x.2 (fnd L x.1).2.2.length) (fnd L x.1).2.2.length (fnd L x.1).2.2.length]
def yfl (L : LL (List Lim)) : List Yx → List Value
  | [] => []
  | x :: l => y3 L x ++ yfl L l
theorem yfl_length (L : LL (List Lim)) (l : List Yx) : (yfl L l).length = l.length * 3 := by
  induction l with
  | nil => rfl
  | cons x l ih => simp only [yfl, List.length_append, ih, List.length_cons, List.length_nil]; omega
theorem yfl_append (L : LL (List Lim)) (k l : List Yx) : yfl L (k ++ l) = yfl L k ++ yfl L l := by
  induction k with
  | nil => rfl
  | cons x k ih => simp [yfl, ih]
theorem yfl_at (L : LL (List Lim)) (l : List Yx) (i : Nat) (h : i < l.length) (j : Nat) (hj : j < 3) : (yfl L l)[i * 3 + j]? = (y3 L l[i])[j]? := by
  induction l generalizing i with
  | nil => simp at h
  | cons x l ih =>
    cases i with
    | zero => rw [yfl, List.getElem?_append_left (by simp; omega)]; simp
    | succ i =>
      rw [yfl, List.getElem?_append_right (by simp; omega), show (y3 L x).length = 3 from rfl, show (i + 1) * 3 + j - 3 = i * 3 + j by omega]
      simpa using ih i (by simpa using h)

theorem row_ty {w : World} {B n k : Nat} {T : TypeId} {v : Value} {xs : List Value} (h : w.ownsRow B T 3 v n xs) (e : v.ownBlock = some k) : ∃ cur fz, w.heap[k]? = some (.cells cur T fz) := by
  rcases h.2 with ⟨rfl, _⟩ | ⟨g, cap, cur, rfl, _, hb, _⟩
  · simp [Value.ownBlock] at e
  · simp only [Value.ownBlock, Option.some.injEq] at e
    subst e
    exact ⟨cur, _, hb⟩
theorem row_near {l B n : Nat} {W W' : World} {T : TypeId} {v : Value} {xs : List Value} (h : W.ownsRow B T 3 v n xs) (hn : Near l W W') : W'.ownsRow B T 3 v n xs := by
  refine ⟨h.1, ?_⟩
  rcases h.2 with h2 | ⟨g, cap, cur, hv, hB, hg, r⟩
  · exact .inl h2
  · exact .inr ⟨g, cap, cur, hv, hB, hn.at_ hg (fun r e => by cases e), r⟩
theorem row_low3 {W W' : World} {B n : Nat} {T : TypeId} {v : Value} {xs : List Value} (h : W.ownsRow B T 3 v n xs) (hb : Below W.heap.size W W') : W'.ownsRow B T 3 v n xs := by
  refine ⟨h.1, ?_⟩
  rcases h.2 with h2 | ⟨g, cap, cur, hv, hB, hg, r⟩
  · exact .inl h2
  · exact .inr ⟨g, cap, cur, hv, hB, by rw [hb.block g (Array.getElem?_eq_some_iff.1 hg).1]; exact hg, r⟩

/-- the variable at bT holds the row of what came; the limits of each lie in a block of their own -/
def YR (L : LL (List Lim)) (n0 B bT : Nat) (ow : List Nat) (pre : List Yx) (W : World) (vv : Value) : Prop :=
  Box W bT 27 #[vv] ∧ W.ownsRow n0 38 3 vv pre.length (yfl L pre) ∧ (∀ x ∈ pre, (fnd L x.1).2.2 ≠ [] → B ≤ x.2 ∧ LBlk W x.2 (fnd L x.1).2.2) ∧ bT ∈ ow ∧ ∀ k, vv.ownBlock = some k → k ∈ ow
theorem YR.near {L : LL (List Lim)} {n0 B bT l : Nat} {ow : List Nat} {pre : List Yx} {W W' : World} {vv : Value} (h : YR L n0 B bT ow pre W vv) (hn : Near l W W') : YR L n0 B bT ow pre W' vv :=
  ⟨h.1.near hn, row_near h.2.1 hn, fun x hx h0 => ⟨(h.2.2.1 x hx h0).1, (h.2.2.1 x hx h0).2.near hn⟩, h.2.2.2⟩
theorem YR.below {L : LL (List Lim)} {n0 B bT : Nat} {ow : List Nat} {pre : List Yx} {W W' : World} {vv : Value} (h : YR L n0 B bT ow pre W vv) (hb : Below W.heap.size W W') : YR L n0 B bT ow pre W' vv :=
  ⟨h.1.keep hb, row_low3 h.2.1 hb, fun x hx h0 => ⟨(h.2.2.1 x hx h0).1, (h.2.2.1 x hx h0).2.below hb⟩, h.2.2.2⟩
/-- one comes behind -/
theorem YR.push {L : LL (List Lim)} {n0 B bT g cap : Nat} {ow : List Nat} {pre : List Yx} {W w3 : World} {vv : Value} {x : Yx} {arr : Obj} (h : YR L n0 B bT ow pre W vv) (hbT : bT < W.heap.size)
    (hown : w3.ownsRow n0 38 3 (.slice (some ⟨g, 0, none⟩) (pre.length + 1) cap) (pre.length + 1) (yfl L pre ++ y3 L x)) (hgr : (W.alloc arr).grownBy w3 vv.ownBlock)
    (hob : (Value.slice (some ⟨g, 0, none⟩) (pre.length + 1) cap).ownBlock = vv.ownBlock ∨ (Value.slice (some ⟨g, 0, none⟩) (pre.length + 1) cap).ownBlock = some (W.alloc arr).heap.size)
    (hx : (fnd L x.1).2.2 ≠ [] → B ≤ x.2 ∧ LBlk W x.2 (fnd L x.1).2.2) :
    YR L n0 B bT (g :: ow) (pre ++ [x]) (w3.setCell ⟨bT, 0, none⟩ (.slice (some ⟨g, 0, none⟩) (pre.length + 1) cap)) (.slice (some ⟨g, 0, none⟩) (pre.length + 1) cap) ∧
      Go.Proofs.Ytplinlgafgfepaa.Kept ow W (g :: ow) (w3.setCell ⟨bT, 0, none⟩ (.slice (some ⟨g, 0, none⟩) (pre.length + 1) cap)) ∧ (∀ y ∈ g :: ow, y < W.heap.size ∨ y = g → y < (w3.setCell ⟨bT, 0, none⟩ (.slice (some ⟨g, 0, none⟩) (pre.length + 1) cap)).heap.size) ∧
        ∀ k : Nat, k < W.heap.size → k ≠ bT → vv.ownBlock ≠ some k → (w3.setCell ⟨bT, 0, none⟩ (.slice (some ⟨g, 0, none⟩) (pre.length + 1) cap)).heap[k]? = W.heap[k]? := by
  obtain ⟨h1, h2, h3, h4, h5⟩ := h
  have hal : Below W.heap.size W (W.alloc arr) := (Below.refl _ _).alloc (Nat.le_refl _) _
  have h1a : Box (W.alloc arr) bT 27 #[vv] := h1.alloc arr
  have h2a := h2.alloc arr
  have hnT : some bT ≠ vv.ownBlock := fun e => by
    obtain ⟨cur, fz, hk⟩ := row_ty h2a e.symm
    rw [show (W.alloc arr).heap[bT]? = _ from h1a] at hk
    simp at hk
  have hb3 : Box w3 bT 27 #[vv] := (hgr.block bT h1a.lt hnT).trans h1a
  have hg3 : ∃ cur fz, w3.heap[g]? = some (.cells cur 38 fz) := row_ty hown rfl
  have hgT : g ≠ bT := fun e => by
    obtain ⟨cur, fz, hk⟩ := hg3
    rw [e, show w3.heap[bT]? = _ from hb3] at hk
    simp at hk
  have hLk : ∀ (b : Nat) (ls : List Lim), LBlk W b ls → LBlk (w3.setCell ⟨bT, 0, none⟩ (.slice (some ⟨g, 0, none⟩) (pre.length + 1) cap)) b ls := fun b ls hl => by
    have hla := hl.below hal
    obtain ⟨cur, hc, _⟩ := hla
    have hbn : some b ≠ vv.ownBlock := fun e => by
      obtain ⟨cur2, fz, hk⟩ := row_ty h2a e.symm
      rw [hc] at hk
      simp at hk
    have hbT2 : b ≠ bT := fun e => by
      rw [e, show (W.alloc arr).heap[bT]? = _ from h1a] at hc
      simp at hc
    refine (hl.below hal).of ?_
    rw [Below.heap_setCell _ _ _ _ (by simpa using hbT2)]
    exact hgr.block b (hl.below hal).lt hbn
  have hsz : W.heap.size ≤ w3.heap.size := Nat.le_trans hal.size hgr.size
  have hgb : g ∈ ow ∨ W.heap.size ≤ g := by
    rcases hob with e | e
    · exact .inl (h5 g e.symm)
    · simp only [Value.ownBlock, Option.some.injEq] at e
      rw [e]; exact .inr (by simp)
  refine ⟨⟨heap_setCell_same _ _ 0 _ _ _ hb3, ?_, fun y hy h0 => ?_, by simp [h4], fun k e => by simp only [Value.ownBlock, Option.some.injEq] at e; simp [e]⟩, ⟨?_, fun y hy => ?_⟩, fun y hy hc => ?_, fun k hk h1 h2 => ?_⟩
  · rw [List.length_append, List.length_singleton, yfl_append]
    refine ⟨by simpa [yfl] using hown.1, ?_⟩
    rcases hown.2 with ⟨hn, _⟩ | ⟨g2, cap2, cur, e, hB, hg, r⟩
    · cases hn
    · refine .inr ⟨g2, cap2, cur, e, hB, ?_, by simpa [yfl] using r⟩
      have : g2 ≠ bT := by cases e; exact hgT
      rw [Below.heap_setCell _ _ _ _ (by simpa using this)]
      exact hg
  · rcases List.mem_append.1 hy with hy | hy
    · exact ⟨(h3 y hy h0).1, hLk _ _ (h3 y hy h0).2⟩
    · rw [List.mem_singleton] at hy
      subst hy
      exact ⟨(hx h0).1, hLk _ _ (hx h0).2⟩
  · exact (((Only.refl ow W).alloc arr).grown hgr (fun k e => .inl (h5 k e))).set h4 _
  · rcases List.mem_cons.1 hy with rfl | hy
    · exact hgb
    · exact .inl hy
  · have hs2 : (w3.setCell ⟨bT, 0, none⟩ (.slice (some ⟨g, 0, none⟩) (pre.length + 1) cap)).heap.size = w3.heap.size := by simp [World.setCell]
    rw [hs2]
    rcases hc with hc | rfl
    · omega
    · obtain ⟨cur, fz, hk⟩ := hg3
      exact (Array.getElem?_eq_some_iff.1 hk).1
  · rw [Below.heap_setCell _ _ _ _ (by simpa using h1)]
    exact (hgr.block k (Nat.lt_of_lt_of_le hk hal.size) (fun e => h2 e.symm)).trans (hal.block k hk)
/-- nothing that is no cells turns it -/
theorem YR.only {L : LL (List Lim)} {n0 B bT m : Nat} {ow : List Nat} {pre : List Yx} {W W' : World} {vv : Value} (h : YR L n0 B bT ow pre W vv) (k : Only [m] W W') (hm : ∃ es c, W.heap[m]? = some (.map es c)) : YR L n0 B bT ow pre W' vv := by
  obtain ⟨es, c, hm⟩ := hm
  have key : ∀ (b : Nat) (cs : Array Value) (t : TypeId) (fz : Nat × Nat), W.heap[b]? = some (.cells cs t fz) → W'.heap[b]? = W.heap[b]? := fun b cs t fz hb => k.block b (Array.getElem?_eq_some_iff.1 hb).1 (by
    rw [List.mem_singleton]
    rintro rfl
    rw [hm] at hb
    cases hb)
  obtain ⟨h1, h2, h3, h4, h5⟩ := h
  refine ⟨(key _ _ _ _ h1).trans h1, ⟨h2.1, ?_⟩, fun x hx h0 => ⟨(h3 x hx h0).1, ?_⟩, h4, h5⟩
  · rcases h2.2 with h | ⟨g, cap, cur, hv, hB, hg, r⟩
    · exact .inl h
    · exact .inr ⟨g, cap, cur, hv, hB, (key _ _ _ _ hg).trans hg, r⟩
  · obtain ⟨cur, h6, h7⟩ := (h3 x hx h0).2
    exact ⟨cur, (key _ _ _ _ h6).trans h6, h7⟩
/-- at the end: the row reads as dues -/
theorem YR.dues {L : LL (List Lim)} {n0 B bT : Nat} {ow : List Nat} {xs : List Yx} {W W' : World} {vv : Value} {S : Nat → Prop} (h : YR L n0 B bT ow xs W vv) (ds : LL (List Lim)) (hd : xs.map (·.1) = ds.map (·.1)) (hf : ∀ d ∈ ds, fnd L d.1 = d)
    (hw : ∀ k : Nat, (∃ (cur : Array Value) (fz : Nat × Nat) (t : TypeId), W.heap[k]? = some (.cells cur t fz)) → W'.heap[k]? = W.heap[k]?) (hS : ∀ k : Nat, k < W'.heap.size → (n0 ≤ k ∨ B ≤ k) → S k) : ∃ A cap, vv = .slice A ds.length cap ∧ (A = none → cap = 0) ∧ Dues S W' A ds := by
  obtain ⟨h1, h2, h3, h4, h5⟩ := h
  have hlen : xs.length = ds.length := by have := congrArg List.length hd; simpa using this
  have hid : ∀ i (hi : i < ds.length) (hj : i < xs.length), fnd L xs[i].1 = ds[i] := fun i hi hj => by
    have e : (xs.map (·.1))[i]? = (ds.map (·.1))[i]? := by rw [hd]
    simp only [List.getElem?_map, List.getElem?_eq_getElem hi, List.getElem?_eq_getElem hj, Option.map_some, Option.some.injEq] at e
    rw [e]
    exact hf _ (List.getElem_mem hi)
  have hid1 : ∀ i (hi : i < ds.length) (hj : i < xs.length), xs[i].1 = ds[i].1 := fun i hi hj => by
    have e : (xs.map (·.1))[i]? = (ds.map (·.1))[i]? := by rw [hd]
    simpa only [List.getElem?_map, List.getElem?_eq_getElem hi, List.getElem?_eq_getElem hj, Option.map_some, Option.some.injEq] using e
  rcases h2.2 with ⟨rfl, h0⟩ | ⟨g, cap, cur, rfl, hB, hg, r1, r2, r3, r4⟩
  · have : ds = [] := List.eq_nil_of_length_eq_zero (by omega)
    subst this
    exact ⟨none, 0, rfl, fun _ => rfl, Dues.nil _ _ _⟩
  · refine ⟨some ⟨g, 0, none⟩, cap, by rw [← hlen], (fun e => by cases e), fun i hi => ?_⟩
    have hi2 : i < xs.length := by omega
    have hg' : W'.heap[g]? = some (.cells cur 38 (0, 0)) := (hw g ⟨_, _, _, hg⟩).trans hg
    have hc : ∀ j < 3, W'.cell? ⟨g, i * 3 + j, none⟩ = (y3 L xs[i])[j]? := fun j hj => by
      rw [cell_of_row _ _ _ _ _ _ hg', ← Array.getElem?_toList]
      have e := yfl_at L xs i hi2 j hj
      rw [← r4, List.getElem?_take_of_lt (by omega)] at e
      exact e
    have hadd : (⟨g, 0, none⟩ : Addr).add (i * 3) = ⟨g, i * 3, none⟩ := by
      unfold Addr.add
      by_cases h0 : i * 3 = 0
      · simp [h0]
      · simp [h0]
    refine ⟨⟨g, 0, none⟩, rfl, hS g (Array.getElem?_eq_some_iff.1 hg').1 (.inl hB), ?_, ?_, la xs[i].2 ds[i].2.2.length, ds[i].2.2.length, ?_, ?_⟩
    · rw [hadd]
      have := hc 0 (by omega)
      rw [← hid1 i hi hi2]
      exact this
    · rw [hadd]
      have := hc 1 (by omega)
      rw [← hid i hi hi2]
      exact this
    · rw [hadd]
      have := hc 2 (by omega)
      rw [← hid i hi hi2]
      exact this
    · refine LBlk.lims fun h0 => ?_
      rw [← hid i hi hi2] at h0 ⊢
      obtain ⟨h6, h7⟩ := h3 _ (List.getElem_mem hi2) h0
      have h8 : LBlk W' xs[i].2 (fnd L xs[i].1).2.2 := h7.of (by obtain ⟨cur2, h8, _⟩ := h7; exact hw _ ⟨_, _, _, h8⟩)
      exact ⟨hS _ h8.lt (.inr h6), h8⟩
end Go.Proofs.Ytplinlgafgfepaa.Ld
