/-
  What RespTwo leans on: what is written over, and what is not.
-/
import Derived.Test.YtgjedhdnnfdcgaaRspCut
namespace Go.Proofs.Ytgjedhdnnfdcgaa.Rp
open Go.RowKit

theorem only_put {W : World} {b : Nat} (j : Nat) (v : Value) : Only [b] W (W.setCell ⟨b, j, none⟩ v) := (Only.refl [b] W).set (by simp) v
theorem Only.stands {D : List Nat} {w w' : World} {S : Nat → Prop} (h : Only D w w') (hs : ∀ b, S b → b < w.heap.size ∧ b ∉ D) : Stands S S w w' := fun b hb => ⟨h.block b (hs b hb).1 (hs b hb).2, hb⟩
variable {C : RC} {w0 w w' : World} {own own' : List Nat} {v : Nat} {bs bs' : Bytes} {u u' : Value} {L M : List Cm}
theorem One.only {D : List Nat} (h : One C w0 w own v bs) (k : Only D w w') (hd : ∀ x ∈ D, x ∉ own ∧ w0.heap.size ≤ x) : One C w0 w' own v bs :=
  ⟨k.below h.1 (fun x hx => (hd x hx).2) h.1.size, C.keep h.2.1 k (fun x hx hc => (hd x hc).1 hx), h.2.2⟩

/-- a row of bytes, some of which were written over -/
def CC (w : World) (V : Option Addr) (cc : Nat) (a : Bytes) (i g : Nat) : Prop :=
  V = some ⟨g, 0, none⟩ ∧ ∃ cur : Array Value, w.heap[g]? = some (.cells cur 5 (0, 0)) ∧ a.length ≤ cur.size ∧ ∀ j, i ≤ j → (h : j < a.length) → cur[j]? = some (.int .u8 (a[j].toNat : Int))
theorem CC.cell {V : Option Addr} {cc i g : Nat} {a : Bytes} (h : CC w V cc a i g) {j : Nat} (hi : i ≤ j) (hj : j < a.length) : w.cell? ⟨g, j, none⟩ = some (.int .u8 (a[j].toNat : Int)) := by
  obtain ⟨_, cur, hg, _, hc⟩ := h
  rw [cell_of_row _ _ _ _ _ _ hg]
  exact hc j hi hj
theorem CC.put {V : Option Addr} {cc i g : Nat} {a : Bytes} (h : CC w V cc a i g) (x : Value) : CC (w.setCell ⟨g, i, none⟩ x) V cc a (i + 1) g := by
  obtain ⟨e, cur, hg, hl, hc⟩ := h
  refine ⟨e, cur.setIfInBounds i x, ?_, by simpa using hl, fun j hj h => ?_⟩
  · rw [setCell_eq_setRow w g i cur _ (0, 0) x hg]
    exact setRow_heap w g _ _ _ _ hg
  · rw [Array.getElem?_setIfInBounds_ne (by omega)]
    exact hc j (by omega) h
theorem CC.goes {V : Option Addr} {cc i g : Nat} {a : Bytes} (h : CC w V cc a i g) (k : w'.heap[g]? = w.heap[g]?) : CC w' V cc a i g := by
  obtain ⟨e, cur, hg, hl, hc⟩ := h
  exact ⟨e, cur, by rw [k]; exact hg, hl, hc⟩
theorem BRow.cc {B : Nat} {V : Option Addr} {n cc : Nat} {a : Bytes} (h : BRow w B (.slice V n cc) a) (ha : a ≠ []) : ∃ g, B ≤ g ∧ g < w.heap.size ∧ CC w V cc a 0 g ∧ a.length ≤ cc ∧ n = a.length := by
  rcases h.2 with ⟨e, h0⟩ | ⟨g, cap, cur, e, hB, hg, hc, _, hs, ht⟩
  · exact absurd (List.eq_nil_of_length_eq_zero h0) ha
  · injection e with e1 e2 e3
    subst e3
    refine ⟨g, hB, (Array.getElem?_eq_some_iff.1 hg).1, ⟨e1, cur, hg, by rw [hs]; omega, fun j _ hj => ?_⟩, hc, e2⟩
    have h1 : (bcells a)[j]? = some (.int .u8 (a[j].toNat : Int)) := by simp [bcells, hj]
    rw [← ht, List.getElem?_take] at h1
    split at h1
    · simpa using h1
    · cases h1
theorem CC.rest {S : Nat → Prop} {V : Option Addr} {cc i g : Nat} {a : Bytes} (h : CC w V cc a i g) (hl : a.length ≤ cc) (hs : S g) : BS S w (some ((⟨g, 0, none⟩ : Addr).add i)) (cc - i) (a.drop i) where
  bts := fun j hj => by
    rw [List.length_drop] at hj
    refine ⟨_, rfl, ?_⟩
    rw [Addr.add_add, List.getElem_drop]
    have e : (⟨g, 0, none⟩ : Addr).add (i + j) = ⟨g, i + j, none⟩ := by unfold Addr.add; split <;> simp_all
    rw [e]
    exact h.cell (by omega) (by omega)
  le := by rw [List.length_drop]; omega
  nil := fun e => by cases e
  fr := fun x e _ => by
    injection e with e
    subst e
    rw [add_blk]
    exact hs

/-- the blocks of commands that were handed out -/
def blk (x : Cm) : Nat := match x.2.1 with
  | some a => a.block
  | none => 0
/-- what came is gathered anew, so many of it; and spoilt, so many of it -/
structure Tw (w6 wr : World) (L : List Cm) (i n : Nat) (u : Value) (K : List Cm) : Prop where
  only : Only ((L.take i).map blk) w6 wr
  row : RRow wr w6.heap.size u K
  ts : TS (fun b => w6.heap.size ≤ b ∧ b < wr.heap.size) wr K
  eq : K.map (·.1) = (L.take n).map (·.1)
variable {S : Nat → Prop} {A : Option Addr} {w6 wr : World} {i n : Nat} {K : List Cm}
theorem blk_take (h : Handed S w6 A L) (i : Nat) : ∀ x ∈ (L.take i).map blk, S x := fun x hx => by
  obtain ⟨c, hc, rfl⟩ := List.mem_map.1 hx
  obtain ⟨j, hj, rfl⟩ := List.mem_iff_getElem.1 (List.mem_of_mem_take hc)
  obtain ⟨a, cur, e, hs, _⟩ := h.one j hj
  unfold blk
  rw [e]
  exact hs
/-- what was not yet spoilt is as it was -/
theorem Tw.one (t : Tw w6 wr L i n u K) (h : Handed S w6 A L) (hS : ∀ b, S b → b < w6.heap.size) {j : Nat} (hj : j < L.length) (hij : i ≤ j) :
    ∃ (g : Nat) (cur : Array Value), L[j].2.1 = some ⟨g, 0, none⟩ ∧ S g ∧ wr.heap[g]? = some (.cells cur 9 (0, 0)) ∧ Texts wr L[j].2.1 (L[j].1.map bat) := by
  obtain ⟨a, cur, e, hs, hb, ht⟩ := h.one j hj
  have hk : wr.heap[a]? = w6.heap[a]? := by
    refine t.only.block _ (hS _ hs) fun hc => ?_
    obtain ⟨c, hc, hbk⟩ := List.mem_map.1 hc
    obtain ⟨q, hq, rfl⟩ := List.mem_iff_getElem.1 hc
    rw [List.length_take] at hq
    rw [List.getElem_take] at hbk
    obtain ⟨a2, _, e2, _⟩ := h.one q (by omega)
    have : blk L[q] = a2 := by unfold blk; rw [e2]
    exact h.ne q j (by omega) hj _ _ (by omega) e2 e (by rw [← this]; exact hbk)
  refine ⟨a, cur, e, hs, by rw [hk]; exact hb, fun q hq => ?_⟩
  obtain ⟨a', e', hv⟩ := ht q hq
  rw [e] at e'
  injection e' with e'
  subst e'
  refine ⟨_, e, ?_⟩
  unfold World.cell? at hv ⊢
  rw [add_blk] at hv ⊢
  rw [hk]
  exact hv
/-- the row that came is as it was -/
theorem Tw.outer (t : Tw w6 wr L i n u K) (h : Handed S w6 A L) (hS : ∀ b, S b → b < w6.heap.size) {j : Nat} (hj : j < L.length) :
    ∃ a : Addr, A = some a ∧ wr.cell? (a.add j) = some (Cm.v L[j]) := by
  obtain ⟨a, e, hs, hc, cur, fz, hh⟩ := h.row j hj
  refine ⟨a, e, ?_⟩
  have hk : wr.heap[a.block]? = w6.heap[a.block]? := by
    refine t.only.block _ (hS _ hs) fun hc => ?_
    obtain ⟨c, hc, hbk⟩ := List.mem_map.1 hc
    obtain ⟨q, hq, rfl⟩ := List.mem_iff_getElem.1 (List.mem_of_mem_take hc)
    obtain ⟨a2, cur2, e2, _, hb2, _⟩ := h.one q hq
    have : blk L[q] = a2 := by unfold blk; rw [e2]
    rw [this] at hbk
    rw [hbk, hh] at hb2
    injection hb2 with h1
    injection h1 with h1 h2 h3
    revert h2
    decide
  unfold World.cell? at hc ⊢
  rw [add_blk] at hc ⊢
  rw [hk]
  exact hc
theorem Tw.below (t : Tw w6 wr L i n u K) (hb : Below wr.heap.size wr w') : Tw w6 w' L i n u K where
  only := t.only.trans (Only.of_below [] hb) (fun x hx => by cases hx)
  row := t.row.below hb
  ts := t.ts.goes fun b hx => ⟨hb.block b hx.2, hx.1, Nat.lt_of_lt_of_le hx.2 hb.size⟩
  eq := t.eq
theorem Tw.more (t : Tw w6 wr L i n u K) : Tw w6 wr L (i + 1) n u K where
  only := t.only.mono fun x hx => .inl (by
    obtain ⟨c, hc, rfl⟩ := List.mem_map.1 hx
    exact List.mem_map.2 ⟨c, (List.take_sublist_take_left (by omega)).subset hc, rfl⟩)
  row := t.row
  ts := t.ts
  eq := t.eq
theorem TS.goes_grown {B : Nat} {M : List Cm} (h : TS (fun b => B ≤ b ∧ b < wr.heap.size) wr M) {B' : Nat} (hu : RRow wr B' u K) (hg : wr.grownBy w' u.ownBlock) : TS (fun b => B ≤ b ∧ b < w'.heap.size) w' M := fun x hx => by
  obtain ⟨a, cur, e, hs, hb, ht, hc⟩ := h x hx
  have h1 : w'.heap[a.block]? = wr.heap[a.block]? := by
    refine hg.block _ hs.2 (fun e => ?_)
    rcases hu.2 with ⟨rfl, _⟩ | ⟨g, cap, cur', rfl, _, hgg, _⟩
    · cases e
    · simp only [Value.ownBlock, Option.some.injEq] at e
      rw [e] at hb
      rw [hb] at hgg
      injection hgg with h1
      injection h1 with h1 h2 h3
      revert h2
      decide
  refine ⟨a, cur, e, ⟨hs.1, Nat.lt_of_lt_of_le hs.2 hg.size⟩, by rw [h1]; exact hb, fun i hi => ?_, hc⟩
  obtain ⟨a', e', hv⟩ := ht i hi
  rw [e] at e'
  injection e' with e'
  subst e'
  refine ⟨a, e, ?_⟩
  unfold World.cell? at hv ⊢
  rw [add_blk] at hv ⊢
  rw [h1]
  exact hv
/-- one more is gathered -/
theorem Tw.push (t : Tw w6 wr L i n u K) (hn : n < L.length) {x : Cm} (hx : x.1 = L[n].1) (hM : TS (fun b => w6.heap.size ≤ b ∧ b < wr.heap.size) wr [x]) (hr : RRow w' w6.heap.size u' (K ++ [x])) (hg : wr.grownBy w' u.ownBlock) : Tw w6 w' L i (n + 1) u' (K ++ [x]) where
  only := ⟨hg.os.trans t.only.os, hg.tape.trans t.only.tape, hg.output.trans t.only.output, Nat.le_trans t.only.size hg.size, fun k hk hn => by
    rw [hg.block k (Nat.lt_of_lt_of_le hk t.only.size) (fun e => by have := (World.ownsRow.lt t.row k e.symm).1; omega)]
    exact t.only.block k hk hn⟩
  row := hr
  ts := (t.ts.append hM).goes_grown t.row hg
  eq := by rw [List.map_append, t.eq, List.take_succ_eq_append_getElem hn, List.map_append]; simp [hx]
/-- one of the texts is written over -/
theorem Tw.put (t : Tw w6 wr L i n u K) {g : Nat} (hg : g ∈ (L.take i).map blk) (hl : g < w6.heap.size) (q : Nat) (x : Value) : Tw w6 (wr.setCell ⟨g, q, none⟩ x) L i n u K where
  only := t.only.set (p := ⟨g, q, none⟩) hg x
  row := t.row.goes fun k hk => Below.heap_setCell _ _ _ _ (fun e => by have := (World.ownsRow.lt t.row k hk).1; have e2 : k = g := e; omega)
  ts := t.ts.goes fun b hb => ⟨Below.heap_setCell _ _ _ _ (fun e => by have e2 : b = g := e; omega), by rw [World.size_setCell]; exact hb⟩
  eq := t.eq
end Go.Proofs.Ytgjedhdnnfdcgaa.Rp
