/-
  The table in memory: what it is, and what each of its cells holds.
-/
import Derived.Test.YtdnaecmihgcelaaRows
import Derived.Test.YtdnaecmihgcelaaTabMath
import Derived.Test.YtdnaecmihgcelaaHashSum
import Derived.WalkKit
import Derived.WalkSpells
import Derived.WalkLawsBesides
import Derived.Deep.LoopGhost
import Derived.Lib.Hide
import Derived.Laws.Bits64
import Derived.Laws.Bits64b
import Derived.Laws.OwnMore
namespace Go.Proofs.Ytdnaecmihgcelaa.Tb
open Go.RowKit

theorem ret_int {k : IntKind} {a b : Int} (h : a = b) : Ending.returned (.int k a) = .returned (.int k b) := by rw [h]
theorem val_int {k : IntKind} {a b : Int} (h : a = b) : Value.int k a = .int k b := by rw [h]

structure Sm where
  room : Nat
  n : Nat
  M : Nat
  key : Nat → ByteArray
  sm : Nat → Nat
  val : Nat → Int
  old : Nat → Nat
  new : Nat → Nat
  pl : Nat → Nat
structure Lay where
  ob : Nat
  eb : Nat
  pb : Nat
  ec : Nat
def Pow (M : Nat) : Prop := ∃ k, 3 ≤ k ∧ k ≤ 15 ∧ M = 2 ^ k
theorem Pow.le {M : Nat} (h : Pow M) : 8 ≤ M ∧ M ≤ 32768 := by
  obtain ⟨k, h1, h2, rfl⟩ := h
  exact ⟨by simpa using Nat.pow_le_pow_right (n := 2) (by decide) h1, by simpa using Nat.pow_le_pow_right (n := 2) (by decide) h2⟩

structure Ents (cur : Array Value) (S : Sm) : Prop where
  key : ∀ i, i ≤ S.n → cur[i * 5]? = some (.string (S.key i))
  sm : ∀ i, i ≤ S.n → cur[i * 5 + 1]? = some (.int .u64 (S.sm i : Nat))
  val : ∀ i, i ≤ S.n → cur[i * 5 + 2]? = some (.int .i64 (S.val i))
  old : ∀ i, i ≤ S.n → cur[i * 5 + 3]? = some (.int .i64 (S.old i : Nat))
  new : ∀ i, i ≤ S.n → cur[i * 5 + 4]? = some (.int .i64 (S.new i : Nat))

def headCells (L : Lay) (S : Sm) : Array Value := #[.int .i64 (S.room : Nat), .slice (some ⟨L.eb, 0, none⟩) (S.n + 1) L.ec, .slice (some ⟨L.pb, 0, none⟩) S.M S.M]

structure At (w : World) (L : Lay) (S : Sm) : Prop where
  o : w.heap[L.ob]? = some (.cells (headCells L S) 75 (0, 0))
  e : ∃ cur, w.heap[L.eb]? = some (.cells cur 80 (0, 0)) ∧ cur.size = L.ec * 5 ∧ Ents cur S
  p : ∃ cur, w.heap[L.pb]? = some (.cells cur 3 (0, 0)) ∧ cur.size = S.M ∧ ∀ i, i < S.M → cur[i]? = some (.int .i64 (S.pl i : Nat))
  oe : L.ob ≠ L.eb
  op : L.ob ≠ L.pb
  ep : L.eb ≠ L.pb
  nec : S.n + 1 ≤ L.ec
  ecm : L.ec ≤ maxLen
  nn : S.n ≤ 10000
  pow : Pow S.M

variable {w : World} {L : Lay} {S : Sm}
theorem At.roomc (h : At w L S) : w.cell? ⟨L.ob, 0, none⟩ = some (.int .i64 (S.room : Nat)) := by rw [cell_of_row _ _ _ _ _ _ h.o]; rfl
theorem At.entc (h : At w L S) : w.cell? ⟨L.ob, 1, none⟩ = some (.slice (some ⟨L.eb, 0, none⟩) (S.n + 1) L.ec) := by rw [cell_of_row _ _ _ _ _ _ h.o]; rfl
theorem At.plc (h : At w L S) : w.cell? ⟨L.ob, 2, none⟩ = some (.slice (some ⟨L.pb, 0, none⟩) S.M S.M) := by rw [cell_of_row _ _ _ _ _ _ h.o]; rfl
theorem At.key (h : At w L S) {i : Nat} (hi : i ≤ S.n) : w.cell? ⟨L.eb, i * 5, none⟩ = some (.string (S.key i)) := by obtain ⟨cur, h1, _, h3⟩ := h.e; rw [cell_of_row _ _ _ _ _ _ h1]; exact h3.key i hi
theorem At.sm (h : At w L S) {i : Nat} (hi : i ≤ S.n) : w.cell? ⟨L.eb, i * 5 + 1, none⟩ = some (.int .u64 (S.sm i : Nat)) := by obtain ⟨cur, h1, _, h3⟩ := h.e; rw [cell_of_row _ _ _ _ _ _ h1]; exact h3.sm i hi
theorem At.val (h : At w L S) {i : Nat} (hi : i ≤ S.n) : w.cell? ⟨L.eb, i * 5 + 2, none⟩ = some (.int .i64 (S.val i)) := by obtain ⟨cur, h1, _, h3⟩ := h.e; rw [cell_of_row _ _ _ _ _ _ h1]; exact h3.val i hi
theorem At.old (h : At w L S) {i : Nat} (hi : i ≤ S.n) : w.cell? ⟨L.eb, i * 5 + 3, none⟩ = some (.int .i64 (S.old i : Nat)) := by obtain ⟨cur, h1, _, h3⟩ := h.e; rw [cell_of_row _ _ _ _ _ _ h1]; exact h3.old i hi
theorem At.new (h : At w L S) {i : Nat} (hi : i ≤ S.n) : w.cell? ⟨L.eb, i * 5 + 4, none⟩ = some (.int .i64 (S.new i : Nat)) := by obtain ⟨cur, h1, _, h3⟩ := h.e; rw [cell_of_row _ _ _ _ _ _ h1]; exact h3.new i hi
theorem At.pl (h : At w L S) {i : Nat} (hi : i < S.M) : w.cell? ⟨L.pb, i, none⟩ = some (.int .i64 (S.pl i : Nat)) := by obtain ⟨cur, h1, _, h3⟩ := h.p; rw [cell_of_row _ _ _ _ _ _ h1]; exact h3 i hi
theorem At.ofree (h : At w L S) (i : Nat) : w.frozen? ⟨L.ob, i, none⟩ = false := frozen_of_row _ _ _ _ _ h.o
theorem At.efree (h : At w L S) (i : Nat) : w.frozen? ⟨L.eb, i, none⟩ = false := by obtain ⟨cur, h1, _⟩ := h.e; exact frozen_of_row _ _ _ _ _ h1
theorem At.pfree (h : At w L S) (i : Nat) : w.frozen? ⟨L.pb, i, none⟩ = false := by obtain ⟨cur, h1, _⟩ := h.p; exact frozen_of_row _ _ _ _ _ h1
theorem At.olt (h : At w L S) : L.ob < w.heap.size := (Array.getElem?_eq_some_iff.1 h.o).1
theorem At.elt (h : At w L S) : L.eb < w.heap.size := by obtain ⟨cur, h1, _⟩ := h.e; exact (Array.getElem?_eq_some_iff.1 h1).1
theorem At.plt (h : At w L S) : L.pb < w.heap.size := by obtain ⟨cur, h1, _⟩ := h.p; exact (Array.getElem?_eq_some_iff.1 h1).1

theorem heap_set {b : Nat} {t : TypeId} {cur : Array Value} {fz : Nat × Nat} (h : w.heap[b]? = some (.cells cur t fz)) (i : Nat) (v : Value) : (w.setCell ⟨b, i, none⟩ v).heap[b]? = some (.cells (cur.setIfInBounds i v) t fz) := by
  simp only [World.setCell, Array.getElem?_modify, h]
  simp
theorem heap_far {b c : Nat} (hne : b ≠ c) (i : Nat) (v : Value) : (w.setCell ⟨c, i, none⟩ v).heap[b]? = w.heap[b]? := Below.heap_setCell _ _ _ _ hne

/-- the world has turned at these blocks alone, of all that there were -/
structure Only (own : List Nat) (w w' : World) : Prop where
  os : w'.os = w.os
  tape : w'.tape = w.tape
  output : w'.output = w.output
  size : w.heap.size ≤ w'.heap.size
  block : ∀ k, k < w.heap.size → k ∉ own → w'.heap[k]? = w.heap[k]?
theorem Only.refl (own : List Nat) (w : World) : Only own w w := ⟨rfl, rfl, rfl, Nat.le_refl _, fun _ _ _ => rfl⟩
theorem Only.trans {own own2 : List Nat} {a b c : World} (h : Only own a b) (k : Only own2 b c) (hs : ∀ x ∈ own2, x ∈ own ∨ a.heap.size ≤ x) : Only own a c :=
  ⟨k.os.trans h.os, k.tape.trans h.tape, k.output.trans h.output, Nat.le_trans h.size k.size, fun i hi hn => (k.block i (Nat.lt_of_lt_of_le hi h.size) (fun hc => (hs i hc).elim hn (fun h2 => by omega))).trans (h.block i hi hn)⟩
theorem Only.also {own : List Nat} {a b c : World} (h : Only own a b) (k : Only own b c) : Only own a c := h.trans k (fun _ h => .inl h)
theorem Only.mono {own own2 : List Nat} {a b : World} (h : Only own a b) (hs : ∀ x ∈ own, x ∈ own2 ∨ a.heap.size ≤ x) : Only own2 a b := ⟨h.os, h.tape, h.output, h.size, fun i hi hn => h.block i hi (fun hc => (hs i hc).elim hn (fun h2 => by omega))⟩
theorem Only.set {own : List Nat} {a b : World} (h : Only own a b) {p : Addr} (hp : p.block ∈ own) (v : Value) : Only own a (b.setCell p v) :=
  h.also ⟨rfl, rfl, rfl, by simp [World.setCell], fun k _ hn => Below.heap_setCell _ _ _ _ (fun e => hn (e ▸ hp))⟩
theorem Only.alloc {own : List Nat} {a b : World} (h : Only own a b) (o : Obj) : Only own a (b.alloc o) :=
  h.also ⟨rfl, rfl, rfl, by simp, fun k hk _ => Below.heap_alloc _ _ _ hk⟩
theorem Only.drew {own : List Nat} {a b : World} (h : Only own a b) : Only own a b.drew := ⟨h.os, h.tape, h.output, h.size, h.block⟩
theorem Only.grown {own : List Nat} {a b c : World} {row : Option Nat} (h : Only own a b) (hg : b.grownBy c row) (hr : ∀ k, row = some k → k ∈ own ∨ a.heap.size ≤ k) : Only own a c :=
  ⟨hg.os.trans h.os, hg.tape.trans h.tape, hg.output.trans h.output, Nat.le_trans h.size hg.size, fun i hi hn => (hg.block i (Nat.lt_of_lt_of_le hi h.size) (fun e => (hr i e.symm).elim hn (fun h2 => by omega))).trans (h.block i hi hn)⟩
theorem Only.below {own : List Nat} {B : Nat} {w0 a b : World} (h : Only own a b) (hb : Below B w0 a) (ho : ∀ x ∈ own, B ≤ x) (hB : B ≤ a.heap.size) : Below B w0 b :=
  hb.trans ⟨h.os, h.tape, h.output, h.size, fun k hk => h.block k (by omega) (fun hc => by have := ho k hc; omega)⟩
theorem Only.of_below {a b : World} (own : List Nat) (h : Below a.heap.size a b) : Only own a b := ⟨h.os, h.tape, h.output, h.size, fun k hk _ => h.block k hk⟩

/-- the table's own blocks -/
abbrev Lay.own (L : Lay) : List Nat := [L.ob, L.eb, L.pb]
theorem At.keep {w' : World} {own : List Nat} (h : At w L S) (hb : Only own w w') (ho : L.ob ∉ own) (he : L.eb ∉ own) (hp : L.pb ∉ own) : At w' L S := by
  obtain ⟨c1, e1, e2, e3⟩ := h.e
  obtain ⟨c2, p1, p2, p3⟩ := h.p
  exact ⟨by rw [hb.block _ h.olt ho]; exact h.o, ⟨c1, by rw [hb.block _ h.elt he]; exact e1, e2, e3⟩, ⟨c2, by rw [hb.block _ h.plt hp]; exact p1, p2, p3⟩, h.oe, h.op, h.ep, h.nec, h.ecm, h.nn, h.pow⟩
theorem At.below {w' : World} (h : At w L S) (hb : Below w.heap.size w w') : At w' L S := h.keep (own := []) (Only.of_below [] hb) (by simp) (by simp) (by simp)
theorem At.alloc (h : At w L S) (o : Obj) : At (w.alloc o) L S := h.below ((Below.refl _ _).alloc (Nat.le_refl _) _)
theorem At.drew (h : At w L S) : At w.drew L S := ⟨h.o, h.e, h.p, h.oe, h.op, h.ep, h.nec, h.ecm, h.nn, h.pow⟩

theorem below_drewN {B : Nat} {a w : World} (h : Below B a w) (n : Nat) : Below B a (w.drewN n) := ⟨h.os, h.tape, h.output, h.size, h.block⟩
theorem drewN_heap (w : World) (n : Nat) : (w.drewN n).heap = w.heap := rfl
theorem At.drewN (h : At w L S) (n : Nat) : At (w.drewN n) L S := ⟨h.o, h.e, h.p, h.oe, h.op, h.ep, h.nec, h.ecm, h.nn, h.pow⟩
theorem Only.drewN {own : List Nat} {a b : World} (h : Only own a b) (n : Nat) : Only own a (b.drewN n) := ⟨h.os, h.tape, h.output, h.size, h.block⟩

theorem get_set_same (cur : Array Value) (i : Nat) (v : Value) (h : i < cur.size) : (cur.setIfInBounds i v)[i]? = some v := by simp [h]
theorem get_set_ne (cur : Array Value) (i j : Nat) (v : Value) (h : j ≠ i) : (cur.setIfInBounds i v)[j]? = cur[j]? := by simp [Ne.symm h]

/-- a store of a field of an entry -/
theorem At.setE (h : At w L S) {i d : Nat} (_hi : i ≤ S.n) (v : Value) {S' : Sm} (e1 : S'.room = S.room) (e2 : S'.n = S.n) (e3 : S'.M = S.M) (e4 : S'.pl = S.pl)
    (hE : ∀ cur, cur.size = L.ec * 5 → Ents cur S → Ents (cur.setIfInBounds (i * 5 + d) v) S') : At (w.setCell ⟨L.eb, i * 5 + d, none⟩ v) L S' := by
  obtain ⟨c1, g1, g2, g3⟩ := h.e
  obtain ⟨c2, p1, p2, p3⟩ := h.p
  refine ⟨?_, ⟨_, heap_set g1 _ _, by simpa using g2, hE c1 g2 g3⟩, ⟨c2, by rw [heap_far (Ne.symm h.ep)]; exact p1, by rw [e3]; exact p2, by rw [e3, e4]; exact p3⟩, h.oe, h.op, h.ep, by rw [e2]; exact h.nec, h.ecm, by rw [e2]; exact h.nn, by rw [e3]; exact h.pow⟩
  rw [heap_far h.oe]
  have : headCells L S' = headCells L S := by unfold headCells; rw [e1, e2, e3]
  rw [this]
  exact h.o
abbrev Sm.setNew (S : Sm) (i v : Nat) : Sm := { S with new := upd S.new i v }
abbrev Sm.setOld (S : Sm) (i v : Nat) : Sm := { S with old := upd S.old i v }
abbrev Sm.setVal (S : Sm) (i : Nat) (v : Int) : Sm := { S with val := upd S.val i v }
abbrev Sm.setPl (S : Sm) (i v : Nat) : Sm := { S with pl := upd S.pl i v }
theorem At.setNew (h : At w L S) {i : Nat} (hi : i ≤ S.n) (v : Nat) : At (w.setCell ⟨L.eb, i * 5 + 4, none⟩ (.int .i64 (v : Nat))) L (S.setNew i v) := by
  have hn := h.nec
  refine h.setE hi _ rfl rfl rfl rfl (fun cur hs hE => ⟨fun j hj => ?_, fun j hj => ?_, fun j hj => ?_, fun j hj => ?_, fun j hj => ?_⟩)
  · rw [get_set_ne _ _ _ _ (by omega)]; exact hE.key j hj
  · rw [get_set_ne _ _ _ _ (by omega)]; exact hE.sm j hj
  · rw [get_set_ne _ _ _ _ (by omega)]; exact hE.val j hj
  · rw [get_set_ne _ _ _ _ (by omega)]; exact hE.old j hj
  · by_cases e : j = i
    · subst e
      rw [get_set_same _ _ _ (by rw [hs]; omega)]
      simp only [upd_same]
    · rw [get_set_ne _ _ _ _ (by omega)]
      simp only [upd_ne _ _ e]
      exact hE.new j hj
theorem At.setOld (h : At w L S) {i : Nat} (hi : i ≤ S.n) (v : Nat) : At (w.setCell ⟨L.eb, i * 5 + 3, none⟩ (.int .i64 (v : Nat))) L (S.setOld i v) := by
  have hn := h.nec
  refine h.setE hi _ rfl rfl rfl rfl (fun cur hs hE => ⟨fun j hj => ?_, fun j hj => ?_, fun j hj => ?_, fun j hj => ?_, fun j hj => ?_⟩)
  · rw [get_set_ne _ _ _ _ (by omega)]; exact hE.key j hj
  · rw [get_set_ne _ _ _ _ (by omega)]; exact hE.sm j hj
  · rw [get_set_ne _ _ _ _ (by omega)]; exact hE.val j hj
  · by_cases e : j = i
    · subst e
      rw [get_set_same _ _ _ (by rw [hs]; omega)]
      simp only [upd_same]
    · rw [get_set_ne _ _ _ _ (by omega)]
      simp only [upd_ne _ _ e]
      exact hE.old j hj
  · rw [get_set_ne _ _ _ _ (by omega)]; exact hE.new j hj
theorem At.setVal (h : At w L S) {i : Nat} (hi : i ≤ S.n) (v : Int) : At (w.setCell ⟨L.eb, i * 5 + 2, none⟩ (.int .i64 v)) L (S.setVal i v) := by
  have hn := h.nec
  refine h.setE hi _ rfl rfl rfl rfl (fun cur hs hE => ⟨fun j hj => ?_, fun j hj => ?_, fun j hj => ?_, fun j hj => ?_, fun j hj => ?_⟩)
  · rw [get_set_ne _ _ _ _ (by omega)]; exact hE.key j hj
  · rw [get_set_ne _ _ _ _ (by omega)]; exact hE.sm j hj
  · by_cases e : j = i
    · subst e
      rw [get_set_same _ _ _ (by rw [hs]; omega)]
      simp only [upd_same]
    · rw [get_set_ne _ _ _ _ (by omega)]
      simp only [upd_ne _ _ e]
      exact hE.val j hj
  · rw [get_set_ne _ _ _ _ (by omega)]; exact hE.old j hj
  · rw [get_set_ne _ _ _ _ (by omega)]; exact hE.new j hj
theorem At.setPl (h : At w L S) {i : Nat} (hi : i < S.M) (v : Nat) : At (w.setCell ⟨L.pb, i, none⟩ (.int .i64 (v : Nat))) L (S.setPl i v) := by
  obtain ⟨c1, g1, g2, g3⟩ := h.e
  obtain ⟨c2, p1, p2, p3⟩ := h.p
  refine ⟨by rw [heap_far h.op]; exact h.o, ⟨c1, by rw [heap_far h.ep]; exact g1, g2, ⟨g3.key, g3.sm, g3.val, g3.old, g3.new⟩⟩, ⟨_, heap_set p1 _ _, by simpa using p2, fun j hj => ?_⟩, h.oe, h.op, h.ep, h.nec, h.ecm, h.nn, h.pow⟩
  by_cases e : j = i
  · subst e
    rw [get_set_same _ _ _ (by rw [p2]; exact hi)]
    simp only [upd_same]
  · rw [get_set_ne _ _ _ _ e]
    simp only [upd_ne _ _ e]
    exact p3 j hj

end Go.Proofs.Ytdnaecmihgcelaa.Tb
