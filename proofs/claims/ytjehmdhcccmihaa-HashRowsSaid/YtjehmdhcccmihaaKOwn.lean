/-
  What turns: a world that has turned at some blocks alone; rows of texts of a call's own.
-/
import Derived.Test.YtjehmdhcccmihaaRows
import Derived.WalkKit
import Derived.WalkSpells
import Derived.WalkLawsBesides
import Derived.Deep.LoopGhost
import Derived.Deep.DeepCutAuto
import Derived.Lib.Hide
import Derived.Laws.OwnMore
import Derived.Laws.IdiomStrings
import Derived.ProofKit
import Derived.OpenShut
import Derived.IntWalk
import Derived.Carry
namespace Go.Proofs.Ytjehmdhcccmihaa
open Go.RowKit

/-- the world has turned at these blocks alone, of all that there were -/
structure Only (own : List Nat) (w w' : World) : Prop where
  os : w'.os = w.os
  tape : w'.tape = w.tape
  output : w'.output = w.output
  size : w.heap.size ≤ w'.heap.size
  block : ∀ k, k < w.heap.size → k ∉ own → w'.heap[k]? = w.heap[k]?
theorem Only.refl (own : List Nat) (w : World) : Only own w w := ⟨rfl, rfl, rfl, Nat.le_refl _, fun _ _ _ => rfl⟩
theorem Only.trans {own own2 : List Nat} {a b c : World} (h : Only own a b) (k : Only own2 b c) (hs : ∀ x ∈ own2, x ∈ own ∨ a.heap.size ≤ x) : Only own a c :=
  ⟨k.os.trans h.os, k.tape.trans h.tape, k.output.trans h.output, Nat.le_trans h.size k.size, fun i hi hn => (k.block i (Nat.lt_of_lt_of_le hi h.size) (fun hc => (hs i hc).elim hn (fun h2 => by omega))).trans (h.block i hi hn)⟩
theorem Only.also {own : List Nat} {a b c : World} (h : Only own a b) (k : Only own b c) : Only own a c := h.trans k (fun _ h => .inl h)
theorem Only.mono {own own2 : List Nat} {a b : World} (h : Only own a b) (hs : ∀ x ∈ own, x ∈ own2 ∨ a.heap.size ≤ x) : Only own2 a b := ⟨h.os, h.tape, h.output, h.size, fun i hi hn => h.block i hi (fun hc => (hs i hc).elim hn (fun h2 => by omega))⟩
theorem Only.set {own : List Nat} {a b : World} (h : Only own a b) {p : Addr} (hp : p.block ∈ own) (v : Value) : Only own a (b.setCell p v) :=
  h.also ⟨rfl, rfl, rfl, by simp [World.setCell], fun k _ hn => Below.heap_setCell _ _ _ _ (fun e => hn (e ▸ hp))⟩
theorem Only.alloc {own : List Nat} {a b : World} (h : Only own a b) (o : Obj) : Only own a (b.alloc o) :=
  h.also ⟨rfl, rfl, rfl, by simp, fun k hk _ => Below.heap_alloc _ _ _ hk⟩
theorem Only.drewN {own : List Nat} {a b : World} (h : Only own a b) (n : Nat) : Only own a (b.drewN n) := ⟨h.os, h.tape, h.output, h.size, h.block⟩
theorem Only.grown {own : List Nat} {a b c : World} {row : Option Nat} (h : Only own a b) (hg : b.grownBy c row) (hr : ∀ k, row = some k → k ∈ own ∨ a.heap.size ≤ k) : Only own a c :=
  ⟨hg.os.trans h.os, hg.tape.trans h.tape, hg.output.trans h.output, Nat.le_trans h.size hg.size, fun i hi hn => (hg.block i (Nat.lt_of_lt_of_le hi h.size) (fun e => (hr i e.symm).elim hn (fun h2 => by omega))).trans (h.block i hi hn)⟩
theorem Only.below {own : List Nat} {B : Nat} {w0 a b : World} (h : Only own a b) (hb : Below B w0 a) (ho : ∀ x ∈ own, B ≤ x) (hB : B ≤ a.heap.size) : Below B w0 b :=
  hb.trans ⟨h.os, h.tape, h.output, h.size, fun k hk => h.block k (by omega) (fun hc => by have := ho k hc; omega)⟩
theorem Only.of_below {a b : World} (own : List Nat) (h : Below a.heap.size a b) : Only own a b := ⟨h.os, h.tape, h.output, h.size, fun k hk _ => h.block k hk⟩
theorem below_drewN {B : Nat} {a w : World} (h : Below B a w) (n : Nat) : Below B a (w.drewN n) := ⟨h.os, h.tape, h.output, h.size, h.block⟩

/-- a call that may turn an object's own blocks, and no other that there was -/
def Kept (own : List Nat) (w : World) (own' : List Nat) (w' : World) : Prop := Only own w w' ∧ ∀ x ∈ own', x ∈ own ∨ w.heap.size ≤ x
theorem Kept.after {own own' : List Nat} {w w1 w' : World} (h1 : Only own w w1) (h2 : Kept own w1 own' w') : Kept own w own' w' := ⟨h1.also h2.1, fun x hx => (h2.2 x hx).imp id (fun h => Nat.le_trans h1.size h)⟩
theorem Kept.refl (own : List Nat) (w : World) : Kept own w own w := ⟨Only.refl _ _, fun _ h => .inl h⟩
theorem Kept.of_below {own : List Nat} {w w' : World} (h : Below w.heap.size w w') : Kept own w own w' := ⟨Only.of_below _ h, fun _ h => .inl h⟩
theorem Kept.trans {o1 o2 o3 : List Nat} {a b c : World} (h : Kept o1 a o2 b) (k : Kept o2 b o3 c) : Kept o1 a o3 c :=
  ⟨h.1.trans k.1 h.2, fun x hx => (k.2 x hx).elim (h.2 x) (fun h2 => .inr (Nat.le_trans h.1.size h2))⟩

/-- a slice's elements are texts -/
def Texts (w : World) (A : Option Addr) (ps : List ByteArray) : Prop := ∀ i (h : i < ps.length), ∃ a : Addr, A = some a ∧ w.cell? (a.add i) = some (.string ps[i])
theorem Texts.nil (w : World) (A : Option Addr) : Texts w A [] := fun i h => by simp at h
theorem Texts.at_ {w : World} {A : Option Addr} {ps : List ByteArray} (h : Texts w A ps) {i : Nat} (hi : i < ps.length) : ∃ a : Addr, A = some a ∧ w.cell? (a.add i) = some (.string ps[i]) := h i hi
theorem Texts.keep {w w' : World} {A : Option Addr} {ps : List ByteArray} (h : Texts w A ps) (hb : Below w.heap.size w w') : Texts w' A ps := fun i hi => by
  obtain ⟨a, e, hc⟩ := h i hi
  exact ⟨a, e, by rw [hb.cell (World.block_lt_of_cell? w _ hc)]; exact hc⟩

/-- a row of texts of the call's own -/
def SRow (w : World) (B : Nat) (v : Value) (ps : List ByteArray) : Prop := w.ownsRow B 9 1 v ps.length (ps.map fun p => .string p)
theorem SRow.view {w : World} {B : Nat} {v : Value} {ps : List ByteArray} (h : SRow w B v ps) : ∃ A cap, v = .slice A ps.length cap ∧ Texts w A ps := by
  rcases h.2 with ⟨rfl, h0⟩ | ⟨g, cap, cur, rfl, _⟩
  · obtain rfl : ps = [] := List.eq_nil_of_length_eq_zero h0
    exact ⟨none, 0, rfl, Texts.nil _ _⟩
  · refine ⟨some ⟨g, 0, none⟩, cap, rfl, fun i hi => ⟨_, rfl, ?_⟩⟩
    exact World.ownsRow.cells h (g := g) rfl i _ (by simp [hi])
theorem SRow.below {w w' : World} {B : Nat} {v : Value} {ps : List ByteArray} (h : SRow w B v ps) (hb : Below w.heap.size w w') : SRow w' B v ps := by
  refine ⟨h.1, ?_⟩
  rcases h.2 with h2 | ⟨g, cap, cur, hv, hB, hg, r⟩
  · exact .inl h2
  · exact .inr ⟨g, cap, cur, hv, hB, by rw [hb.block g (Array.getElem?_eq_some_iff.1 hg).1]; exact hg, r⟩
theorem SRow.texts {w : World} {B cap n : Nat} {A : Option Addr} {ps : List ByteArray} (h : SRow w B (.slice A n cap) ps) : n = ps.length ∧ Texts w A ps := by
  obtain ⟨A2, cap2, e, ht⟩ := h.view
  injection e with e1 e2 e3
  subst e1
  exact ⟨e2, ht⟩
theorem add_succ (a : Addr) (n : Nat) : a.add (n + 1) = ⟨a.block, a.off + (n + 1), none⟩ := by
  unfold Addr.add
  rw [if_neg (by omega)]
end Go.Proofs.Ytjehmdhcccmihaa
