/-
  What turns: a world that has turned at some blocks alone; rows of texts of a call's own.
-/
import Derived.Test.YtflmolhkbpicbaaDoorRows
import Derived.WalkKit
import Derived.WalkSpells
import Derived.WalkLawsBesides
import Derived.Deep.LoopGhost
import Derived.Deep.DeepCutAuto
import Derived.Lib.Hide
import Derived.Laws.OwnMore
import Derived.Laws.IdiomStrings
import Derived.ProofKit
import Derived.OpenShut
import Derived.IntWalk
import Derived.Carry
import Derived.BigQuiet
import Derived.Test.YtflmolhkbpicbaaDoorKGMth
import Derived.Laws.AppendOwnNone
import Derived.Deep.Slices
import Derived.Deep.Fields
import Derived.Deep.Draws
import Derived.Deep.QuietTactic
import Derived.BigRegion
namespace Go.Proofs.YtflmolhkbpicbaaDoor
open Go.RowKit

/-- the world has turned at these blocks alone, of all that there were -/
structure Only (own : List Nat) (w w' : World) : Prop where
  os : w'.os = w.os
  tape : w'.tape = w.tape
  output : w'.output = w.output
  size : w.heap.size ≤ w'.heap.size
  block : ∀ k, k < w.heap.size → k ∉ own → w'.heap[k]? = w.heap[k]?
set_option maxRecDepth 100000 in
theorem Only.refl (own : List Nat) (w : World) : Only own w w := ⟨rfl, rfl, rfl, Nat.le_refl _, fun _ _ _ => rfl⟩
set_option maxRecDepth 100000 in
theorem Only.trans {own own2 : List Nat} {a b c : World} (h : Only own a b) (k : Only own2 b c) (hs : ∀ x ∈ own2, x ∈ own ∨ a.heap.size ≤ x) : Only own a c :=
  ⟨k.os.trans h.os, k.tape.trans h.tape, k.output.trans h.output, Nat.le_trans h.size k.size, fun i hi hn => (k.block i (Nat.lt_of_lt_of_le hi h.size) (fun hc => (hs i hc).elim hn (fun h2 => by omega))).trans (h.block i hi hn)⟩
set_option maxRecDepth 100000 in
theorem Only.also {own : List Nat} {a b c : World} (h : Only own a b) (k : Only own b c) : Only own a c := h.trans k (fun _ h => .inl h)
set_option maxRecDepth 100000 in
theorem Only.mono {own own2 : List Nat} {a b : World} (h : Only own a b) (hs : ∀ x ∈ own, x ∈ own2 ∨ a.heap.size ≤ x) : Only own2 a b := ⟨h.os, h.tape, h.output, h.size, fun i hi hn => h.block i hi (fun hc => (hs i hc).elim hn (fun h2 => by omega))⟩
set_option maxRecDepth 100000 in
theorem Only.set {own : List Nat} {a b : World} (h : Only own a b) {p : Addr} (hp : p.block ∈ own) (v : Value) : Only own a (b.setCell p v) :=
  h.also ⟨rfl, rfl, rfl, by simp [World.setCell], fun k _ hn => Below.heap_setCell _ _ _ _ (fun e => hn (e ▸ hp))⟩
set_option maxRecDepth 100000 in
theorem Only.alloc {own : List Nat} {a b : World} (h : Only own a b) (o : Obj) : Only own a (b.alloc o) :=
  h.also ⟨rfl, rfl, rfl, by simp, fun k hk _ => Below.heap_alloc _ _ _ hk⟩
set_option maxRecDepth 100000 in
theorem Only.drewN {own : List Nat} {a b : World} (h : Only own a b) (n : Nat) : Only own a (b.drewN n) := ⟨h.os, h.tape, h.output, h.size, h.block⟩
set_option maxRecDepth 100000 in
theorem Only.grown {own : List Nat} {a b c : World} {row : Option Nat} (h : Only own a b) (hg : b.grownBy c row) (hr : ∀ k, row = some k → k ∈ own ∨ a.heap.size ≤ k) : Only own a c :=
  ⟨hg.os.trans h.os, hg.tape.trans h.tape, hg.output.trans h.output, Nat.le_trans h.size hg.size, fun i hi hn => (hg.block i (Nat.lt_of_lt_of_le hi h.size) (fun e => (hr i e.symm).elim hn (fun h2 => by omega))).trans (h.block i hi hn)⟩
set_option maxRecDepth 100000 in
theorem Only.below {own : List Nat} {B : Nat} {w0 a b : World} (h : Only own a b) (hb : Below B w0 a) (ho : ∀ x ∈ own, B ≤ x) (hB : B ≤ a.heap.size) : Below B w0 b :=
  hb.trans ⟨h.os, h.tape, h.output, h.size, fun k hk => h.block k (by omega) (fun hc => by have := ho k hc; omega)⟩
set_option maxRecDepth 100000 in
theorem Only.of_below {a b : World} (own : List Nat) (h : Below a.heap.size a b) : Only own a b := ⟨h.os, h.tape, h.output, h.size, fun k hk _ => h.block k hk⟩
set_option maxRecDepth 100000 in
theorem below_drewN {B : Nat} {a w : World} (h : Below B a w) (n : Nat) : Below B a (w.drewN n) := ⟨h.os, h.tape, h.output, h.size, h.block⟩

/-- a call that may turn an object's own blocks, and no other that there was -/
def Kept (own : List Nat) (w : World) (own' : List Nat) (w' : World) : Prop := Only own w w' ∧ ∀ x ∈ own', x ∈ own ∨ w.heap.size ≤ x
set_option maxRecDepth 100000 in
theorem Kept.after {own own' : List Nat} {w w1 w' : World} (h1 : Only own w w1) (h2 : Kept own w1 own' w') : Kept own w own' w' := ⟨h1.also h2.1, fun x hx => (h2.2 x hx).imp id (fun h => Nat.le_trans h1.size h)⟩
set_option maxRecDepth 100000 in
theorem Kept.refl (own : List Nat) (w : World) : Kept own w own w := ⟨Only.refl _ _, fun _ h => .inl h⟩
set_option maxRecDepth 100000 in
theorem Kept.of_below {own : List Nat} {w w' : World} (h : Below w.heap.size w w') : Kept own w own w' := ⟨Only.of_below _ h, fun _ h => .inl h⟩
set_option maxRecDepth 100000 in
theorem Kept.trans {o1 o2 o3 : List Nat} {a b c : World} (h : Kept o1 a o2 b) (k : Kept o2 b o3 c) : Kept o1 a o3 c :=
  ⟨h.1.trans k.1 h.2, fun x hx => (k.2 x hx).elim (h.2 x) (fun h2 => .inr (Nat.le_trans h.1.size h2))⟩

/-- a slice's elements are texts -/
def Texts (w : World) (A : Option Addr) (ps : List ByteArray) : Prop := ∀ i (h : i < ps.length), ∃ a : Addr, A = some a ∧ w.cell? (a.add i) = some (.string ps[i])
set_option maxRecDepth 100000 in
theorem Texts.nil (w : World) (A : Option Addr) : Texts w A [] := fun i h => by simp at h
set_option maxRecDepth 100000 in
theorem Texts.at_ {w : World} {A : Option Addr} {ps : List ByteArray} (h : Texts w A ps) {i : Nat} (hi : i < ps.length) : ∃ a : Addr, A = some a ∧ w.cell? (a.add i) = some (.string ps[i]) := h i hi
set_option maxRecDepth 100000 in
theorem Texts.keep {w w' : World} {A : Option Addr} {ps : List ByteArray} (h : Texts w A ps) (hb : Below w.heap.size w w') : Texts w' A ps := fun i hi => by
  obtain ⟨a, e, hc⟩ := h i hi
  exact ⟨a, e, by rw [hb.cell (World.block_lt_of_cell? w _ hc)]; exact hc⟩

/-- a row of texts of the call's own -/
def SRow (w : World) (B : Nat) (v : Value) (ps : List ByteArray) : Prop := w.ownsRow B 9 1 v ps.length (ps.map fun p => .string p)
set_option maxRecDepth 100000 in
theorem SRow.view {w : World} {B : Nat} {v : Value} {ps : List ByteArray} (h : SRow w B v ps) : ∃ A cap, v = .slice A ps.length cap ∧ Texts w A ps := by
  rcases h.2 with ⟨rfl, h0⟩ | ⟨g, cap, cur, rfl, _⟩
  · obtain rfl : ps = [] := List.eq_nil_of_length_eq_zero h0
    exact ⟨none, 0, rfl, Texts.nil _ _⟩
  · refine ⟨some ⟨g, 0, none⟩, cap, rfl, fun i hi => ⟨_, rfl, ?_⟩⟩
    exact World.ownsRow.cells h (g := g) rfl i _ (by simp [hi])
set_option maxRecDepth 100000 in
theorem SRow.below {w w' : World} {B : Nat} {v : Value} {ps : List ByteArray} (h : SRow w B v ps) (hb : Below w.heap.size w w') : SRow w' B v ps := by
  refine ⟨h.1, ?_⟩
  rcases h.2 with h2 | ⟨g, cap, cur, hv, hB, hg, r⟩
  · exact .inl h2
  · exact .inr ⟨g, cap, cur, hv, hB, by rw [hb.block g (Array.getElem?_eq_some_iff.1 hg).1]; exact hg, r⟩
set_option maxRecDepth 100000 in
theorem SRow.texts {w : World} {B cap n : Nat} {A : Option Addr} {ps : List ByteArray} (h : SRow w B (.slice A n cap) ps) : n = ps.length ∧ Texts w A ps := by
  obtain ⟨A2, cap2, e, ht⟩ := h.view
  injection e with e1 e2 e3
  subst e1
  exact ⟨e2, ht⟩
set_option maxRecDepth 100000 in
theorem add_succ (a : Addr) (n : Nat) : a.add (n + 1) = ⟨a.block, a.off + (n + 1), none⟩ := by
  unfold Addr.add
  rw [if_neg (by omega)]
end Go.Proofs.YtflmolhkbpicbaaDoor
/-
  A region that draws its order, reads, and calls what makes memory but writes none that was there: ONE walk of the text's order serves every order (the library's wp_region_quiet at the class of all worlds in which the memory of W is as it was).
-/
namespace Go.Proofs.YtflmolhkbpicbaaDoor
open Go.RowKit
namespace Gw

/-- a world in which W's memory is as it was -/
def Grow (W : World) : Type := { w : World // Below W.heap.size W w }
instance grow_some (W : World) : Nonempty (Grow W) := ⟨⟨W, Below.refl _ _⟩⟩
def Grow.w {W : World} (g : Grow W) : World := g.1
set_option maxRecDepth 100000 in
theorem Grow.below {W : World} (g : Grow W) : Below W.heap.size W g.w := g.2
set_option maxRecDepth 100000 in
theorem Grow.keep {W : World} (g : Grow W) {a : Addr} {v : Value} (h : W.cell? a = some v) : g.w.cell? a = some v := by
  rw [g.below.cell (World.block_lt_of_cell? W _ h)]; exact h

set_option maxRecDepth 100000 in
theorem wp_region_grow {P : Program} {id : Nat} {Q : Exit → Act → World → Prop} {a : Act} {W : World} {l : List Oper} (hm : P.follows .mixedOrders = true) (hB : Region.lexB .any l.toArray = true)
    (h : wpQuiet P l.toArray (fun w' => ∃ g : Grow W, w' = g.w) (fun a' => ∀ w', (∃ g : Grow W, w' = g.w) → Q .normal a' w') l a) : (Code.region id l.toArray true).wp P Q a W :=
  wp_region_quiet (C := fun w' => ∃ g : Grow W, w' = g.w) hm hB ⟨⟨W.drew, (Below.refl _ _).drew⟩, rfl⟩ (by simpa using h)
set_option maxRecDepth 100000 in
theorem grow_call {P : Program} {f : FuncId} {args : Array Value} {W : World} {g : Grow W} {v : Value} (h : Calls P f args g.w fun e w' => e = .returned v ∧ Below g.w.heap.size g.w w') :
    Calls P f args g.w fun e w'' => e = .returned v ∧ ∃ m : Grow W, w'' = m.w :=
  h.mono fun _ w' ⟨he, hb⟩ => ⟨he, ⟨w', g.below.trans (hb.mono g.below.size)⟩, rfl⟩
set_option maxRecDepth 100000 in
theorem grow_same {P : Program} {f : FuncId} {args : Array Value} {W : World} {g : Grow W} {v : Value} (h : Calls P f args g.w fun e w' => e = .returned v ∧ g.w = w') :
    Calls P f args g.w fun e w'' => e = .returned v ∧ ∃ m : Grow W, w'' = m.w :=
  h.mono fun _ _ ⟨he, hb⟩ => ⟨he, g, hb.symm⟩

end Gw
end Go.Proofs.YtflmolhkbpicbaaDoor
/-
  Rows of bytes and of texts in memory, for answers.
-/
namespace Go.Proofs.YtflmolhkbpicbaaDoor.Ry
open Go.RowKit

set_option maxRecDepth 100000 in
theorem keep2 {w w' : World} (hb : Below w.heap.size w w') {a : Addr} {v : Value} (h : w.cell? a = some v) : w'.cell? a = some v := by
  rw [hb.cell (World.block_lt_of_cell? w _ h)]; exact h
/-- a slice's address reads as bytes -/
def Bts (w : World) (A : Option Addr) (l : Bytes) : Prop := ∀ i (h : i < l.length), ∃ a : Addr, A = some a ∧ w.cell? (a.add i) = some (.int .u8 (l[i].toNat : Int))
set_option maxRecDepth 100000 in
theorem Bts.at_ {w : World} {A : Option Addr} {l : Bytes} (h : Bts w A l) {i : Nat} (hi : i < l.length) : ∃ a : Addr, A = some a ∧ w.cell? (a.add i) = some (.int .u8 (l[i].toNat : Int)) := h i hi
set_option maxRecDepth 100000 in
theorem Bts.keep {w w' : World} {A : Option Addr} {l : Bytes} (h : Bts w A l) (hb : Below w.heap.size w w') : Bts w' A l := fun i hi => by
  obtain ⟨a, e, hc⟩ := h i hi
  exact ⟨a, e, keep2 hb hc⟩

set_option maxRecDepth 100000 in
theorem addS (a : Addr) (n : Nat) : a.add (n + 1) = { block := a.block, off := a.off + (n + 1), spot := none } := if_neg (by omega)
abbrev bat (l : Bytes) : ByteArray := ⟨l.toArray⟩
set_option maxRecDepth 100000 in
theorem bat_size (p : Bytes) : (bat p).size = p.length := by
  show p.toArray.size = _
  simp
set_option maxRecDepth 100000 in
theorem str_info : (Tryd.prog.info? 9).map (fun i => (i.zero, i.size, i.bytes)) = some (some (.string ⟨#[]⟩), 1, 16) := by kernel_rfl
set_option maxRecDepth 100000 in
theorem str_parts : ∃ i, Tryd.prog.info? 9 = some i ∧ i.zero = some (.string ⟨#[]⟩) ∧ i.size = 1 ∧ i.bytes = 16 := by
  obtain ⟨i, h, a, b, c⟩ := info_parts str_info
  exact ⟨i, h, a, b, c⟩
set_option maxRecDepth 100000 in
/-- bytes of a slice, as a text -/
theorem conv_bts {w : World} {a : Addr} {l : Bytes} (h : Bts w (some a) l) (i n c : Nat) (hn : i + n ≤ l.length) :
    (convert 32 9 (.slice (some (a.add i)) n c)).run Tryd.prog w = .ok (.string ⟨((l.drop i).take n).toArray⟩) w := by
  have hl : ((l.drop i).take n).length = n := by rw [List.length_take, List.length_drop]; omega
  have := run_convert_bytes_back (P := Tryd.prog) w 32 9 5 (a.add i) c ((l.drop i).take n) Tryd.underlying32 Tryd.underlying5 Tryd.underlying9 (fun j hj => by
    obtain ⟨a', ea, c1⟩ := h (i + j) (by omega)
    injection ea with ea
    subst ea
    rw [Addr.add_add, List.getElem_take, List.getElem_drop]
    exact c1)
  rw [hl] at this
  exact this

set_option maxRecDepth 100000 in
theorem _root_.Go.Proofs.YtflmolhkbpicbaaDoor.SRow.alloc {w : World} {B : Nat} {v : Value} {l : List ByteArray} (h : SRow w B v l) (o : Obj) : SRow (w.alloc o) B v l := h.below ((Below.refl _ _).alloc (Nat.le_refl _) _)
set_option maxRecDepth 100000 in
theorem _root_.Go.Proofs.YtflmolhkbpicbaaDoor.SRow.nil (w : World) (B : Nat) : SRow w B (.slice none 0 0) [] := World.ownsRow_nil _ _ _ _
set_option maxRecDepth 100000 in
theorem _root_.Go.Proofs.YtflmolhkbpicbaaDoor.SRow.form {w : World} {B : Nat} {v : Value} {l : List ByteArray} (h : SRow w B v l) : ∃ A n cap, v = .slice A n cap ∧ n = l.length := by obtain ⟨A, cap, e, _⟩ := h.view; exact ⟨A, _, cap, e, rfl⟩
set_option maxRecDepth 100000 in
theorem _root_.Go.Proofs.YtflmolhkbpicbaaDoor.SRow.grown {w w0 w' : World} {B : Nat} {v : Value} {l : List ByteArray} (ho : SRow w B v l) (hg : w.grownBy w' v.ownBlock) (hb : Below B w0 w) (hB : B ≤ w.heap.size) : Below B w0 w' :=
  hb.grown hg hB (fun k hk => (World.ownsRow.lt ho k hk).1)
set_option maxRecDepth 100000 in
theorem _root_.Go.Proofs.YtflmolhkbpicbaaDoor.SRow.lower {w : World} {B B' : Nat} {v : Value} {l : List ByteArray} (h : SRow w B v l) (hb : B' ≤ B) : SRow w B' v l := by
  refine ⟨h.1, ?_⟩
  rcases h.2 with h2 | ⟨g, cap, cur, hv, hB, r⟩
  · exact .inl h2
  · exact .inr ⟨g, cap, cur, hv, by omega, r⟩
set_option maxRecDepth 100000 in
theorem wpList_append_str {w : World} {ops : Array Oper} {rest : List Oper} {o : Oper} {a : Act} {Q : Exit → Act → World → Prop} (hgd : o.guard = none) (s x : Operand)
    (ho : o.op = .call { callee := .builtin .append, args := #[s, x], argTypes := #[23, 23] })
    (B : Nat) (v : Value) (l : List ByteArray) (hs : a.eval s = v) (hown : SRow w B v l) (g : Nat) (key : ByteArray) (hx : a.eval x = .slice (some ⟨g, 0, none⟩) 1 1)
    (hg : w.heap[g]? = some (.cells #[.string key] 9 (0, 0))) (hn : l.length ≤ 1048576) (hB : B ≤ w.heap.size)
    (h : ∀ v' w', SRow w' B v' (l ++ [key]) → w.grownBy w' v.ownBlock → wpList Tryd.prog ops Q rest (a.put o.dst v') w') : wpList Tryd.prog ops Q (o :: rest) a w := by
  obtain ⟨i0, hi, hz0, hz1, hz2⟩ := str_parts
  refine wpList_append_own w hgd s x 23 ho B 9 i0 _ 1 16 Tryd.underlying23 hi hz0 hz1 hz2 rfl (by decide) v l.length (l.map fun p => .string p) hs hown ⟨g, 0, none⟩ 1 1 [.string key] hx rfl ?_ ?_ (by unfold maxLen; omega) (by omega) hB (fun v' w' h2 h3 _ => h v' w' ?_ h3)
  · intro j u hj
    have : ((⟨g, 0, none⟩ : Addr).add j) = ⟨g, j, none⟩ := by unfold Addr.add; split <;> simp_all
    rw [this, cell_of_row _ _ _ _ _ _ hg]
    simpa using hj
  · intro u hu; simp at hu; subst hu; rfl
  · unfold SRow
    rw [List.length_append, List.map_append]
    exact h2

set_option maxRecDepth 100000 in
theorem own_ne {w : World} {B B' n n' : Nat} {e e' : TypeId} {v v' : Value} {xs xs' : List Value} (h : w.ownsRow B e 1 v n xs) (h' : w.ownsRow B' e' 1 v' n' xs') (hne : e ≠ e') : v.ownBlock = none ∨ v.ownBlock ≠ v'.ownBlock := by
  rcases h.2 with ⟨rfl, _⟩ | ⟨g, cap, cur, rfl, _, hg, _⟩
  · exact .inl rfl
  · right
    rcases h'.2 with ⟨rfl, _⟩ | ⟨g', cap', cur', rfl, _, hg', _⟩
    · simp [Value.ownBlock]
    · intro he
      simp only [Value.ownBlock, Option.some.injEq] at he
      subst he
      rw [hg] at hg'
      injection hg' with h1
      injection h1 with h1 h2 h3
      exact hne h2
set_option maxRecDepth 100000 in
/-- bytes of a slice, as a text, whole -/
theorem conv_all {w : World} {A : Option Addr} {l : Bytes} (h : Bts w A l) (c : Nat) :
    (convert 32 9 (.slice A l.length c)).run Tryd.prog w = .ok (.string ⟨l.toArray⟩) w := by
  cases A with
  | none =>
    have h0 : l = [] := by
      cases l with
      | nil => rfl
      | cons x l => obtain ⟨a, e, _⟩ := h 0 (by simp); cases e
    subst h0
    show (convert 32 9 (.slice none 0 c)).run Tryd.prog w = _
    rw [run_convert_bytes_string w 32 9 5 none 0 c Tryd.underlying32 Tryd.underlying5 Tryd.underlying9]
    rfl
  | some a =>
    have := conv_bts h 0 l.length c (by omega)
    simpa [Addr.add] using this
def bcells (l : Bytes) : List Value := l.map fun c => Value.int .u8 (c.toNat : Int)
set_option maxRecDepth 100000 in
theorem byte_info : (Tryd.prog.info? 5).map (fun i => (i.zero, i.size, i.bytes)) = some (some (.int .u8 0), 1, 1) := by kernel_rfl
set_option maxRecDepth 100000 in
theorem byte_parts : ∃ i, Tryd.prog.info? 5 = some i ∧ i.zero = some (.int .u8 0) ∧ i.size = 1 ∧ i.bytes = 1 := by
  obtain ⟨i, h, a, b, c⟩ := info_parts byte_info
  exact ⟨i, h, a, b, c⟩
/-- a row of bytes of the call's own -/
def BRow (w : World) (B : Nat) (v : Value) (l : Bytes) : Prop := w.ownsRow B 5 1 v l.length (bcells l)
set_option maxRecDepth 100000 in
theorem BRow.nil (w : World) (B : Nat) : BRow w B (.slice none 0 0) [] := World.ownsRow_nil _ _ _ _
set_option maxRecDepth 100000 in
theorem BRow.below {w w' : World} {B : Nat} {v : Value} {l : Bytes} (h : BRow w B v l) (hb : Below w.heap.size w w') : BRow w' B v l := by
  refine ⟨h.1, ?_⟩
  rcases h.2 with h2 | ⟨g, cap, cur, hv, hB, hg, r⟩
  · exact .inl h2
  · exact .inr ⟨g, cap, cur, hv, hB, by rw [hb.block g (Array.getElem?_eq_some_iff.1 hg).1]; exact hg, r⟩
set_option maxRecDepth 100000 in
theorem BRow.alloc {w : World} {B : Nat} {v : Value} {l : Bytes} (h : BRow w B v l) (o : Obj) : BRow (w.alloc o) B v l := h.below ((Below.refl _ _).alloc (Nat.le_refl _) _)
set_option maxRecDepth 100000 in
theorem BRow.view {w : World} {B : Nat} {v : Value} {l : Bytes} (h : BRow w B v l) : ∃ A cap, v = .slice A l.length cap ∧ Bts w A l ∧ l.length ≤ cap ∧ (A = none → cap = 0) ∧ ∀ a, A = some a → B ≤ a.block ∧ a.block < w.heap.size := by
  rcases h.2 with ⟨rfl, h0⟩ | ⟨g, cap, cur, rfl, hB, hg, hc, _⟩
  · obtain rfl : l = [] := List.eq_nil_of_length_eq_zero h0
    exact ⟨none, 0, rfl, fun i hi => absurd hi (by simp), Nat.le_refl _, fun _ => rfl, fun a e => by cases e⟩
  · refine ⟨some ⟨g, 0, none⟩, cap, rfl, fun i hi => ⟨_, rfl, ?_⟩, hc, (fun e => by cases e), (fun a e => by injection e with e; subst e; exact ⟨hB, (Array.getElem?_eq_some_iff.1 hg).1⟩)⟩
    exact World.ownsRow.cells h (g := g) rfl i _ (by simp [bcells, hi])
set_option maxRecDepth 100000 in
theorem BRow.form {w : World} {B : Nat} {v : Value} {l : Bytes} (h : BRow w B v l) : ∃ A n cap, v = .slice A n cap ∧ n = l.length := by
  obtain ⟨A, cap, e, _⟩ := h.view
  exact ⟨A, _, cap, e, rfl⟩
set_option maxRecDepth 100000 in
theorem BRow.grown {w w0 w' : World} {B : Nat} {v : Value} {l : Bytes} (ho : BRow w B v l) (hg : w.grownBy w' v.ownBlock) (hb : Below B w0 w) (hB : B ≤ w.heap.size) : Below B w0 w' :=
  hb.grown hg hB (fun k hk => (World.ownsRow.lt ho k hk).1)
set_option maxRecDepth 100000 in
theorem BRow.lower {w : World} {B B' : Nat} {v : Value} {l : Bytes} (h : BRow w B v l) (hb : B' ≤ B) : BRow w B' v l := by
  refine ⟨h.1, ?_⟩
  rcases h.2 with h2 | ⟨g, cap, cur, hv, hB, r⟩
  · exact .inl h2
  · exact .inr ⟨g, cap, cur, hv, by omega, r⟩
set_option maxRecDepth 100000 in
theorem bcells_append (l m : Bytes) : bcells (l ++ m) = bcells l ++ bcells m := by simp [bcells]
set_option maxRecDepth 100000 in
theorem wpList_append_bts2 {w : World} {ops : Array Oper} {rest : List Oper} {o : Oper} {a : Act} {Q : Exit → Act → World → Prop} (hgd : o.guard = none) (s x : Operand)
    (ho : o.op = .call { callee := .builtin .append, args := #[s, x], argTypes := #[32, 32] })
    (B : Nat) (v : Value) (l : Bytes) (hs : a.eval s = v) (hown : BRow w B v l) (A : Option Addr) (cap n : Nat) (m : Bytes) (hx : a.eval x = .slice A n cap) (hm : Bts w A m) (hmn : n = m.length) (hnil : A = none → cap = 0)
    (hn : l.length + m.length ≤ 67108864) (hB : B ≤ w.heap.size)
    (h : ∀ v' w', BRow w' B v' (l ++ m) → w.grownBy w' v.ownBlock → (v = .slice none 0 0 → m = [] → v' = .slice none 0 0) → wpList Tryd.prog ops Q rest (a.put o.dst v') w') : wpList Tryd.prog ops Q (o :: rest) a w := by
  obtain ⟨i0, hi, hz0, hz1, hz2⟩ := byte_parts
  subst hmn
  cases A with
  | none =>
    obtain rfl := hnil rfl
    obtain rfl : m = [] := by
      cases m with
      | nil => rfl
      | cons c m => obtain ⟨_, e, _⟩ := hm 0 (by simp); cases e
    refine wpList_append_own_none hgd s x 32 ho B 5 i0 1 Tryd.underlying32 hi v l.length (bcells l) hs hown hx ?_
    exact h v w (by rw [List.append_nil]; exact hown) ⟨rfl, rfl, rfl, Nat.le_refl _, fun _ _ _ => rfl⟩ (fun e _ => e)
  | some ad =>
    refine wpList_append_own w hgd s x 32 ho B 5 i0 _ 1 1 Tryd.underlying32 hi hz0 hz1 hz2 rfl (by decide) v l.length (bcells l) hs hown ad m.length cap (bcells m) hx (by simp [bcells]) ?_ ?_ (by unfold maxLen; omega) (by omega) hB (fun v' w' h2 h3 h4 => h v' w' ?_ h3 (fun e e2 => h4.2 ⟨e, by rw [e2]; rfl⟩))
    · intro j u hj
      have hj' : j < m.length := by
        have := (List.getElem?_eq_some_iff.1 hj).1
        simpa [bcells] using this
      obtain ⟨a', e, hc⟩ := hm j hj'
      injection e with e
      subst e
      rw [hc]
      simp [bcells, hj'] at hj
      rw [hj]
    · intro u hu
      obtain ⟨c, _, rfl⟩ := List.mem_map.1 hu
      rfl
    · unfold BRow
      rw [List.length_append, bcells_append]
      exact h2

set_option maxRecDepth 100000 in
theorem wpList_append_bts {w : World} {ops : Array Oper} {rest : List Oper} {o : Oper} {a : Act} {Q : Exit → Act → World → Prop} (hgd : o.guard = none) (s x : Operand)
    (ho : o.op = .call { callee := .builtin .append, args := #[s, x], argTypes := #[32, 32] })
    (B : Nat) (v : Value) (l : Bytes) (hs : a.eval s = v) (hown : BRow w B v l) (A : Option Addr) (cap n : Nat) (m : Bytes) (hx : a.eval x = .slice A n cap) (hm : Bts w A m) (hmn : n = m.length) (hnil : A = none → cap = 0)
    (hn : l.length + m.length ≤ 67108864) (hB : B ≤ w.heap.size)
    (h : ∀ v' w', BRow w' B v' (l ++ m) → w.grownBy w' v.ownBlock → wpList Tryd.prog ops Q rest (a.put o.dst v') w') : wpList Tryd.prog ops Q (o :: rest) a w :=
  wpList_append_bts2 hgd s x ho B v l hs hown A cap n m hx hm hmn hnil hn hB fun v' w' h1 h2 _ => h v' w' h1 h2

set_option maxRecDepth 100000 in
/-- a text, as bytes of a new slice -/
theorem conv_text (w : World) (l : Bytes) : ∃ c w', (convert 9 32 (.string ⟨l.toArray⟩)).run Tryd.prog w = .ok (.slice (some ⟨w.heap.size, 0, none⟩) l.length c) w' ∧ Bts w' (some ⟨w.heap.size, 0, none⟩) l ∧ Below w.heap.size w w' := by
  have h := run_bytes_of_string (P := Tryd.prog) w 9 32 5 ⟨l.toArray⟩ Tryd.underlying9 Tryd.underlying32 Tryd.underlying5
  have hz : (⟨l.toArray⟩ : ByteArray).size = l.length := bat_size l
  rw [hz] at h
  refine ⟨_, _, h, fun i hi => ⟨_, rfl, ?_⟩, ((Below.refl _ _).drew).alloc (Nat.le_refl _) _⟩
  have e : (⟨w.heap.size, 0, none⟩ : Addr).add i = ⟨w.drew.heap.size, i, none⟩ := by
    show _ = (⟨w.heap.size, i, none⟩ : Addr)
    unfold Addr.add; split <;> simp_all
  rw [e, cell_of_row _ _ _ _ _ _ (heap_alloc_new w.drew _), bytesRow_at _ _ _ (by simpa using hi)]
  simp

set_option maxRecDepth 100000 in
theorem Bts.take {w : World} {A : Option Addr} {l : Bytes} (h : Bts w A l) (n : Nat) : Bts w A (l.take n) := fun i hi => by
  rw [List.length_take] at hi
  obtain ⟨a, e, hc⟩ := h i (by omega)
  exact ⟨a, e, by rw [List.getElem_take]; exact hc⟩
end Go.Proofs.YtflmolhkbpicbaaDoor.Ry
/-
  Blocks known whole; results that begin with a struct.
-/
namespace Go.Proofs.YtflmolhkbpicbaaDoor.Ry
open Go.RowKit

def Box (w : World) (b : Nat) (t : TypeId) (cs : Array Value) : Prop := w.heap[b]? = some (.cells cs t (0, 0))
set_option maxRecDepth 100000 in
theorem Box.keep {w w' : World} {b : Nat} {t : TypeId} {cs : Array Value} (h : Box w b t cs) (hb : Below w.heap.size w w') : Box w' b t cs := by
  unfold Box at *
  rw [hb.block b (Array.getElem?_eq_some_iff.1 h).1]; exact h
set_option maxRecDepth 100000 in
theorem Box.alloc {w : World} {b : Nat} {t : TypeId} {cs : Array Value} (h : Box w b t cs) (o : Obj) : Box (w.alloc o) b t cs := h.keep ((Below.refl _ _).alloc (Nat.le_refl _) _)
set_option maxRecDepth 100000 in
theorem Box.drew {w : World} {b : Nat} {t : TypeId} {cs : Array Value} (h : Box w b t cs) : Box w.drew b t cs := h
set_option maxRecDepth 100000 in
theorem Box.drewN {w : World} {b : Nat} {t : TypeId} {cs : Array Value} (h : Box w b t cs) (n : Nat) : Box (w.drewN n) b t cs := h
set_option maxRecDepth 100000 in
theorem Box.new (w : World) (t : TypeId) (cs : Array Value) : Box (w.alloc (.cells cs t)) w.heap.size t cs := heap_alloc_new w _
set_option maxRecDepth 100000 in
theorem Box.new1 (w : World) (t : TypeId) (cs : Array Value) (o : Obj) : Box ((w.alloc o).alloc (.cells cs t)) (w.heap.size + 1) t cs := by
  have := Box.new (w.alloc o) t cs; simpa using this
set_option maxRecDepth 100000 in
theorem Box.lt {w : World} {b : Nat} {t : TypeId} {cs : Array Value} (h : Box w b t cs) : b < w.heap.size := (Array.getElem?_eq_some_iff.1 h).1
set_option maxRecDepth 100000 in
theorem Box.cell {w : World} {b : Nat} {t : TypeId} {cs : Array Value} (h : Box w b t cs) (i : Nat) : w.cell? ⟨b, i, none⟩ = cs[i]? := cell_of_row _ _ _ _ _ _ h
set_option maxRecDepth 100000 in
theorem Box.free {w : World} {b : Nat} {t : TypeId} {cs : Array Value} (h : Box w b t cs) (i : Nat) : w.frozen? ⟨b, i, none⟩ = false := frozen_of_row _ _ _ _ _ h
set_option maxRecDepth 100000 in
theorem Box.far {w : World} {g b : Nat} {t : TypeId} {cs : Array Value} (h : Box w b t cs) (hne : b ≠ g) (j : Nat) (x : Value) : Box (w.setCell ⟨g, j, none⟩ x) b t cs := by
  unfold Box at *; rw [Below.heap_setCell _ _ _ _ hne]; exact h
set_option maxRecDepth 100000 in
theorem Box.set {w : World} {b : Nat} {t : TypeId} {cs : Array Value} (h : Box w b t cs) (j : Nat) (x : Value) : Box (w.setCell ⟨b, j, none⟩ x) b t (cs.setIfInBounds j x) := by
  unfold Box
  rw [setCell_eq_setRow w b j cs t (0, 0) x h]
  exact setRow_heap w b _ _ _ _ h
set_option maxRecDepth 100000 in
theorem t_size : (Tryd.prog.info? 57).map (·.size) = some 2 := by kernel_rfl
set_option maxRecDepth 100000 in
theorem results_two {P : Program} {fn : Func} {p q : Tmp} {ty : TypeId} (h : fn.results = #[.cell p ty, .tmp q]) (tmps : Array Value) (w : World) (g : Nat) (t : TypeId) (cs : Array Value) (fr : Nat × Nat) (d : TypeDesc) (x : Value)
    (hp : tmps.getD p undef = .pointer (some ⟨g, 0, none⟩)) (hq : tmps.getD q undef = x) (hg : w.heap[g]? = some (.cells cs t fr))
    (hu : P.underlying ty = some d) (hd : (match d with | .struct _ | .array _ _ => true | _ => false) = true) (hi : (P.info? ty).map (·.size) = some cs.size) :
    (results fn tmps).run P w = .ok (.tuple #[.agg cs, x]) w := by
  have hp' : tmps[p]?.getD undef = .pointer (some ⟨g, 0, none⟩) := by simpa using hp
  have hq' : tmps[q]?.getD undef = x := by simpa using hq
  simp [results, h, hp', hq', asAddr, run_loadVar_row w g t ty cs fr d hg hu hd hi]
set_option maxRecDepth 100000 in
theorem results_three {P : Program} {fn : Func} {p q r : Tmp} {ty : TypeId} (h : fn.results = #[.cell p ty, .tmp q, .tmp r]) (tmps : Array Value) (w : World) (g : Nat) (t : TypeId) (cs : Array Value) (fr : Nat × Nat) (d : TypeDesc) (x y : Value)
    (hp : tmps.getD p undef = .pointer (some ⟨g, 0, none⟩)) (hq : tmps.getD q undef = x) (hr : tmps.getD r undef = y) (hg : w.heap[g]? = some (.cells cs t fr))
    (hu : P.underlying ty = some d) (hd : (match d with | .struct _ | .array _ _ => true | _ => false) = true) (hi : (P.info? ty).map (·.size) = some cs.size) :
    (results fn tmps).run P w = .ok (.tuple #[.agg cs, x, y]) w := by
  have hp' : tmps[p]?.getD undef = .pointer (some ⟨g, 0, none⟩) := by simpa using hp
  have hq' : tmps[q]?.getD undef = x := by simpa using hq
  have hr' : tmps[r]?.getD undef = y := by simpa using hr
  simp [results, h, hp', hq', hr', asAddr, run_loadVar_row w g t ty cs fr d hg hu hd hi]
set_option maxRecDepth 100000 in
theorem ret_t1 {fn : Func} {q : Tmp} {Q : Ending → World → Prop} {a : Act} {w : World} {g : Nat} {x y : Value} {fr : Nat × Nat} (h : fn.results = #[.cell q 57]) (hp : a.tmps.getD q undef = .pointer (some ⟨g, 0, none⟩)) (hd : a.defers = []) (hg : w.heap[g]? = some (.cells #[x, y] 57 fr))
    (hQ : Q (.returned (.agg #[x, y])) w) : bodyPost Tryd.prog fn Q .ret a w :=
  bodyPost_ret (results_cell_row h _ _ g 57 _ fr _ hp hg Tryd.underlying57 rfl t_size) hd hQ
set_option maxRecDepth 100000 in
theorem ret_t2 {fn : Func} {q r : Tmp} {Q : Ending → World → Prop} {a : Act} {w : World} {g : Nat} {x y b : Value} {fr : Nat × Nat} (h : fn.results = #[.cell q 57, .tmp r]) (hp : a.tmps.getD q undef = .pointer (some ⟨g, 0, none⟩)) (hr : a.tmps.getD r undef = b) (hd : a.defers = []) (hg : w.heap[g]? = some (.cells #[x, y] 57 fr))
    (hQ : Q (.returned (.tuple #[.agg #[x, y], b])) w) : bodyPost Tryd.prog fn Q .ret a w :=
  bodyPost_ret (results_two h _ _ g 57 _ fr _ _ hp hr hg Tryd.underlying57 rfl t_size) hd hQ
set_option maxRecDepth 100000 in
theorem r_size : (Tryd.prog.info? 25).map (·.size) = some 4 := by kernel_rfl
set_option maxRecDepth 100000 in
theorem ret_r1 {fn : Func} {q : Tmp} {Q : Ending → World → Prop} {a : Act} {w : World} {g : Nat} {x y z u : Value} {fr : Nat × Nat} (h : fn.results = #[.cell q 25]) (hp : a.tmps.getD q undef = .pointer (some ⟨g, 0, none⟩)) (hd : a.defers = []) (hg : w.heap[g]? = some (.cells #[x, y, z, u] 25 fr))
    (hQ : Q (.returned (.agg #[x, y, z, u])) w) : bodyPost Tryd.prog fn Q .ret a w :=
  bodyPost_ret (results_cell_row h _ _ g 25 _ fr _ hp hg Tryd.underlying25 rfl r_size) hd hQ
set_option maxRecDepth 100000 in
theorem ret_r3 {fn : Func} {q r s : Tmp} {Q : Ending → World → Prop} {a : Act} {w : World} {g : Nat} {x y z u b c : Value} {fr : Nat × Nat} (h : fn.results = #[.cell q 25, .tmp r, .tmp s]) (hp : a.tmps.getD q undef = .pointer (some ⟨g, 0, none⟩)) (hr : a.tmps.getD r undef = b) (hs : a.tmps.getD s undef = c) (hd : a.defers = []) (hg : w.heap[g]? = some (.cells #[x, y, z, u] 25 fr))
    (hQ : Q (.returned (.tuple #[.agg #[x, y, z, u], b, c])) w) : bodyPost Tryd.prog fn Q .ret a w :=
  bodyPost_ret (results_three h _ _ g 25 _ fr _ _ _ hp hr hs hg Tryd.underlying25 rfl r_size) hd hQ

abbrev tv (s : ByteArray) (e : Int) : Value := .agg #[.string s, .int .i64 e]
set_option maxRecDepth 100000 in
set_option maxHeartbeats 1000000 in
theorem fail_calls (s : ByteArray) (k : Int) (w : World) :
    Calls Tryd.prog 44 #[tv s 0, .int .i64 k] w fun e w' => e = .returned (tv s k) ∧ Below w.heap.size w w' := by
  unfold tv
  go_enter Tryd.func44, Tryd.ntmps44
  go_wp2_with fail
  refine ret_t1 Tryd.results44 rfl rfl (Box.new1 _ _ _ _) ?_
  exact ⟨rfl, ((Below.refl _ _).alloc (Nat.le_refl _) _).alloc (by simp) _⟩
end Go.Proofs.YtflmolhkbpicbaaDoor.Ry
/-
  What the document's own text, bytes (of an answer that is read) answer, in any world.
-/
namespace Go.Proofs.YtflmolhkbpicbaaDoor.Ry
open Go.RowKit

/-- a value, or an error -/
def RdR (R : Rd Bytes) (e : Ending) : Prop := match R with
  | .ok t r => e = .returned (.tuple #[tv (bat r) 0, .string (bat t)])
  | .err k => ∃ s, e = .returned (.tuple #[tv s (k : Nat), .string ⟨#[]⟩])

set_option maxRecDepth 100000 in
theorem drop_at (s : ByteArray) (k : Nat) (h : k < s.size) : s.data.toList.drop k = s[k] :: s.data.toList.drop (k + 1) := by
  have h' : k < s.data.toList.length := h
  rw [← List.getElem_cons_drop h']
  rfl
set_option maxRecDepth 100000 in
theorem text_skip {s : Bytes} {acc : Bytes} {c : UInt8} {r : Bytes} (h : s = c :: r) (h1 : c ≠ 10) (h2 : c ≠ 13) : textR acc s = textR (acc ++ [c]) r := by
  subst h
  simp only [textR, if_neg h1, if_neg h2]
set_option maxRecDepth 100000 in
theorem bat_back (s : ByteArray) : bat s.data.toList = s := by
  show (⟨s.data.toList.toArray⟩ : ByteArray) = s
  simp
set_option maxRecDepth 100000 in
theorem extract_drop (t : ByteArray) (k : Nat) : t.extract k t.size = bat (t.data.toList.drop k) := by
  rw [← bat_back (t.extract k t.size), ByteArray.data_extract, Array.toList_extract, List.extract_eq_take_drop]
  congr 1
  rw [List.take_of_length_le (by simp)]
set_option maxRecDepth 100000 in
theorem extract_take (t : ByteArray) (k : Nat) : t.extract 0 k = bat (t.data.toList.take k) := by
  rw [← bat_back (t.extract 0 k), ByteArray.data_extract, Array.toList_extract, List.extract_eq_take_drop]
  simp
set_option maxRecDepth 100000 in
/-- two new blocks: a struct that was handed in, one for the result -/
theorem two_boxes (w : World) (t t2 : TypeId) (cs cs2 : Array Value) : Below w.heap.size w ((w.alloc (.cells cs t)).alloc (.cells cs2 t2)) ∧ Box ((w.alloc (.cells cs t)).alloc (.cells cs2 t2)) w.heap.size t cs ∧ Box ((w.alloc (.cells cs t)).alloc (.cells cs2 t2)) (w.heap.size + 1) t2 cs2 :=
  ⟨((Below.refl _ _).alloc (Nat.le_refl _) _).alloc (by simp) _, (Box.new w t cs).alloc _, Box.new1 _ _ _ _⟩

set_option maxHeartbeats 2000000 in
set_option maxRecDepth 100000 in
theorem text_calls (s : ByteArray) (w : World) (hs : s.size ≤ 1099511627776) :
    Calls Tryd.prog 31 #[tv s 0] w fun e w' => RdR (textR [] s.data.toList) e ∧ Below w.heap.size w w' := by
  unfold tv
  go_enter Tryd.func31, Tryd.ntmps31
  go_wp2_with fail
  obtain ⟨hb, x1, x2⟩ := two_boxes w 57 57 #[.string s, .int .i64 0] #[.string ⟨#[]⟩, .int .i64 0]
  generalize (w.alloc (.cells #[.string s, .int .i64 0] 57)).alloc (.cells #[.string ⟨#[]⟩, .int .i64 0] 57) = W0 at hb x1 x2 ⊢
  have HB := Lib.hid hb
  have X2 := Lib.hid x2
  have c0 : W0.cell? ⟨w.heap.size, 0, none⟩ = some (.string s) := x1.cell 0
  have c1 : W0.cell? ⟨w.heap.size, 1, none⟩ = some (.int .i64 0) := x1.cell 1
  have r0 : W0.cell? ⟨w.heap.size + 1, 0, none⟩ = some (.string ⟨#[]⟩) := x2.cell 0
  have r1 : W0.cell? ⟨w.heap.size + 1, 1, none⟩ = some (.int .i64 0) := x2.cell 1
  have z0 := x2.free 0
  have z1 := x2.free 1
  have X1 := Lib.hid x1
  clear hb x1 x2
  go_loopw [4] (fun i wr => ∃ k : Nat, k ≤ s.size ∧ i = .int .i64 (k : Nat) ∧ wr = W0 ∧ Hid (textR [] s.data.toList = textR (s.data.toList.take k) (s.data.toList.drop k))) (fun i _ => s.size - (intOf i).toNat)
  case atStart => exact ⟨0, Nat.zero_le _, rfl, rfl, Lib.hid rfl⟩
  case round =>
    obtain ⟨k, hk, rfl, hw0, HR⟩ := hrel
    subst hw0
    by_cases hlt : k < s.size
    · have i1 : (k : Int) < (s.size : Int) := by omega
      have HD := Lib.hid (drop_at s k hlt)
      have HTK : Hid (s.data.toList.take (k + 1) = s.data.toList.take k ++ [s[k]]) := Lib.hid (by
        have h' : k < s.data.toList.length := hlt
        rw [List.take_succ_eq_append_getElem h']
        rfl)
      by_cases h10 : s[k] = 10
      · have t1 : ((s[k].toNat : Int) == 10) = true := by rw [h10]; rfl
        have HE : Hid (textR [] s.data.toList = .err 9) := Lib.hid (by rw [HR.out, HD.out, h10]; simp [textR])
        clear h10 HTK HD r0 r1 z0 z1
        go_wp2_with fail
        refine (fail_calls s 9 _).mono ?_
        rintro e w1 ⟨rfl, hb1⟩
        have X3 := Lib.hid (X2.out.keep hb1)
        have HB1 := Lib.hid (HB.out.trans (hb1.mono HB.out.size))
        have c0 := X3.out.cell 0
        have c1 := X3.out.cell 1
        have z0 := X3.out.free 0
        have z1 := X3.out.free 1
        simp only [List.getElem?_toArray, List.getElem?_cons_zero, List.getElem?_cons_succ] at c0 c1
        clear hb1 X2 HB X1
        go_wp2_with fail
        refine ret_t2 Tryd.results31 rfl rfl rfl ((X3.out.set 0 _).set 1 _) ?_
        rw [HE.out]
        exact ⟨⟨_, rfl⟩, (HB1.out.setCell (by simp) _).setCell (by simp) _⟩
      · have t1 : ((s[k].toNat : Int) == 10) = false := by
          rw [beq_eq_false_iff_ne]; intro e; exact h10 (UInt8.toNat.inj (by show s[k].toNat = 10; omega))
        by_cases h13 : s[k] = 13
        · have t2 : ((s[k].toNat : Int) == 13) = true := by rw [h13]; rfl
          by_cases hke : k + 1 = s.size
          · have t3 : ((k : Int) + 1 == (s.size : Int)) = true := by rw [beq_iff_eq]; omega
            have HE : Hid (textR [] s.data.toList = .err 8) := Lib.hid (by
              rw [HR.out, HD.out, h13, List.drop_eq_nil_of_le (by rw [hke]; exact Nat.le_refl _)]
              simp [textR])
            clear h10 h13 hke HTK HD r0 r1 z0 z1
            go_wp2_with fail
            refine (fail_calls s 8 _).mono ?_
            rintro e w1 ⟨rfl, hb1⟩
            have X3 := Lib.hid (X2.out.keep hb1)
            have HB1 := Lib.hid (HB.out.trans (hb1.mono HB.out.size))
            have c0 := X3.out.cell 0
            have c1 := X3.out.cell 1
            have z0 := X3.out.free 0
            have z1 := X3.out.free 1
            simp only [List.getElem?_toArray, List.getElem?_cons_zero, List.getElem?_cons_succ] at c0 c1
            clear hb1 X2 HB X1
            go_wp2_with fail
            refine ret_t2 Tryd.results31 rfl rfl rfl ((X3.out.set 0 _).set 1 _) ?_
            rw [HE.out]
            exact ⟨⟨_, rfl⟩, (HB1.out.setCell (by simp) _).setCell (by simp) _⟩
          · have t3 : ((k : Int) + 1 == (s.size : Int)) = false := by rw [beq_eq_false_iff_ne]; omega
            have hk2 : k + 1 < s.size := by omega
            have HD2 := Lib.hid (drop_at s (k + 1) hk2)
            by_cases hn : s[k + 1] = 10
            · have t4 : ((s[k + 1].toNat : Int) != 10) = false := by rw [hn]; rfl
              have HE : Hid (textR [] s.data.toList = .ok (s.data.toList.take k) (s.data.toList.drop (k + 2))) := Lib.hid (by
                rw [HR.out, HD.out, HD2.out, h13, hn]
                simp [textR])
              clear h10 h13 hke hn HTK HD HD2
              go_wp2_with fail
              go_region
              go_wp2_with fail
              refine ret_t2 Tryd.results31 rfl rfl rfl (Box.drew ((X2.out.set 0 _).set 1 _)) ?_
              rw [HE.out]
              refine ⟨?_, ((HB.out.setCell (by simp) _).setCell (by simp) _).drew⟩
              show Ending.returned (.tuple #[.agg #[.string (s.extract (k + 2) s.size), .int .i64 0], .string (s.extract 0 k)]) = _
              rw [extract_drop, extract_take]
            · have t4 : ((s[k + 1].toNat : Int) != 10) = true := by
                rw [bne_iff_ne]; intro e; exact hn (UInt8.toNat.inj (by show s[k + 1].toNat = 10; omega))
              have HE : Hid (textR [] s.data.toList = .err 9) := Lib.hid (by
                rw [HR.out, HD.out, HD2.out, h13]
                simp [textR, hn])
              clear h10 h13 hke hn HTK HD HD2 r0 r1 z0 z1
              go_wp2_with fail
              refine (fail_calls s 9 _).mono ?_
              rintro e w1 ⟨rfl, hb1⟩
              have X3 := Lib.hid (X2.out.keep hb1)
              have HB1 := Lib.hid (HB.out.trans (hb1.mono HB.out.size))
              have c0 := X3.out.cell 0
              have c1 := X3.out.cell 1
              have z0 := X3.out.free 0
              have z1 := X3.out.free 1
              simp only [List.getElem?_toArray, List.getElem?_cons_zero, List.getElem?_cons_succ] at c0 c1
              clear hb1 X2 HB X1
              go_wp2_with fail
              refine ret_t2 Tryd.results31 rfl rfl rfl ((X3.out.set 0 _).set 1 _) ?_
              rw [HE.out]
              exact ⟨⟨_, rfl⟩, (HB1.out.setCell (by simp) _).setCell (by simp) _⟩
        · have t2 : ((s[k].toNat : Int) == 13) = false := by
            rw [beq_eq_false_iff_ne]; intro e; exact h13 (UInt8.toNat.inj (by show s[k].toNat = 13; omega))
          have HR2 : Hid (textR [] s.data.toList = textR (s.data.toList.take (k + 1)) (s.data.toList.drop (k + 1))) := Lib.hid (by
            rw [HR.out, HTK.out]
            exact text_skip HD.out h10 h13)
          clear h10 h13 HTK HD
          go_wp2_with fail
          go_roundw
          case rel => exact ⟨k + 1, by omega, by go_num, trivial, HR2⟩
          case measure => simp [intOf]; omega
    · have i1 : ¬ (k : Int) < (s.size : Int) := by omega
      have HE : Hid (textR [] s.data.toList = .err 8) := Lib.hid (by
        rw [HR.out, List.drop_eq_nil_of_le (by show s.size ≤ k; omega)]
        rfl)
      clear hlt r0 r1 z0 z1
      go_wp2_with fail
      refine (fail_calls s 8 _).mono ?_
      rintro e w1 ⟨rfl, hb1⟩
      have X3 := Lib.hid (X2.out.keep hb1)
      have HB1 := Lib.hid (HB.out.trans (hb1.mono HB.out.size))
      have c0 := X3.out.cell 0
      have c1 := X3.out.cell 1
      have z0 := X3.out.free 0
      have z1 := X3.out.free 1
      simp only [List.getElem?_toArray, List.getElem?_cons_zero, List.getElem?_cons_succ] at c0 c1
      clear hb1 X2 HB X1
      go_wp2_with fail
      refine ret_t2 Tryd.results31 rfl rfl rfl ((X3.out.set 0 _).set 1 _) ?_
      rw [HE.out]
      exact ⟨⟨_, rfl⟩, (HB1.out.setCell (by simp) _).setCell (by simp) _⟩

set_option maxRecDepth 100000 in
theorem drop_size (s : ByteArray) (n : Nat) : (s.data.toList.drop n).length = s.size - n := by
  rw [List.length_drop]; rfl
set_option maxHeartbeats 2000000 in
set_option maxRecDepth 100000 in
theorem bytes_calls (s : ByteArray) (n : Nat) (w : World) (_hs : s.size ≤ 1099511627776) (hn : n ≤ 1099511627776) :
    Calls Tryd.prog 33 #[tv s 0, .int .i64 (n : Nat)] w fun e w' => RdR (bytesR n s.data.toList) e ∧ Below w.heap.size w w' := by
  unfold tv
  go_enter Tryd.func33, Tryd.ntmps33
  have hsl : s.data.toList.length = s.size := rfl
  by_cases hle : s.size ≤ n
  · have i1 : (s.size : Int) ≤ (n : Int) := by omega
    have HE : Hid (bytesR n s.data.toList = .err 8) := Lib.hid (by unfold bytesR; rw [if_pos (by rw [hsl]; exact hle)])
    clear hle hsl
    go_wp2_with fail
    obtain ⟨hb, x1, x2⟩ := two_boxes w 57 57 #[.string s, .int .i64 0] #[.string ⟨#[]⟩, .int .i64 0]
    have HB := Lib.hid hb
    have X1 := Lib.hid x1
    have X2 := Lib.hid x2
    clear hb x1 x2
    refine (fail_calls s 8 _).mono ?_
    rintro e w1 ⟨rfl, hb1⟩
    have X3 := Lib.hid (X2.out.keep hb1)
    have HB1 := Lib.hid (HB.out.trans (hb1.mono HB.out.size))
    have c0 := X3.out.cell 0
    have c1 := X3.out.cell 1
    have z0 := X3.out.free 0
    have z1 := X3.out.free 1
    simp only [List.getElem?_toArray, List.getElem?_cons_zero, List.getElem?_cons_succ] at c0 c1
    clear hb1 X2 HB X1
    go_wp2_with fail
    refine ret_t2 Tryd.results33 rfl rfl rfl ((X3.out.set 0 _).set 1 _) ?_
    rw [HE.out]
    exact ⟨⟨_, rfl⟩, (HB1.out.setCell (by simp) _).setCell (by simp) _⟩
  · have i1 : ¬ (s.size : Int) ≤ (n : Int) := by omega
    have hlt : n < s.size := by omega
    have i2 : (n : Int) < (s.size : Int) := by omega
    have HD := Lib.hid (drop_at s n hlt)
    have hnl : ¬ s.data.toList.length ≤ n := by rw [hsl]; exact hle
    clear hsl hle
    by_cases h13 : s[n] = 13
    · have t1 : ((s[n].toNat : Int) != 13) = false := by rw [h13]; rfl
      by_cases hke : n + 1 = s.size
      · have t3 : ((s.size : Int) == (n : Int) + 1) = true := by rw [beq_iff_eq]; omega
        have HE : Hid (bytesR n s.data.toList = .err 8) := Lib.hid (by
          unfold bytesR
          rw [if_neg hnl, HD.out, h13, List.drop_eq_nil_of_le (by rw [hke]; exact Nat.le_refl _)]
          simp)
        clear h13 hke hnl HD
        go_wp2_with fail
        obtain ⟨hb, x1, x2⟩ := two_boxes w 57 57 #[.string s, .int .i64 0] #[.string ⟨#[]⟩, .int .i64 0]
        have HB := Lib.hid hb
        have X1 := Lib.hid x1
        have X2 := Lib.hid x2
        clear hb x1 x2
        refine (fail_calls s 8 _).mono ?_
        rintro e w1 ⟨rfl, hb1⟩
        have X3 := Lib.hid (X2.out.keep hb1)
        have HB1 := Lib.hid (HB.out.trans (hb1.mono HB.out.size))
        have c0 := X3.out.cell 0
        have c1 := X3.out.cell 1
        have z0 := X3.out.free 0
        have z1 := X3.out.free 1
        simp only [List.getElem?_toArray, List.getElem?_cons_zero, List.getElem?_cons_succ] at c0 c1
        clear hb1 X2 HB X1
        go_wp2_with fail
        refine ret_t2 Tryd.results33 rfl rfl rfl ((X3.out.set 0 _).set 1 _) ?_
        rw [HE.out]
        exact ⟨⟨_, rfl⟩, (HB1.out.setCell (by simp) _).setCell (by simp) _⟩
      · have t3 : ((s.size : Int) == (n : Int) + 1) = false := by rw [beq_eq_false_iff_ne]; omega
        have hk2 : n + 1 < s.size := by omega
        have i3 : (n : Int) + 1 < (s.size : Int) := by omega
        have HD2 := Lib.hid (drop_at s (n + 1) hk2)
        by_cases hm : s[n + 1] = 10
        · have t4 : ((s[n + 1].toNat : Int) != 10) = false := by rw [hm]; rfl
          have HE : Hid (bytesR n s.data.toList = .ok (s.data.toList.take n) (s.data.toList.drop (n + 2))) := Lib.hid (by
            unfold bytesR
            rw [if_neg hnl, HD.out, HD2.out, h13, hm]
            simp)
          clear h13 hke hm hnl HD HD2
          go_wp2_with fail
          go_region
          go_wp2_with fail
          obtain ⟨hb, x1, x2⟩ := two_boxes w 57 57 #[.string s, .int .i64 0] #[.string (s.extract (n + 2) s.size), .int .i64 0]
          refine ret_t2 Tryd.results33 rfl rfl rfl (Box.drew x2) ?_
          rw [HE.out]
          refine ⟨?_, hb.drew⟩
          show Ending.returned (.tuple #[.agg #[.string (s.extract (n + 2) s.size), .int .i64 0], .string (s.extract 0 n)]) = _
          rw [extract_drop, extract_take]
        · have t4 : ((s[n + 1].toNat : Int) != 10) = true := by
            rw [bne_iff_ne]; intro e; exact hm (UInt8.toNat.inj (by show s[n + 1].toNat = 10; omega))
          have HE : Hid (bytesR n s.data.toList = .err 9) := Lib.hid (by
            unfold bytesR
            rw [if_neg hnl, HD.out, HD2.out, h13]
            simp [hm])
          clear h13 hke hm hnl HD HD2
          go_wp2_with fail
          obtain ⟨hb, x1, x2⟩ := two_boxes w 57 57 #[.string s, .int .i64 0] #[.string ⟨#[]⟩, .int .i64 0]
          have HB := Lib.hid hb
          have X1 := Lib.hid x1
          have X2 := Lib.hid x2
          clear hb x1 x2
          refine (fail_calls s 9 _).mono ?_
          rintro e w1 ⟨rfl, hb1⟩
          have X3 := Lib.hid (X2.out.keep hb1)
          have HB1 := Lib.hid (HB.out.trans (hb1.mono HB.out.size))
          have c0 := X3.out.cell 0
          have c1 := X3.out.cell 1
          have z0 := X3.out.free 0
          have z1 := X3.out.free 1
          simp only [List.getElem?_toArray, List.getElem?_cons_zero, List.getElem?_cons_succ] at c0 c1
          clear hb1 X2 HB X1
          go_wp2_with fail
          refine ret_t2 Tryd.results33 rfl rfl rfl ((X3.out.set 0 _).set 1 _) ?_
          rw [HE.out]
          exact ⟨⟨_, rfl⟩, (HB1.out.setCell (by simp) _).setCell (by simp) _⟩
    · have t1 : ((s[n].toNat : Int) != 13) = true := by
        rw [bne_iff_ne]; intro e; exact h13 (UInt8.toNat.inj (by show s[n].toNat = 13; omega))
      have HE : Hid (bytesR n s.data.toList = .err 9) := Lib.hid (by
        unfold bytesR
        rw [if_neg hnl, HD.out]
        simp [h13])
      clear h13 hnl HD
      go_wp2_with fail
      obtain ⟨hb, x1, x2⟩ := two_boxes w 57 57 #[.string s, .int .i64 0] #[.string ⟨#[]⟩, .int .i64 0]
      have HB := Lib.hid hb
      have X1 := Lib.hid x1
      have X2 := Lib.hid x2
      clear hb x1 x2
      refine (fail_calls s 9 _).mono ?_
      rintro e w1 ⟨rfl, hb1⟩
      have X3 := Lib.hid (X2.out.keep hb1)
      have HB1 := Lib.hid (HB.out.trans (hb1.mono HB.out.size))
      have c0 := X3.out.cell 0
      have c1 := X3.out.cell 1
      have z0 := X3.out.free 0
      have z1 := X3.out.free 1
      simp only [List.getElem?_toArray, List.getElem?_cons_zero, List.getElem?_cons_succ] at c0 c1
      clear hb1 X2 HB X1
      go_wp2_with fail
      refine ret_t2 Tryd.results33 rfl rfl rfl ((X3.out.set 0 _).set 1 _) ?_
      rw [HE.out]
      exact ⟨⟨_, rfl⟩, (HB1.out.setCell (by simp) _).setCell (by simp) _⟩
end Go.Proofs.YtflmolhkbpicbaaDoor.Ry
