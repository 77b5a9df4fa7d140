/-
  Rows of limits and of dues in memory; what the program's own calls owe: a bundle of contracts over a list of dues.
-/
import Derived.Test.YtplinlgafgfepaaLedMath
namespace Go.Proofs.Ytplinlgafgfepaa.Ld
open Go.RowKit

abbrev I64 (x : Int) : Prop := -9223372036854775808 ≤ x ∧ x < 9223372036854775808

/-- a block of limits: what is written down there never changes, so that ledgers may share it -/
def Ro (w : World) (x : Nat) : Prop := ∃ cur fz, w.heap[x]? = some (.cells cur 58 fz)
theorem Ro.lt {w : World} {x : Nat} (h : Ro w x) : x < w.heap.size := by
  obtain ⟨cur, fz, h⟩ := h
  exact (Array.getElem?_eq_some_iff.1 h).1
theorem Ro.of {w w' : World} {x : Nat} (h : Ro w x) (e : w'.heap[x]? = w.heap[x]?) : Ro w' x := by
  obtain ⟨cur, fz, h⟩ := h
  exact ⟨cur, fz, e.trans h⟩
theorem Ro.below {w w' : World} {x : Nat} (h : Ro w x) (hb : Below w.heap.size w w') : Ro w' x := h.of (hb.block x h.lt)
/-- a call that may turn a ledger's own blocks, but for limits, and no other that there was -/
def Kept (own : List Nat) (w : World) (own' : List Nat) (w' : World) : Prop := Only own w w' ∧ (∀ x ∈ own', x ∈ own ∨ w.heap.size ≤ x) ∧ ∀ x ∈ own, Ro w x → w'.heap[x]? = w.heap[x]?
theorem Kept.of_below {own : List Nat} {w w' : World} (h : Below w.heap.size w w') : Kept own w own w' := ⟨Only.of_below _ h, fun _ h => .inl h, fun _ _ h2 => h.block _ h2.lt⟩
theorem Kept.trans {o1 o2 o3 : List Nat} {a b c : World} (h : Kept o1 a o2 b) (k : Kept o2 b o3 c) : Kept o1 a o3 c :=
  ⟨h.1.trans k.1 h.2.1, fun x hx => (k.2.1 x hx).elim (h.2.1 x) (fun h2 => .inr (Nat.le_trans h.1.size h2)), fun x hx hr => by
    have e1 := h.2.2 x hx hr
    by_cases hx2 : x ∈ o2
    · exact (k.2.2 x hx2 (hr.of e1)).trans e1
    · exact (k.1.block x (Nat.lt_of_lt_of_le hr.lt h.1.size) hx2).trans e1⟩

/-- blocks that stand: they are there, and are no ledger's -/
def Free (own : List Nat) (w : World) (b : Nat) : Prop := b < w.heap.size ∧ b ∉ own
theorem Free.kept {own own' : List Nat} {w w' : World} {b : Nat} (h : Free own w b) (k : Kept own w own' w') : w'.heap[b]? = w.heap[b]? ∧ Free own' w' b :=
  ⟨k.1.block b h.1 h.2, Nat.lt_of_lt_of_le h.1 k.1.size, fun hc => (k.2.1 b hc).elim h.2 (fun h2 => by have := h.1; omega)⟩
theorem Free.below {own : List Nat} {w w' : World} {b : Nat} (h : Free own w b) (k : Below w.heap.size w w') : w'.heap[b]? = w.heap[b]? ∧ Free own w' b :=
  ⟨k.block b h.1, Nat.lt_of_lt_of_le h.1 k.size, h.2⟩
/-- what stands by S stands in another world by T -/
def Stands (S T : Nat → Prop) (w w' : World) : Prop := ∀ b, S b → w'.heap[b]? = w.heap[b]? ∧ T b
theorem Stands.trans {S T U : Nat → Prop} {a b c : World} (h : Stands S T a b) (k : Stands T U b c) : Stands S U a c := fun x hx => ⟨(k x (h x hx).2).1.trans (h x hx).1, (k x (h x hx).2).2⟩
theorem Kept.stands {own own' : List Nat} {w w' : World} (k : Kept own w own' w') : Stands (Free own w) (Free own' w') w w' := fun _ h => h.kept k
theorem Below.stands {own : List Nat} {w w' : World} (k : Below w.heap.size w w') : Stands (Free own w) (Free own w') w w' := fun _ h => h.below k
theorem Stands.cell {S T : Nat → Prop} {w w' : World} (k : Stands S T w w') {a : Addr} (h : S a.block) : w'.cell? a = w.cell? a := by
  unfold World.cell?
  rw [(k _ h).1]
theorem Stands.cell2 {S T : Nat → Prop} {w w' : World} (k : Stands S T w w') {a : Addr} (h : S a.block) (o : Nat) (m : Option Nat) : w'.cell? ⟨a.block, o, m⟩ = w.cell? ⟨a.block, o, m⟩ := k.cell (a := ⟨a.block, o, m⟩) h
theorem add_blk (a : Addr) (n : Nat) : (a.add n).block = a.block := by unfold Addr.add; split <;> rfl
theorem add_off (a : Addr) (n j : Nat) (hj : j ≠ 0) : a.add (n + j) = ⟨(a.add n).block, (a.add n).off + j, none⟩ := by
  unfold Addr.add
  rw [if_neg (by omega)]
  split <;> simp_all; omega

def lcells (x : Lim) : List Value := [.string x.1, .int .i64 x.2.1.1, .int .i64 x.2.1.2.1, .int .i64 x.2.1.2.2.1, .int .i64 x.2.1.2.2.2.1, .int .i64 x.2.1.2.2.2.2.1, .bool x.2.1.2.2.2.2.2, .int .i64 x.2.2]
/-- limits lie there, in blocks that stand -/
def Lims (S : Nat → Prop) (w : World) (A : Option Addr) (l : List Lim) : Prop :=
  ∀ i (h : i < l.length), ∃ a : Addr, A = some a ∧ S a.block ∧ ∀ j v, (lcells l[i])[j]? = some v → w.cell? (a.add (i * 8 + j)) = some v
theorem Lims.nil (S : Nat → Prop) (w : World) (A : Option Addr) : Lims S w A [] := fun i h => absurd h (by simp)
theorem Lims.goes {S T : Nat → Prop} {w w' : World} {A : Option Addr} {l : List Lim} (h : Lims S w A l) (k : Stands S T w w') : Lims T w' A l := fun i hi => by
  obtain ⟨a, e, hs, hc⟩ := h i hi
  exact ⟨a, e, (k _ hs).2, fun j v hv => by rw [k.cell (by rw [add_blk]; exact hs)]; exact hc j v hv⟩
theorem Lims.mono {S T : Nat → Prop} {w : World} {A : Option Addr} {l : List Lim} (h : Lims S w A l) (k : ∀ b, S b → T b) : Lims T w A l := h.goes fun b hb => ⟨rfl, k b hb⟩
theorem Lims.at_ {S : Nat → Prop} {w : World} {A : Option Addr} {l : List Lim} (h : Lims S w A l) {i : Nat} (hi : i < l.length) :
    ∃ a : Addr, A = some a ∧ S a.block ∧ w.cell? (a.add (i * 8)) = some (.string l[i].1) ∧ w.cell? ⟨(a.add (i * 8)).block, (a.add (i * 8)).off + 1, none⟩ = some (.int .i64 l[i].2.1.1) ∧ w.cell? ⟨(a.add (i * 8)).block, (a.add (i * 8)).off + 2, none⟩ = some (.int .i64 l[i].2.1.2.1) ∧ w.cell? ⟨(a.add (i * 8)).block, (a.add (i * 8)).off + 3, none⟩ = some (.int .i64 l[i].2.1.2.2.1) ∧ w.cell? ⟨(a.add (i * 8)).block, (a.add (i * 8)).off + 4, none⟩ = some (.int .i64 l[i].2.1.2.2.2.1) ∧ w.cell? ⟨(a.add (i * 8)).block, (a.add (i * 8)).off + 5, none⟩ = some (.int .i64 l[i].2.1.2.2.2.2.1) ∧ w.cell? ⟨(a.add (i * 8)).block, (a.add (i * 8)).off + 6, none⟩ = some (.bool l[i].2.1.2.2.2.2.2) ∧ w.cell? ⟨(a.add (i * 8)).block, (a.add (i * 8)).off + 7, none⟩ = some (.int .i64 l[i].2.2) := by
  obtain ⟨a, e, hs, hc⟩ := h i hi
  refine ⟨a, e, hs, hc 0 _ rfl, ?_, ?_, ?_, ?_, ?_, ?_, ?_⟩ <;> rw [← add_off a (i * 8) _ (by decide)]
  · exact hc 1 _ rfl
  · exact hc 2 _ rfl
  · exact hc 3 _ rfl
  · exact hc 4 _ rfl
  · exact hc 5 _ rfl
  · exact hc 6 _ rfl
  · exact hc 7 _ rfl

/-- dues lie there, in blocks that stand -/
def Dues (S : Nat → Prop) (w : World) (A : Option Addr) (l : LL (List Lim)) : Prop :=
  ∀ i (h : i < l.length), ∃ a : Addr, A = some a ∧ S a.block ∧ w.cell? (a.add (i * 3)) = some (.int .i64 (l[i].1 : Nat)) ∧ w.cell? ⟨(a.add (i * 3)).block, (a.add (i * 3)).off + 1, none⟩ = some (.int .i64 (l[i].2.1 : Nat)) ∧
    ∃ A' cap, w.cell? ⟨(a.add (i * 3)).block, (a.add (i * 3)).off + 2, none⟩ = some (.slice A' l[i].2.2.length cap) ∧ Lims S w A' l[i].2.2
theorem Dues.nil (S : Nat → Prop) (w : World) (A : Option Addr) : Dues S w A [] := fun i h => absurd h (by simp)
theorem Dues.goes {S T : Nat → Prop} {w w' : World} {A : Option Addr} {l : LL (List Lim)} (h : Dues S w A l) (k : Stands S T w w') : Dues T w' A l := fun i hi => by
  obtain ⟨a, e, hs, h0, h1, A', cap, h2, h3⟩ := h i hi
  have hb : S (a.add (i * 3)).block := by rw [add_blk]; exact hs
  exact ⟨a, e, (k _ hs).2, by rw [k.cell hb]; exact h0, by rw [k.cell2 hb]; exact h1, A', cap, by rw [k.cell2 hb]; exact h2, h3.goes k⟩
theorem Dues.mono {S T : Nat → Prop} {w : World} {A : Option Addr} {l : LL (List Lim)} (h : Dues S w A l) (k : ∀ b, S b → T b) : Dues T w A l := h.goes fun b hb => ⟨rfl, k b hb⟩
theorem Dues.at_ {S : Nat → Prop} {w : World} {A : Option Addr} {l : LL (List Lim)} (h : Dues S w A l) {i : Nat} (hi : i < l.length) :
    ∃ a : Addr, A = some a ∧ S a.block ∧ w.cell? (a.add (i * 3)) = some (.int .i64 (l[i].1 : Nat)) ∧ w.cell? ⟨(a.add (i * 3)).block, (a.add (i * 3)).off + 1, none⟩ = some (.int .i64 (l[i].2.1 : Nat)) ∧
    ∃ A' cap, w.cell? ⟨(a.add (i * 3)).block, (a.add (i * 3)).off + 2, none⟩ = some (.slice A' l[i].2.2.length cap) ∧ Lims S w A' l[i].2.2 := h i hi

/-- a due as a value; what there is if there is none -/
abbrev dv (d : Du (List Lim)) (A : Option Addr) (cap : Nat) : Value := .agg #[.int .i64 (d.1 : Nat), .int .i64 (d.2.1 : Nat), .slice A d.2.2.length cap]
def od (o : Option (Du (List Lim))) : Du (List Lim) := o.getD (0, 0, [])
/-- limits of the call's own, that may be written -/
def LNew (B : Nat) (w : World) (A : Option Addr) (l : List Lim) : Prop :=
  l = [] ∨ ∃ g cur, A = some ⟨g, 0, none⟩ ∧ B ≤ g ∧ w.heap[g]? = some (.cells cur 58 (0, 0)) ∧ ∀ i (h : i < l.length) j v, (lcells l[i])[j]? = some v → cur[i * 8 + j]? = some v

/-- blocks of what is handed out: they stand, and are new -/
def Out (_own own' : List Nat) (w w' : World) (b : Nat) : Prop := Free own' w' b ∧ (b ∈ ([] : List Nat) ∨ w.heap.size ≤ b)
theorem Out.free {own own' : List Nat} {w w' : World} {b : Nat} (h : Out own own' w w' b) : Free own' w' b := h.1

structure LC where
  At : World → List Nat → Nat → Nat → LL (List Lim) → Prop
  keep : ∀ {w w' : World} {own o2 : List Nat} {v last : Nat} {L : LL (List Lim)}, At w own v last L → Only o2 w w' → (∀ x ∈ own, x ∈ o2 → w'.heap[x]? = w.heap[x]?) → At w' own v last L
  good : ∀ {w : World} {own : List Nat} {v last : Nat} {L : LL (List Lim)}, At w own v last L → Good last L ∧ (∀ x ∈ own, x < w.heap.size) ∧ ∀ x ∈ L, x.2.2.length ≤ 1048576
  new_ : ∀ (w : World),
    Calls Try.prog 11 #[] w fun e w' => ∃ v own, e = .returned (.pointer (some ⟨v, 0, none⟩)) ∧ At w' own v 0 [] ∧ Below w.heap.size w w' ∧ ∀ x ∈ own, w.heap.size ≤ x
  add_ : ∀ {w : World} {own : List Nat} {v last : Nat} {L : LL (List Lim)}, At w own v last L → ∀ (till : Int) (A : Option Addr) (cap : Nat) (ls : List Lim), last < 4611686018427387904 → I64 till → Lims (Free own w) w A ls → (A = none → cap = 0) → ls.length ≤ 1048576 →
    Calls Try.prog 23 #[.pointer (some ⟨v, 0, none⟩), .int .i64 till, .slice A ls.length cap] w fun e w' => ∃ own', e = .returned (.tuple #[.int .i64 (addI L last), .int .i64 (addE L)]) ∧ At w' own' v (addN L last) (add L last till ls) ∧ Kept own w own' w'
  get_ : ∀ {w : World} {own : List Nat} {v last : Nat} {L : LL (List Lim)}, At w own v last L → ∀ (id : Int), I64 id →
    Calls Try.prog 14 #[.pointer (some ⟨v, 0, none⟩), .int .i64 id] w fun e w' => ∃ A cap, e = .returned (.tuple #[dv (od (getO L id)) A cap, .bool (getO L id).isSome]) ∧ Lims (Out [] own w w') w' A (od (getO L id)).2.2 ∧ LNew w.heap.size w' A (od (getO L id)).2.2 ∧ Below w.heap.size w w'
  rem_ : ∀ {w : World} {own : List Nat} {v last : Nat} {L : LL (List Lim)}, At w own v last L → ∀ (id : Int), I64 id →
    Calls Try.prog 25 #[.pointer (some ⟨v, 0, none⟩), .int .i64 id] w fun e w' => ∃ own' A cap, e = .returned (.tuple #[dv (od (getO L id)) A cap, .bool (getO L id).isSome]) ∧ Lims (Out own own' w w') w' A (od (getO L id)).2.2 ∧ At w' own' v last (rem L id) ∧ Kept own w own' w'
  next_ : ∀ {w : World} {own : List Nat} {v last : Nat} {L : LL (List Lim)}, At w own v last L →
    Calls Try.prog 16 #[.pointer (some ⟨v, 0, none⟩)] w fun e w' => ∃ A cap, e = .returned (.tuple #[dv (od (nxt L)) A cap, .bool (nxt L).isSome]) ∧ Lims (Out [] own w w') w' A (od (nxt L)).2.2 ∧ Below w.heap.size w w'
  due_ : ∀ {w : World} {own : List Nat} {v last : Nat} {L : LL (List Lim)}, At w own v last L → ∀ (now : Int), I64 now →
    Calls Try.prog 22 #[.pointer (some ⟨v, 0, none⟩), .int .i64 now] w fun e w' => ∃ own' A cap, e = .returned (.slice A (due L (clip now)).length cap) ∧ (A = none → cap = 0) ∧ Dues (Out own own' w w') w' A (due L (clip now)) ∧ At w' own' v last (left L (clip now)) ∧ Kept own w own' w'
  len_ : ∀ {w : World} {own : List Nat} {v last : Nat} {L : LL (List Lim)}, At w own v last L →
    Calls Try.prog 20 #[.pointer (some ⟨v, 0, none⟩)] w fun e w' => e = .returned (.int .i64 (L.length : Nat)) ∧ Below w.heap.size w w'
  all_ : ∀ {w : World} {own : List Nat} {v last : Nat} {L : LL (List Lim)}, At w own v last L →
    Calls Try.prog 21 #[.pointer (some ⟨v, 0, none⟩)] w fun e w' => ∃ A cap, e = .returned (.slice A L.length cap) ∧ Dues (Out [] own w w') w' A L ∧ Below w.heap.size w w'
  copy_ : ∀ {w : World} {own : List Nat} {v last : Nat} {L : LL (List Lim)}, At w own v last L →
    Calls Try.prog 24 #[.pointer (some ⟨v, 0, none⟩)] w fun e w' => ∃ v' own', e = .returned (.pointer (some ⟨v', 0, none⟩)) ∧ At w' own' v' last L ∧ (∀ x ∈ own', (x ∈ own ∧ Ro w x) ∨ w.heap.size ≤ x) ∧ Below w.heap.size w w'
  lenNil : ∀ (w : World), Calls Try.prog 20 #[.pointer none] w fun e w' => e = .returned (.int .i64 0) ∧ Below w.heap.size w w'

variable (C : LC) {w w' : World} {own own' : List Nat} {v last : Nat} {L : LL (List Lim)}
theorem LC.below (h : C.At w own v last L) (hb : Below w.heap.size w w') : C.At w' own v last L := C.keep h (Only.of_below [] hb) (by simp)
theorem LC.alloc (h : C.At w own v last L) (o : Obj) : C.At (w.alloc o) own v last L := C.below h ((Below.refl _ _).alloc (Nat.le_refl _) _)

/-- a ledger of the call's own -/
def One (w0 w : World) (own : List Nat) (v last : Nat) (L : LL (List Lim)) : Prop := Below w0.heap.size w0 w ∧ C.At w own v last L ∧ ∀ x ∈ own, w0.heap.size ≤ x
variable {C} {w0 : World}
theorem One.below (h : One C w0 w own v last L) (hb : Below w.heap.size w w') : One C w0 w' own v last L := ⟨h.1.trans (hb.mono h.1.size), C.below h.2.1 hb, h.2.2⟩
theorem One.good (h : One C w0 w own v last L) : Good last L := (C.good h.2.1).1
theorem One.turn {last' : Nat} {L' : LL (List Lim)} (h : One C w0 w own v last L) (a : C.At w' own' v last' L') (k : Kept own w own' w') : One C w0 w' own' v last' L' :=
  ⟨k.1.below h.1 h.2.2 h.1.size, a, fun x hx => (k.2.1 x hx).elim (h.2.2 x) (fun h2 => Nat.le_trans h.1.size h2)⟩
/-- what lay there when the call began lies there, in blocks that stand -/
theorem One.begun (h : One C w0 w own v last L) : Stands (fun b => b < w0.heap.size) (Free own w) w0 w := fun b hb =>
  ⟨h.1.block b hb, Nat.lt_of_lt_of_le hb h.1.size, fun hc => by have := h.2.2 b hc; omega⟩

/-- two ledgers of the call's own, neither of which knows of the other -/
def Two (C : LC) (w0 w : World) (o1 o2 : List Nat) (a b l1 l2 : Nat) (p q : LL (List Lim)) : Prop :=
  Below w0.heap.size w0 w ∧ C.At w o1 a l1 p ∧ C.At w o2 b l2 q ∧ (∀ x ∈ o1, w0.heap.size ≤ x) ∧ (∀ x ∈ o2, w0.heap.size ≤ x) ∧ ∀ x ∈ o1, x ∈ o2 → Ro w x
variable {o1 o2 : List Nat} {a b l1 l2 : Nat} {p q : LL (List Lim)}
theorem Two.rot (h : Two C w0 w o1 o2 a b l1 l2 p q) : Two C w0 w o2 o1 b a l2 l1 q p := ⟨h.1, h.2.2.1, h.2.1, h.2.2.2.2.1, h.2.2.2.1, fun x hx hc => h.2.2.2.2.2 x hc hx⟩
theorem Two.below (h : Two C w0 w o1 o2 a b l1 l2 p q) (hb : Below w.heap.size w w') : Two C w0 w' o1 o2 a b l1 l2 p q :=
  ⟨h.1.trans (hb.mono h.1.size), C.below h.2.1 hb, C.below h.2.2.1 hb, h.2.2.2.1, h.2.2.2.2.1, fun x hx hc => (h.2.2.2.2.2 x hx hc).below hb⟩
/-- a copy, and what it was made of -/
theorem One.copied {o2 : List Nat} {b : Nat} (h : One C w0 w own v last L) (a : C.At w' o2 b last L) (l : ∀ x ∈ o2, (x ∈ own ∧ Ro w x) ∨ w.heap.size ≤ x) (hb : Below w.heap.size w w') : Two C w0 w' own o2 v b last last L L :=
  ⟨h.1.trans (hb.mono h.1.size), C.below h.2.1 hb, a, h.2.2, fun x hx => (l x hx).elim (fun h2 => h.2.2 x h2.1) (fun h2 => Nat.le_trans h.1.size h2), fun x hx hc => (l x hc).elim (fun h2 => h2.2.below hb) (fun h2 => by have := (C.good h.2.1).2.1 x hx; omega)⟩
theorem Two.fst (h : Two C w0 w o1 o2 a b l1 l2 p q) : One C w0 w o1 a l1 p := ⟨h.1, h.2.1, h.2.2.2.1⟩
theorem Two.snd (h : Two C w0 w o1 o2 a b l1 l2 p q) : One C w0 w o2 b l2 q := ⟨h.1, h.2.2.1, h.2.2.2.2.1⟩
/-- the first one turns -/
theorem Two.turn {o1' : List Nat} {l1' : Nat} {p' : LL (List Lim)} (h : Two C w0 w o1 o2 a b l1 l2 p q) (at' : C.At w' o1' a l1' p') (k : Kept o1 w o1' w') : Two C w0 w' o1' o2 a b l1' l2 p' q := by
  obtain ⟨h0, h1, h2, g1, g2, d⟩ := h
  refine ⟨k.1.below h0 g1 h0.size, at', C.keep h2 k.1 (fun x hx hc => k.2.2 x hc (d x hc hx)), fun x hx => (k.2.1 x hx).elim (g1 x) (fun h => Nat.le_trans h0.size h), g2, fun x hx hc => ?_⟩
  rcases k.2.1 x hx with h | h
  · exact (d x h hc).of (k.2.2 x h (d x h hc))
  · have := (C.good h2).2.1 x hc; omega
/-- what is free of both stays free of both, as the first one turns -/
theorem Two.stands {o1' : List Nat} (h : Two C w0 w o1 o2 a b l1 l2 p q) (k : Kept o1 w o1' w') : Stands (Free (o1 ++ o2) w) (Free (o1' ++ o2) w') w w' := fun x hx => by
  have h1 : Free o1 w x := ⟨hx.1, fun hc => hx.2 (List.mem_append.2 (.inl hc))⟩
  obtain ⟨e, f1, f2⟩ := h1.kept k
  exact ⟨e, f1, fun hc => (List.mem_append.1 hc).elim f2 (fun hc => hx.2 (List.mem_append.2 (.inr hc)))⟩
/-- what the first one hands out is free of both -/
theorem Two.out {o1' : List Nat} {x : Nat} (h : Two C w0 w o1 o2 a b l1 l2 p q) (k : Out o1 o1' w w' x) : Free (o1' ++ o2) w' x := ⟨k.1.1, fun hc => (List.mem_append.1 hc).elim k.1.2 (fun hc => k.2.elim (fun h3 => by cases h3) (fun h3 => by have := (C.good h.2.2.1).2.1 x hc; omega))⟩
theorem Two.out0 {x : Nat} (h : Two C w0 w o1 o2 a b l1 l2 p q) (k : Out [] o1 w w' x) : Free (o1 ++ o2) w' x := ⟨k.1.1, fun hc => (List.mem_append.1 hc).elim k.1.2 (fun hc => k.2.elim (fun h3 => by cases h3) (fun h3 => by have := (C.good h.2.2.1).2.1 x hc; omega))⟩
theorem Two.begun (h : Two C w0 w o1 o2 a b l1 l2 p q) : Stands (fun b => b < w0.heap.size) (Free (o1 ++ o2) w) w0 w := fun b hb =>
  ⟨h.1.block b hb, Nat.lt_of_lt_of_le hb h.1.size, fun hc => (List.mem_append.1 hc).elim (fun hc => by have := h.2.2.2.1 b hc; omega) (fun hc => by have := h.2.2.2.2.1 b hc; omega)⟩
end Go.Proofs.Ytplinlgafgfepaa.Ld
