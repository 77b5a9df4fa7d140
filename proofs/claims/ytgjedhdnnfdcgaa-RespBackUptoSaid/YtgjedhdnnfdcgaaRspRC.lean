/-
  What the program's own calls owe: a bundle of contracts of a reader of bytes; what the laws share.
-/
import Derived.Test.YtgjedhdnnfdcgaaRspWhole
import Derived.Test.YtgjedhdnnfdcgaaRspRfC
namespace Go.Proofs.Ytgjedhdnnfdcgaa.Rp
open Go.RowKit

/-- blocks that stand: they are there, and are no reader's -/
def Free (own : List Nat) (w : World) (b : Nat) : Prop := b < w.heap.size ∧ b ∉ own
theorem Free.kept {own own' : List Nat} {w w' : World} {b : Nat} (h : Free own w b) (k : Kept own w own' w') : w'.heap[b]? = w.heap[b]? ∧ Free own' w' b :=
  ⟨k.1.block b h.1 h.2, Nat.lt_of_lt_of_le h.1 k.1.size, fun hc => (k.2 b hc).elim h.2 (fun h2 => by have := h.1; omega)⟩
theorem Free.below {own : List Nat} {w w' : World} {b : Nat} (h : Free own w b) (k : Below w.heap.size w w') : w'.heap[b]? = w.heap[b]? ∧ Free own w' b :=
  ⟨k.block b h.1, Nat.lt_of_lt_of_le h.1 k.size, h.2⟩
/-- what stands by S stands in another world by T -/
def Stands (S T : Nat → Prop) (w w' : World) : Prop := ∀ b, S b → w'.heap[b]? = w.heap[b]? ∧ T b
theorem Stands.trans {S T U : Nat → Prop} {a b c : World} (h : Stands S T a b) (k : Stands T U b c) : Stands S U a c := fun x hx => ⟨(k x (h x hx).2).1.trans (h x hx).1, (k x (h x hx).2).2⟩
theorem kept_stands {own own' : List Nat} {w w' : World} (k : Kept own w own' w') : Stands (Free own w) (Free own' w') w w' := fun _ h => h.kept k
theorem below_stands {own : List Nat} {w w' : World} (k : Below w.heap.size w w') : Stands (Free own w) (Free own w') w w' := fun _ h => h.below k
theorem Stands.cell {S T : Nat → Prop} {w w' : World} (k : Stands S T w w') {a : Addr} (h : S a.block) : w'.cell? a = w.cell? a := by
  unfold World.cell?
  rw [(k _ h).1]
theorem add_blk (a : Addr) (n : Nat) : (a.add n).block = a.block := by unfold Addr.add; split <;> rfl

/-- bytes among the arguments: they lie there, in blocks that stand -/
structure BS (S : Nat → Prop) (w : World) (A : Option Addr) (cap : Nat) (l : Bytes) : Prop where
  bts : Bts w A l
  le : l.length ≤ cap
  nil : A = none → cap = 0
  fr : ∀ a, A = some a → l ≠ [] → S a.block
theorem BS.goes {S T : Nat → Prop} {w w' : World} {A : Option Addr} {cap : Nat} {l : Bytes} (h : BS S w A cap l) (k : Stands S T w w') : BS T w' A cap l where
  bts := fun i hi => by
    obtain ⟨a, e, hc⟩ := h.bts i hi
    have hs := h.fr a e (fun e2 => by rw [e2] at hi; simp at hi)
    exact ⟨a, e, by rw [k.cell (by rw [add_blk]; exact hs)]; exact hc⟩
  le := h.le
  nil := h.nil
  fr := fun a e hl => (k _ (h.fr a e hl)).2

/-- commands that are handed out: each one's slice lies in a block of its own that may be written -/
structure Handed (S : Nat → Prop) (w : World) (A : Option Addr) (L : List Cm) : Prop where
  row : ∀ i (h : i < L.length), ∃ a : Addr, A = some a ∧ S a.block ∧ w.cell? (a.add i) = some (Cm.v L[i]) ∧ ∃ (cur : Array Value) (fz : Nat × Nat), w.heap[a.block]? = some (.cells cur 36 fz)
  one : ∀ i (h : i < L.length), ∃ (g : Nat) (cur : Array Value), L[i].2.1 = some ⟨g, 0, none⟩ ∧ S g ∧ w.heap[g]? = some (.cells cur 9 (0, 0)) ∧ Texts w L[i].2.1 (L[i].1.map bat)
  cap : ∀ i (h : i < L.length), L[i].1.length ≤ L[i].2.2
  ne : ∀ i j (hi : i < L.length) (hj : j < L.length) a b, i ≠ j → L[i].2.1 = some a → L[j].2.1 = some b → a.block ≠ b.block
theorem texts_goes {S T : Nat → Prop} {w w' : World} {A : Option Addr} {ps : List ByteArray} (h : Texts w A ps) (k : Stands S T w w') (hs : ∀ a, A = some a → S a.block) : Texts w' A ps := fun i hi => by
  obtain ⟨a, e, hc⟩ := h i hi
  exact ⟨a, e, by rw [k.cell (by rw [add_blk]; exact hs a e)]; exact hc⟩
theorem Handed.goes {S T : Nat → Prop} {w w' : World} {A : Option Addr} {L : List Cm} (h : Handed S w A L) (k : Stands S T w w') : Handed T w' A L where
  row := fun i hi => by
    obtain ⟨a, e, hs, hc, hh⟩ := h.row i hi
    exact ⟨a, e, (k _ hs).2, by rw [k.cell (by rw [add_blk]; exact hs)]; exact hc, by rw [(k _ hs).1]; exact hh⟩
  one := fun i hi => by
    obtain ⟨a, cur, e, hs, hb, ht⟩ := h.one i hi
    exact ⟨a, cur, e, (k _ hs).2, by rw [(k _ hs).1]; exact hb, texts_goes ht k (fun a' e' => by rw [e] at e'; injection e' with e'; rw [← e']; exact hs)⟩
  cap := h.cap
  ne := h.ne
theorem Handed.mono {S T : Nat → Prop} {w : World} {A : Option Addr} {L : List Cm} (h : Handed S w A L) (k : ∀ b, S b → T b) : Handed T w A L := h.goes fun b hb => ⟨rfl, k b hb⟩
theorem Handed.rows {S : Nat → Prop} {w : World} {A : Option Addr} {L : List Cm} (h : Handed S w A L) : Rows w A (L.map (·.1)) := fun i hi => by
  have hi' : i < L.length := by simpa using hi
  obtain ⟨a, e, _, hc, _⟩ := h.row i hi'
  obtain ⟨a2, _, e2, _, _, ht⟩ := h.one i hi'
  refine ⟨a, e, L[i].2.1, L[i].2.2, ?_, ?_, ?_, ?_⟩
  · rw [hc]; simp [Cm.v]
  · simpa using ht
  · simpa using h.cap i hi'
  · intro e3; rw [e2] at e3; cases e3

/-- blocks of what is handed out: they stand, and were the reader's own, or are new -/
def Out (own own' : List Nat) (w w' : World) (b : Nat) : Prop := Free own' w' b ∧ (b ∈ own ∨ w.heap.size ≤ b)
theorem Out.free {own own' : List Nat} {w w' : World} {b : Nat} (h : Out own own' w w' b) : Free own' w' b := h.1

/-- the commands that come by more bytes -/
def news (bs b : Bytes) : List (List Bytes) := (run (run .star bs).1 b).2
theorem cmds_news (bs b : Bytes) : cmds (bs ++ b) = cmds bs ++ news bs b := cmds_append bs b
def errI (b : Bytes) : Int := if wrong b then 7 else 0
def leftI (b : Bytes) : Nat := if wrong b then 0 else b.length - used b

structure RC where
  At : World → List Nat → Nat → Bytes → Prop
  keep : ∀ {w w' : World} {own o2 : List Nat} {v : Nat} {bs : Bytes}, At w own v bs → Only o2 w w' → (∀ x ∈ own, x ∉ o2) → At w' own v bs
  good : ∀ {w : World} {own : List Nat} {v : Nat} {bs : Bytes}, At w own v bs → ∀ x ∈ own, x < w.heap.size
  new_ : ∀ (w : World),
    Calls Try.prog 11 #[] w fun e w' => ∃ v own, e = .returned (.pointer (some ⟨v, 0, none⟩)) ∧ At w' own v [] ∧ Below w.heap.size w w' ∧ ∀ x ∈ own, w.heap.size ≤ x
  feed_ : ∀ {w : World} {own : List Nat} {v : Nat} {bs : Bytes}, At w own v bs → ∀ (A : Option Addr) (cap : Nat) (b : Bytes), BS (Free own w) w A cap b → bs.length + b.length ≤ 1048576 →
    Calls Try.prog 12 #[.pointer (some ⟨v, 0, none⟩), .slice A b.length cap] w fun e w' => ∃ own' A' c L, e = .returned (.tuple #[.slice A' L.length c, .int .i64 (errI (bs ++ b))]) ∧ (A' = none → c = 0) ∧ L.map (·.1) = news bs b ∧ Handed (Out own own' w w') w' A' L ∧ At w' own' v (bs ++ b) ∧ Kept own w own' w'
  left_ : ∀ {w : World} {own : List Nat} {v : Nat} {bs : Bytes}, At w own v bs → bs.length ≤ 1048576 →
    Calls Try.prog 16 #[.pointer (some ⟨v, 0, none⟩)] w fun e w' => e = .returned (.int .i64 (leftI bs : Nat)) ∧ Below w.heap.size w w'
  wrong_ : ∀ {w : World} {own : List Nat} {v : Nat} {bs : Bytes}, At w own v bs → bs.length ≤ 1048576 →
    Calls Try.prog 15 #[.pointer (some ⟨v, 0, none⟩)] w fun e w' => e = .returned (.bool (wrong bs)) ∧ Below w.heap.size w w'
  whole_ : ∀ (A : Option Addr) (cap : Nat) (b : Bytes) (w : World), Bts w A b → b.length ≤ cap → (A = none → cap = 0) → b.length ≤ 1048576 →
    Calls Try.prog 19 #[.slice A b.length cap] w fun e w' => ∃ A' c, e = .returned (.tuple #[.slice A' (cmds b).length c, .int .i64 (used b : Nat), .int .i64 (errI b)]) ∧ (cmds b).length ≤ c ∧ Rows w' A' (cmds b) ∧ Below w.heap.size w w'
  command_ : ∀ (A : Option Addr) (cap : Nat) (l : List Bytes) (w : World), Texts w A (l.map bat) → l.length ≤ cap → (A = none → cap = 0) → longA l ≤ 1048576 →
    Calls Try.prog 22 #[.slice A l.length cap] w fun e w' => ∃ A' c, e = .returned (.slice A' (enc l).length c) ∧ Bts w' A' (enc l) ∧ Below w.heap.size w w'
  may_ : ∀ (A : Option Addr) (cap : Nat) (l : List Bytes) (w : World), Texts w A (l.map bat) → l.length ≤ cap → (A = none → cap = 0) → longA l ≤ 1048576 →
    Calls Try.prog 24 #[.slice A l.length cap] w fun e w' => e = .returned (.bool (mayB l)) ∧ Below w.heap.size w w'
  feedNil : ∀ (w : World),
    Calls Try.prog 12 #[.pointer none, .slice none 0 0] w fun e w' => ∃ A c, e = .returned (.tuple #[.slice A 0 c, .int .i64 1]) ∧ Below w.heap.size w w'

variable (C : RC) {w w' : World} {own own' : List Nat} {v : Nat} {bs : Bytes}
theorem RC.below (h : C.At w own v bs) (hb : Below w.heap.size w w') : C.At w' own v bs := C.keep h (Only.of_below [] hb) (by simp)

/-- a reader of the call's own -/
def One (w0 w : World) (own : List Nat) (v : Nat) (bs : Bytes) : Prop := Below w0.heap.size w0 w ∧ C.At w own v bs ∧ ∀ x ∈ own, w0.heap.size ≤ x
variable {C} {w0 : World}
theorem One.below (h : One C w0 w own v bs) (hb : Below w.heap.size w w') : One C w0 w' own v bs := ⟨h.1.trans (hb.mono h.1.size), C.below h.2.1 hb, h.2.2⟩
theorem One.alloc (h : One C w0 w own v bs) (o : Obj) : One C w0 (w.alloc o) own v bs := h.below ((Below.refl _ _).alloc (Nat.le_refl _) _)
theorem One.turn {bs' : Bytes} (h : One C w0 w own v bs) (a : C.At w' own' v bs') (k : Kept own w own' w') : One C w0 w' own' v bs' :=
  ⟨k.1.below h.1 h.2.2 h.1.size, a, fun x hx => (k.2 x hx).elim (h.2.2 x) (fun h2 => Nat.le_trans h.1.size h2)⟩
/-- what lay there when the call began lies there, in blocks that stand -/
theorem One.begun (h : One C w0 w own v bs) : Stands (fun b => b < w0.heap.size) (Free own w) w0 w := fun b hb =>
  ⟨h.1.block b hb, Nat.lt_of_lt_of_le hb h.1.size, fun hc => by have := h.2.2 b hc; omega⟩
/-- a block that is not the reader's is written -/
theorem One.put (h : One C w0 w own v bs) {b : Nat} (hf : Free own w b) (hb : w0.heap.size ≤ b) (j : Nat) (u : Value) : One C w0 (w.setCell ⟨b, j, none⟩ u) own v bs :=
  ⟨h.1.setCell hb u, C.keep h.2.1 ((Only.refl [b] w).set (p := ⟨b, j, none⟩) (by simp) u) (fun x hx hc => hf.2 (by rw [List.mem_singleton] at hc; rw [← hc]; exact hx)), h.2.2⟩
end Go.Proofs.Ytgjedhdnnfdcgaa.Rp
