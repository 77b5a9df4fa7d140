/-
  What the program's own calls owe: a bundle of contracts over a list of keys, numbers and ends.
-/
import Derived.Test.YtekjohgnfplfjaaVarMath
namespace Go.Proofs.Ytekjohgnfplfjaa.Va
open Go.RowKit

abbrev I64 (x : Int) : Prop := -9223372036854775808 ≤ x ∧ x < 9223372036854775808

structure VC where
  At : World → List Nat → Nat → Nat → VL → Prop
  keep : ∀ {w w' : World} {own o2 : List Nat} {v room : Nat} {L : VL}, At w own v room L → Only o2 w w' → (∀ x ∈ own, x ∉ o2) → At w' own v room L
  good : ∀ {w : World} {own : List Nat} {v room : Nat} {L : VL}, At w own v room L → Good room L ∧ (∀ x ∈ own, x < w.heap.size) ∧ ∀ x ∈ L, x.1.size ≤ maxLen ∧ I64 x.2.1 ∧ I64 x.2.2
  new_ : ∀ (room : Int) (w : World), I64 room →
    Calls Try.prog 7 #[.int .i64 room] w fun e w' => ∃ v own, e = .returned (.pointer (some ⟨v, 0, none⟩)) ∧ At w' own v (clipR room) [] ∧ Below w.heap.size w w' ∧ ∀ x ∈ own, w.heap.size ≤ x
  get_ : ∀ {w : World} {own : List Nat} {v room : Nat} {L : VL}, At w own v room L → ∀ (key : ByteArray) (now : Int), key.size ≤ maxLen → I64 now →
    Calls Try.prog 10 #[.pointer (some ⟨v, 0, none⟩), .string key, .int .i64 now] w fun e w' => e = .returned (.tuple #[.int .i64 (getv L key now), .bool (has L key now)]) ∧ Below w.heap.size w w'
  left_ : ∀ {w : World} {own : List Nat} {v room : Nat} {L : VL}, At w own v room L → ∀ (key : ByteArray) (now : Int), key.size ≤ maxLen → I64 now →
    Calls Try.prog 11 #[.pointer (some ⟨v, 0, none⟩), .string key, .int .i64 now] w fun e w' => e = .returned (.tuple #[.int .i64 (left L key now), .bool (has L key now)]) ∧ Below w.heap.size w w'
  len_ : ∀ {w : World} {own : List Nat} {v room : Nat} {L : VL}, At w own v room L → ∀ (now : Int), I64 now →
    Calls Try.prog 12 #[.pointer (some ⟨v, 0, none⟩), .int .i64 now] w fun e w' => e = .returned (.int .i64 ((live L now).length : Nat)) ∧ Below w.heap.size w w'
  keys_ : ∀ {w : World} {own : List Nat} {v room : Nat} {L : VL}, At w own v room L → ∀ (now : Int), I64 now →
    Calls Try.prog 17 #[.pointer (some ⟨v, 0, none⟩), .int .i64 now] w fun e w' => ∃ A cap, e = .returned (.slice A (live L now).length cap) ∧ SRow w' w.heap.size (.slice A (live L now).length cap) ((live L now).map (·.1)) ∧ Below w.heap.size w w'
  set_ : ∀ {w : World} {own : List Nat} {v room : Nat} {L : VL}, At w own v room L → ∀ (key : ByteArray) (n now : Int), key.size ≤ maxLen → I64 n → I64 now →
    Calls Try.prog 8 #[.pointer (some ⟨v, 0, none⟩), .string key, .int .i64 n, .int .i64 now] w fun e w' => ∃ own', e = .returned (.int .i64 (set room L key n now).2) ∧ At w' own' v room (set room L key n now).1 ∧ Kept own w own' w'
  add_ : ∀ {w : World} {own : List Nat} {v room : Nat} {L : VL}, At w own v room L → ∀ (key : ByteArray) (n now : Int), key.size ≤ maxLen → I64 n → I64 now →
    Calls Try.prog 14 #[.pointer (some ⟨v, 0, none⟩), .string key, .int .i64 n, .int .i64 now] w fun e w' => ∃ own', e = .returned (.tuple #[.int .i64 (add room L key n now).2.1, .int .i64 (add room L key n now).2.2]) ∧ At w' own' v room (add room L key n now).1 ∧ Kept own w own' w'
  del_ : ∀ {w : World} {own : List Nat} {v room : Nat} {L : VL}, At w own v room L → ∀ (key : ByteArray) (now : Int), key.size ≤ maxLen → I64 now →
    Calls Try.prog 15 #[.pointer (some ⟨v, 0, none⟩), .string key, .int .i64 now] w fun e w' => ∃ own', e = .returned (.bool (has L key now)) ∧ At w' own' v room (del L key now) ∧ Kept own w own' w'
  exp_ : ∀ {w : World} {own : List Nat} {v room : Nat} {L : VL}, At w own v room L → ∀ (key : ByteArray) (last now : Int), key.size ≤ maxLen → I64 last → I64 now →
    Calls Try.prog 9 #[.pointer (some ⟨v, 0, none⟩), .string key, .int .i64 last, .int .i64 now] w fun e w' => ∃ own', e = .returned (.bool (has L key now)) ∧ At w' own' v room (exp L key last now) ∧ Kept own w own' w'
  setNil : ∀ (key : ByteArray) (n now : Int) (w : World),
    Calls Try.prog 8 #[.pointer none, .string key, .int .i64 n, .int .i64 now] w fun e w' => e = .returned (.int .i64 1) ∧ Below w.heap.size w w'

variable (C : VC) {w w' : World} {own : List Nat} {v room : Nat} {L : VL}
theorem VC.below (h : C.At w own v room L) (hb : Below w.heap.size w w') : C.At w' own v room L := C.keep h (Only.of_below [] hb) (by simp)
theorem VC.alloc (h : C.At w own v room L) (o : Obj) : C.At (w.alloc o) own v room L := C.below h ((Below.refl _ _).alloc (Nat.le_refl _) _)
theorem VC.drewN (h : C.At w own v room L) (n : Nat) : C.At (w.drewN n) own v room L := C.below h (below_drewN (Below.refl _ _) n)

/-- numbers that the call has made: w0 the world when it began -/
def Mine (w0 w : World) (v room : Nat) (L : VL) : Prop := Below w0.heap.size w0 w ∧ ∃ own, C.At w own v room L ∧ ∀ x ∈ own, w0.heap.size ≤ x
variable {C} {w0 : World}
theorem Mine.below (h : Mine C w0 w v room L) (hb : Below w.heap.size w w') : Mine C w0 w' v room L := by
  obtain ⟨h1, own, h2, h3⟩ := h
  exact ⟨h1.trans (hb.mono h1.size), own, C.below h2 hb, h3⟩
theorem Mine.alloc (h : Mine C w0 w v room L) (o : Obj) : Mine C w0 (w.alloc o) v room L := h.below ((Below.refl _ _).alloc (Nat.le_refl _) _)
theorem Mine.drewN (h : Mine C w0 w v room L) (n : Nat) : Mine C w0 (w.drewN n) v room L := h.below (below_drewN (Below.refl _ _) n)
theorem Mine.good (h : Mine C w0 w v room L) : Good room L := by obtain ⟨_, own, h2, _⟩ := h; exact (C.good h2).1
theorem Mine.fits (h : Mine C w0 w v room L) : ∀ x ∈ L, x.1.size ≤ maxLen ∧ I64 x.2.1 ∧ I64 x.2.2 := by obtain ⟨_, own, h2, _⟩ := h; exact (C.good h2).2.2
theorem mNew (r : Int) (hr : I64 r) (hb : Below w0.heap.size w0 w) :
    Calls Try.prog 7 #[.int .i64 r] w fun e w' => ∃ v, e = .returned (.pointer (some ⟨v, 0, none⟩)) ∧ Mine C w0 w' v (clipR r) [] :=
  (C.new_ r w hr).mono fun _ _ ⟨v, own, he, h1, h2, h3⟩ => ⟨v, he, ⟨hb.trans (h2.mono hb.size), own, h1, fun x hx => Nat.le_trans hb.size (h3 x hx)⟩⟩
theorem mGet (h : Mine C w0 w v room L) (key : ByteArray) (now : Int) (hk : key.size ≤ maxLen) (hn : I64 now) :
    Calls Try.prog 10 #[.pointer (some ⟨v, 0, none⟩), .string key, .int .i64 now] w fun e w' => e = .returned (.tuple #[.int .i64 (getv L key now), .bool (has L key now)]) ∧ Mine C w0 w' v room L ∧ Below w.heap.size w w' := by
  obtain ⟨h1, own, h2, h3⟩ := h
  exact (C.get_ h2 key now hk hn).mono fun _ _ ⟨he, hb⟩ => ⟨he, Mine.below ⟨h1, own, h2, h3⟩ hb, hb⟩
theorem mLeft (h : Mine C w0 w v room L) (key : ByteArray) (now : Int) (hk : key.size ≤ maxLen) (hn : I64 now) :
    Calls Try.prog 11 #[.pointer (some ⟨v, 0, none⟩), .string key, .int .i64 now] w fun e w' => e = .returned (.tuple #[.int .i64 (left L key now), .bool (has L key now)]) ∧ Mine C w0 w' v room L ∧ Below w.heap.size w w' := by
  obtain ⟨h1, own, h2, h3⟩ := h
  exact (C.left_ h2 key now hk hn).mono fun _ _ ⟨he, hb⟩ => ⟨he, Mine.below ⟨h1, own, h2, h3⟩ hb, hb⟩
theorem mLen (h : Mine C w0 w v room L) (now : Int) (hn : I64 now) :
    Calls Try.prog 12 #[.pointer (some ⟨v, 0, none⟩), .int .i64 now] w fun e w' => e = .returned (.int .i64 ((live L now).length : Nat)) ∧ Mine C w0 w' v room L ∧ Below w.heap.size w w' := by
  obtain ⟨h1, own, h2, h3⟩ := h
  exact (C.len_ h2 now hn).mono fun _ _ ⟨he, hb⟩ => ⟨he, Mine.below ⟨h1, own, h2, h3⟩ hb, hb⟩
theorem mKeys (h : Mine C w0 w v room L) (now : Int) (hn : I64 now) :
    Calls Try.prog 17 #[.pointer (some ⟨v, 0, none⟩), .int .i64 now] w fun e w' => ∃ A cap, e = .returned (.slice A (live L now).length cap) ∧ SRow w' w.heap.size (.slice A (live L now).length cap) ((live L now).map (·.1)) ∧ Mine C w0 w' v room L ∧ Below w.heap.size w w' := by
  obtain ⟨h1, own, h2, h3⟩ := h
  exact (C.keys_ h2 now hn).mono fun _ _ ⟨A, cap, he, hr, hb⟩ => ⟨A, cap, he, hr, Mine.below ⟨h1, own, h2, h3⟩ hb, hb⟩
theorem Mine.turn (h : Below w0.heap.size w0 w) (h3 : ∀ x ∈ own, w0.heap.size ≤ x) {own' : List Nat} {L' : VL} (a : C.At w' own' v room L') (b : Kept own w own' w') : Mine C w0 w' v room L' :=
  ⟨b.1.below h h3 h.size, own', a, fun x hx => (b.2 x hx).elim (h3 x) (fun h2 => Nat.le_trans h.size h2)⟩
theorem mSet (h : Mine C w0 w v room L) (key : ByteArray) (n now : Int) (hk : key.size ≤ maxLen) (hn : I64 n) (ht : I64 now) :
    Calls Try.prog 8 #[.pointer (some ⟨v, 0, none⟩), .string key, .int .i64 n, .int .i64 now] w fun e w' => e = .returned (.int .i64 (set room L key n now).2) ∧ Mine C w0 w' v room (set room L key n now).1 := by
  obtain ⟨h1, own, h2, h3⟩ := h
  exact (C.set_ h2 key n now hk hn ht).mono fun _ _ ⟨own', he, a, b⟩ => ⟨he, Mine.turn h1 h3 a b⟩
theorem mAdd (h : Mine C w0 w v room L) (key : ByteArray) (n now : Int) (hk : key.size ≤ maxLen) (hn : I64 n) (ht : I64 now) :
    Calls Try.prog 14 #[.pointer (some ⟨v, 0, none⟩), .string key, .int .i64 n, .int .i64 now] w fun e w' => e = .returned (.tuple #[.int .i64 (add room L key n now).2.1, .int .i64 (add room L key n now).2.2]) ∧ Mine C w0 w' v room (add room L key n now).1 := by
  obtain ⟨h1, own, h2, h3⟩ := h
  exact (C.add_ h2 key n now hk hn ht).mono fun _ _ ⟨own', he, a, b⟩ => ⟨he, Mine.turn h1 h3 a b⟩
theorem mDel (h : Mine C w0 w v room L) (key : ByteArray) (now : Int) (hk : key.size ≤ maxLen) (ht : I64 now) :
    Calls Try.prog 15 #[.pointer (some ⟨v, 0, none⟩), .string key, .int .i64 now] w fun e w' => e = .returned (.bool (has L key now)) ∧ Mine C w0 w' v room (del L key now) := by
  obtain ⟨h1, own, h2, h3⟩ := h
  exact (C.del_ h2 key now hk ht).mono fun _ _ ⟨own', he, a, b⟩ => ⟨he, Mine.turn h1 h3 a b⟩
theorem mExp (h : Mine C w0 w v room L) (key : ByteArray) (last now : Int) (hk : key.size ≤ maxLen) (hn : I64 last) (ht : I64 now) :
    Calls Try.prog 9 #[.pointer (some ⟨v, 0, none⟩), .string key, .int .i64 last, .int .i64 now] w fun e w' => e = .returned (.bool (has L key now)) ∧ Mine C w0 w' v room (exp L key last now) := by
  obtain ⟨h1, own, h2, h3⟩ := h
  exact (C.exp_ h2 key last now hk hn ht).mono fun _ _ ⟨own', he, a, b⟩ => ⟨he, Mine.turn h1 h3 a b⟩
end Go.Proofs.Ytekjohgnfplfjaa.Va
