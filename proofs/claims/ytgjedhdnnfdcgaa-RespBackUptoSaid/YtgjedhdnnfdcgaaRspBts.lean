/-
  Towards what the document's own 'begin' (of a command's line) answers: rows of bytes in memory, its digits.
-/
import Derived.Test.YtgjedhdnnfdcgaaRspRef
import Derived.Test.YtgjedhdnnfdcgaaDigRef
import Derived.Test.YtgjedhdnnfdcgaaOwn
import Derived.Deep.Slices
import Derived.Deep.Draws
import Derived.Deep.QuietTactic
import Derived.BigQuiet
import Derived.Deep.DeepCutAuto
namespace Go.Proofs.Ytgjedhdnnfdcgaa.Rp
open Go.RowKit
open Dg (isD dec txt)

theorem keep2 {w w' : World} (hb : Below w.heap.size w w') {a : Addr} {v : Value} (h : w.cell? a = some v) : w'.cell? a = some v := by
  rw [hb.cell (World.block_lt_of_cell? w _ h)]; exact h
/-- a slice's address reads as bytes -/
def Bts (w : World) (A : Option Addr) (l : Bytes) : Prop := ∀ i (h : i < l.length), ∃ a : Addr, A = some a ∧ w.cell? (a.add i) = some (.int .u8 (l[i].toNat : Int))
theorem Bts.at_ {w : World} {A : Option Addr} {l : Bytes} (h : Bts w A l) {i : Nat} (hi : i < l.length) : ∃ a : Addr, A = some a ∧ w.cell? (a.add i) = some (.int .u8 (l[i].toNat : Int)) := h i hi
theorem Bts.keep {w w' : World} {A : Option Addr} {l : Bytes} (h : Bts w A l) (hb : Below w.heap.size w w') : Bts w' A l := fun i hi => by
  obtain ⟨a, e, hc⟩ := h i hi
  exact ⟨a, e, keep2 hb hc⟩

/-- what 'begin' tells: how long, and the number -/
def lnR : Ln → Int × Int
  | .short => (0, 0)
  | .wrong => (-1, 0)
  | .ok k n => ((k + 1 : Nat), (n : Nat))
def begR (sign : UInt8) (lo hi : Nat) : Bytes → Int × Int
  | [] => (0, 0)
  | c :: t => if c ≠ sign then (-1, 0) else lnR (tailR lo hi t)
theorem begR_sign {sign : UInt8} {lo hi : Nat} {l t : Bytes} (h : l = sign :: t) {x : Ln} (hx : tailR lo hi t = x) : begR sign lo hi l = lnR x := by
  subst h hx
  show (if sign ≠ sign then _ else _) = _
  rw [if_neg (by simp)]
theorem addS (a : Addr) (n : Nat) : a.add (n + 1) = { block := a.block, off := a.off + (n + 1), spot := none } := if_neg (by omega)
theorem takeWhile_all {p : UInt8 → Bool} {l : Bytes} (h : ∀ c ∈ l, p c = true) : l.takeWhile p = l := by
  induction l with
  | nil => rfl
  | cons c l ih => rw [List.takeWhile_cons_of_pos (h c (by simp)), ih (fun x hx => h x (by simp [hx]))]
theorem digs_take {t : Bytes} {j : Nat} (hj : j ≤ 5) (hall : ∀ c ∈ t.take j, isD c = true) (hjt : j ≤ t.length) (hend : j = 5 ∨ j = t.length ∨ ∃ (h : j < t.length), isD t[j] = false) : digs t = t.take j := by
  unfold digs
  rcases hend with rfl | rfl | ⟨h, hd⟩
  · rw [takeWhile_all hall]
  · rw [List.take_of_length_le hj]
    rw [List.take_length] at hall
    rw [takeWhile_all hall, List.take_length]
  · by_cases h5 : j = 5
    · subst h5; rw [takeWhile_all hall]
    · have e : t.take 5 = t.take j ++ t[j] :: (t.take 5).drop (j + 1) := by
        have h1 : t.take 5 = (t.take 5).take j ++ (t.take 5).drop j := (List.take_append_drop j _).symm
        rw [List.take_take, Nat.min_eq_left hj] at h1
        have h2 : j < (t.take 5).length := by rw [List.length_take]; omega
        rw [List.drop_eq_getElem_cons h2] at h1
        have h3 : (t.take 5)[j] = t[j] := by simp
        rw [h3] at h1
        exact h1
      rw [e, List.takeWhile_append_of_pos hall, List.takeWhile_cons_of_neg (by rw [hd]; simp)]
      simp

section Ends
variable {lo hi j : Nat} {t : Bytes} (hD : digs t = t.take j) (hj : j ≤ t.length)
include hD hj
theorem tail_nil_short (hd : t.drop j = []) (hv : j = 0 ∨ valid lo hi (t.take j) = true) : tailR lo hi t = .short := by
  have hl : (digs t).length = j := by rw [hD, List.length_take, Nat.min_eq_left hj]
  unfold tailR
  rw [hl, hD]
  exact if_pos ⟨hd, hv.imp (fun h => by rw [h]; rfl) id⟩
theorem tail_nil_wrong (hd : t.drop j = []) (h0 : j ≠ 0) (hv : valid lo hi (t.take j) = false) : tailR lo hi t = .wrong := by
  have hl : (digs t).length = j := by rw [hD, List.length_take, Nat.min_eq_left hj]
  unfold tailR
  rw [hl, hD, if_neg, if_pos hv]
  rintro ⟨_, h | h⟩
  · have := congrArg List.length h
    rw [List.length_take, Nat.min_eq_left hj] at this
    exact h0 this
  · rw [hv] at h; cases h
theorem tail_wrong {c : UInt8} {r : Bytes} (hd : t.drop j = c :: r) (hv : valid lo hi (t.take j) = false) : tailR lo hi t = .wrong := by
  have hl : (digs t).length = j := by rw [hD, List.length_take, Nat.min_eq_left hj]
  unfold tailR
  rw [hl, hD, if_neg (by rw [hd]; simp), if_pos hv]
theorem tail_no_cr {c : UInt8} {r : Bytes} (hd : t.drop j = c :: r) (hv : valid lo hi (t.take j) = true) (hc : c ≠ 13) : tailR lo hi t = .wrong := by
  have hl : (digs t).length = j := by rw [hD, List.length_take, Nat.min_eq_left hj]
  unfold tailR
  rw [hl, hD, if_neg (by rw [hd]; simp), if_neg (by rw [hv]; simp), hd]
  exact if_pos hc
theorem tail_cr_end (hd : t.drop j = [13]) (hv : valid lo hi (t.take j) = true) : tailR lo hi t = .short := by
  have hl : (digs t).length = j := by rw [hD, List.length_take, Nat.min_eq_left hj]
  unfold tailR
  rw [hl, hD, if_neg (by rw [hd]; simp), if_neg (by rw [hv]; simp), hd]
  rfl
theorem tail_no_lf {d : UInt8} {r : Bytes} (hd : t.drop j = 13 :: d :: r) (hv : valid lo hi (t.take j) = true) (h : d ≠ 10) : tailR lo hi t = .wrong := by
  have hl : (digs t).length = j := by rw [hD, List.length_take, Nat.min_eq_left hj]
  unfold tailR
  rw [hl, hD, if_neg (by rw [hd]; simp), if_neg (by rw [hv]; simp), hd]
  show (if d ≠ 10 then _ else _) = _
  rw [if_pos h]
theorem tail_ok {r : Bytes} (hd : t.drop j = 13 :: 10 :: r) (hv : valid lo hi (t.take j) = true) : tailR lo hi t = .ok (j + 2) (valN (t.take j)) := by
  have hl : (digs t).length = j := by rw [hD, List.length_take, Nat.min_eq_left hj]
  unfold tailR
  rw [hl, hD, if_neg (by rw [hd]; simp), if_neg (by rw [hv]; simp), hd]
  rfl
end Ends
theorem valid_false_of {lo hi : Nat} {ds : Bytes} (h : ds = [] ∨ valN ds < lo ∨ hi < valN ds) : valid lo hi ds = false := by
  rcases h with h | h | h
  · subst h; exact valid_nil
  · cases hv : valid lo hi ds with
    | false => rfl
    | true => obtain ⟨_, h1, _⟩ := dec_valN hv; omega
  · cases hv : valid lo hi ds with
    | false => rfl
    | true => obtain ⟨_, _, h1⟩ := dec_valN hv; omega
theorem valid_text {lo hi : Nat} {ds : Bytes} (h1 : lo ≤ valN ds) (h2 : valN ds ≤ hi) : valid lo hi ds = decide (dec (valN ds) = ds) := by
  unfold valid
  simp [h1, h2]
theorem txt_nat (n : Nat) : txt (n : Int) = dec n := by
  unfold Dg.txt
  rw [if_neg (by omega)]
  rfl
theorem drop_at {l : Bytes} {at0 j : Nat} (h : at0 + 1 + j < l.length) : (l.drop (at0 + 1))[j]'(by rw [List.length_drop]; omega) = l[at0 + 1 + j] := by simp
theorem valN_take {t : Bytes} {j : Nat} (h : j < t.length) : valN (t.take (j + 1)) = 10 * valN (t.take j) + (t[j].toNat - 48) := by
  rw [List.take_succ_eq_append_getElem h, valN_snoc]
theorem valN_lt {t : Bytes} (h : ∀ c ∈ t, isD c = true) : valN t < 10 ^ t.length := by
  suffices ∀ (n : Nat) (t : Bytes), t.length = n → (∀ c ∈ t, isD c = true) → valN t < 10 ^ n from this _ t rfl h
  intro n
  induction n with
  | zero => intro t ht _; obtain rfl := List.eq_nil_of_length_eq_zero ht; decide
  | succ n ih =>
    intro t ht hd
    rcases List.eq_nil_or_concat t with rfl | ⟨t', c, e⟩
    · simp at ht
    · rw [List.concat_eq_append] at e
      subst e
      rw [valN_snoc]
      have h1 := ih t' (by simpa using ht) (fun x hx => hd x (by simp [hx]))
      have h2 := hd c (by simp)
      unfold isD at h2
      simp at h2
      rw [Nat.pow_succ]
      omega
end Go.Proofs.Ytgjedhdnnfdcgaa.Rp
