/-
  Plain mathematics of decimal texts: a number's digits, what a text of digits is worth, and that each number has one text. Nothing of the program.
-/
import Derived.RowKit
namespace Go.Proofs.Ytgjedhdnnfdcgaa
open Go.RowKit
namespace Dg

/-- a digit's byte -/
def dig (n : Nat) : UInt8 := UInt8.ofNat (48 + n % 10)
/-- the digits of a natural number -/
def decUpto : Nat → Nat → List UInt8
  | 0, _ => []
  | k + 1, n => if n < 10 then [dig n] else decUpto k (n / 10) ++ [dig n]
def dec (n : Nat) : List UInt8 := decUpto (n + 1) n
/-- an integer's text -/
def txt (n : Int) : List UInt8 := if n < 0 then 45 :: dec n.natAbs else dec n.natAbs
/-- what a row of bytes is worth, if they are digits -/
def val (l : List UInt8) : Int := l.foldl (fun a c => 10 * a + ((c.toNat : Int) - 48)) 0
/-- the byte is a digit -/
def isD (c : UInt8) : Bool := decide (48 ≤ c.toNat) && decide (c.toNat ≤ 57)

theorem decUpto_same (k : Nat) : ∀ (j n : Nat), n < k → n < j → decUpto k n = decUpto j n := by
  induction k with
  | zero => intro j n h; omega
  | succ k ih =>
    intro j n hk hj
    obtain ⟨i, rfl⟩ : ∃ i, j = i + 1 := ⟨j - 1, by omega⟩
    simp only [decUpto]
    by_cases h : n < 10
    · rw [if_pos h, if_pos h]
    · rw [if_neg h, if_neg h, ih i (n / 10) (by omega) (by omega)]
theorem dec_lt {n : Nat} (h : n < 10) : dec n = [dig n] := by
  show (if n < 10 then _ else _) = _
  rw [if_pos h]
theorem dec_ge {n : Nat} (h : ¬ n < 10) : dec n = dec (n / 10) ++ [dig n] := by
  show (if n < 10 then _ else _) = _
  rw [if_neg h, decUpto_same n (n / 10 + 1) (n / 10) (by omega) (by omega)]
  rfl

theorem dig_toNat (n : Nat) : (dig n).toNat = 48 + n % 10 := by
  unfold dig; rw [UInt8.toNat_ofNat']; omega
theorem dig_isD (n : Nat) : isD (dig n) = true := by
  unfold isD; rw [dig_toNat]; simp; omega

theorem val_snoc (l : List UInt8) (c : UInt8) : val (l ++ [c]) = 10 * val l + ((c.toNat : Int) - 48) := by
  simp [val, List.foldl_append]

theorem val_dec (n : Nat) : val (dec n) = n := by
  induction n using Nat.strongRecOn with
  | _ n ih =>
    by_cases h : n < 10
    · rw [dec_lt h]
      have := dig_toNat n
      simp [val]; omega
    · rw [dec_ge h, val_snoc, ih (n / 10) (by omega), dig_toNat]; omega

theorem dec_all (n : Nat) : ∀ c ∈ dec n, isD c = true := by
  induction n using Nat.strongRecOn with
  | _ n ih =>
    by_cases h : n < 10
    · rw [dec_lt h]; intro c hc; simp at hc; subst hc; exact dig_isD n
    · rw [dec_ge h]; intro c hc
      simp at hc
      rcases hc with hc | hc
      · exact ih (n / 10) (by omega) c hc
      · subst hc; exact dig_isD n

theorem dec_ne (n : Nat) : dec n ≠ [] := by
  by_cases h : n < 10
  · rw [dec_lt h]; simp
  · rw [dec_ge h]; simp

theorem dec_len_pos (n : Nat) : 1 ≤ (dec n).length := by
  have := dec_ne n
  cases h : dec n with
  | nil => exact absurd h this
  | cons a l => simp

theorem dec_len (k n : Nat) (hn : n < 10 ^ (k + 1)) : (dec n).length ≤ k + 1 := by
  induction k generalizing n with
  | zero => rw [dec_lt (by simpa using hn)]; simp
  | succ k ih =>
    by_cases h : n < 10
    · rw [dec_lt h]; simp
    · rw [dec_ge h]
      have := ih (n / 10) (by rw [Nat.pow_succ] at hn; omega)
      simp; omega

theorem dec_len19 (n : Nat) (hn : n ≤ 9223372036854775808) : (dec n).length ≤ 19 :=
  dec_len 18 n (by omega)

theorem txt_len (n : Int) (h1 : -9223372036854775808 ≤ n) (h2 : n ≤ 9223372036854775807) : (txt n).length ≤ 20 ∧ 1 ≤ (txt n).length := by
  have a := dec_len19 n.natAbs (by omega)
  have b := dec_len_pos n.natAbs
  unfold txt
  split
  · rw [List.length_cons]; omega
  · omega

/-- the head of a number's digits is a digit -/
theorem dec_head (n : Nat) : ∃ c l, dec n = c :: l ∧ isD c = true := by
  cases h : dec n with
  | nil => exact absurd h (dec_ne n)
  | cons a l => exact ⟨a, l, rfl, dec_all n a (by rw [h]; simp)⟩

theorem isD_not45 {c : UInt8} (h : isD c = true) : c ≠ 45 := by
  intro hc; subst hc; revert h; decide

/-- what is behind a minus, if there is one -/
def body (s : List UInt8) : List UInt8 := match s with
  | c :: l => if c = 45 then l else c :: l
  | [] => []
def neg (s : List UInt8) : Bool := match s with
  | c :: _ => c == 45
  | [] => false

theorem body_txt (n : Int) : body (txt n) = dec n.natAbs := by
  unfold txt
  split
  · simp [body]
  · obtain ⟨c, l, h, hc⟩ := dec_head n.natAbs
    rw [h]; simp [body, isD_not45 hc]

theorem neg_txt (n : Int) : neg (txt n) = decide (n < 0) := by
  unfold txt
  split
  · rename_i h; simp [neg, h]
  · rename_i h
    obtain ⟨c, l, e, hc⟩ := dec_head n.natAbs
    rw [e]
    have : (c == 45) = false := by simpa using isD_not45 hc
    show (c == 45) = _
    rw [this]; exact (decide_eq_false h).symm

/-- what a text is worth -/
def worth (s : List UInt8) : Int := if neg s = true then - val (body s) else val (body s)

theorem worth_txt (n : Int) : worth (txt n) = n := by
  unfold worth
  rw [neg_txt, body_txt, val_dec]
  by_cases h : n < 0
  · simp [h]; omega
  · simp [h]; omega

theorem txt_inj {a b : Int} (h : txt a = txt b) : a = b := by
  rw [← worth_txt a, ← worth_txt b, h]

/-- the number of 64 bits whose text s is -/
def isNum (s : List UInt8) : Prop := ∃ n : Int, -9223372036854775808 ≤ n ∧ n ≤ 9223372036854775807 ∧ txt n = s

theorem wrap64_of (a n : Int) (h1 : -9223372036854775808 ≤ n) (h2 : n ≤ 9223372036854775807) (h : wrap64 a = wrap64 n) : wrap64 a = n := by
  rw [h]; unfold wrap64; omega
theorem wrap64_bd (a : Int) : -9223372036854775808 ≤ wrap64 a ∧ wrap64 a ≤ 9223372036854775807 := by
  unfold wrap64; omega

end Dg
end Go.Proofs.Ytgjedhdnnfdcgaa
