/-
  Plain mathematics of decimal texts: a number's digits, what a text of digits is worth, and that each number has one text. Nothing of the program.
-/
import Derived.RowKit
namespace Go.Proofs.YtflmolhkbpicbaaDoor
open Go.RowKit
namespace Dg

/-- a digit's byte -/
def dig (n : Nat) : UInt8 := UInt8.ofNat (48 + n % 10)
/-- the digits of a natural number -/
def decUpto : Nat → Nat → List UInt8
  | 0, _ => []
  | k + 1, n => if n < 10 then [dig n] else decUpto k (n / 10) ++ [dig n]
def dec (n : Nat) : List UInt8 := decUpto (n + 1) n
/-- an integer's text -/
def txt (n : Int) : List UInt8 := if n < 0 then 45 :: dec n.natAbs else dec n.natAbs
/-- what a row of bytes is worth, if they are digits -/
def val (l : List UInt8) : Int := l.foldl (fun a c => 10 * a + ((c.toNat : Int) - 48)) 0
/-- the byte is a digit -/
def isD (c : UInt8) : Bool := decide (48 ≤ c.toNat) && decide (c.toNat ≤ 57)

set_option maxRecDepth 100000 in
theorem decUpto_same (k : Nat) : ∀ (j n : Nat), n < k → n < j → decUpto k n = decUpto j n := by
  induction k with
  | zero => intro j n h; omega
  | succ k ih =>
    intro j n hk hj
    obtain ⟨i, rfl⟩ : ∃ i, j = i + 1 := ⟨j - 1, by omega⟩
    simp only [decUpto]
    by_cases h : n < 10
    · rw [if_pos h, if_pos h]
    · rw [if_neg h, if_neg h, ih i (n / 10) (by omega) (by omega)]
set_option maxRecDepth 100000 in
theorem dec_lt {n : Nat} (h : n < 10) : dec n = [dig n] := by
  show (if n < 10 then _ else _) = _
  rw [if_pos h]
set_option maxRecDepth 100000 in
theorem dec_ge {n : Nat} (h : ¬ n < 10) : dec n = dec (n / 10) ++ [dig n] := by
  show (if n < 10 then _ else _) = _
  rw [if_neg h, decUpto_same n (n / 10 + 1) (n / 10) (by omega) (by omega)]
  rfl

set_option maxRecDepth 100000 in
theorem dig_toNat (n : Nat) : (dig n).toNat = 48 + n % 10 := by
  unfold dig; rw [UInt8.toNat_ofNat']; omega
set_option maxRecDepth 100000 in
theorem dig_isD (n : Nat) : isD (dig n) = true := by
  unfold isD; rw [dig_toNat]; simp; omega

set_option maxRecDepth 100000 in
theorem val_snoc (l : List UInt8) (c : UInt8) : val (l ++ [c]) = 10 * val l + ((c.toNat : Int) - 48) := by
  simp [val, List.foldl_append]

set_option maxRecDepth 100000 in
theorem val_dec (n : Nat) : val (dec n) = n := by
  induction n using Nat.strongRecOn with
  | _ n ih =>
    by_cases h : n < 10
    · rw [dec_lt h]
      have := dig_toNat n
      simp [val]; omega
    · rw [dec_ge h, val_snoc, ih (n / 10) (by omega), dig_toNat]; omega

set_option maxRecDepth 100000 in
theorem dec_all (n : Nat) : ∀ c ∈ dec n, isD c = true := by
  induction n using Nat.strongRecOn with
  | _ n ih =>
    by_cases h : n < 10
    · rw [dec_lt h]; intro c hc; simp at hc; subst hc; exact dig_isD n
    · rw [dec_ge h]; intro c hc
      simp at hc
      rcases hc with hc | hc
      · exact ih (n / 10) (by omega) c hc
      · subst hc; exact dig_isD n

set_option maxRecDepth 100000 in
theorem dec_ne (n : Nat) : dec n ≠ [] := by
  by_cases h : n < 10
  · rw [dec_lt h]; simp
  · rw [dec_ge h]; simp

set_option maxRecDepth 100000 in
theorem dec_len_pos (n : Nat) : 1 ≤ (dec n).length := by
  have := dec_ne n
  cases h : dec n with
  | nil => exact absurd h this
  | cons a l => simp

set_option maxRecDepth 100000 in
theorem dec_len (k n : Nat) (hn : n < 10 ^ (k + 1)) : (dec n).length ≤ k + 1 := by
  induction k generalizing n with
  | zero => rw [dec_lt (by simpa using hn)]; simp
  | succ k ih =>
    by_cases h : n < 10
    · rw [dec_lt h]; simp
    · rw [dec_ge h]
      have := ih (n / 10) (by rw [Nat.pow_succ] at hn; omega)
      simp; omega

set_option maxRecDepth 100000 in
theorem dec_len19 (n : Nat) (hn : n ≤ 9223372036854775808) : (dec n).length ≤ 19 :=
  dec_len 18 n (by omega)

set_option maxRecDepth 100000 in
theorem txt_len (n : Int) (h1 : -9223372036854775808 ≤ n) (h2 : n ≤ 9223372036854775807) : (txt n).length ≤ 20 ∧ 1 ≤ (txt n).length := by
  have a := dec_len19 n.natAbs (by omega)
  have b := dec_len_pos n.natAbs
  unfold txt
  split
  · rw [List.length_cons]; omega
  · omega

set_option maxRecDepth 100000 in
/-- the head of a number's digits is a digit -/
theorem dec_head (n : Nat) : ∃ c l, dec n = c :: l ∧ isD c = true := by
  cases h : dec n with
  | nil => exact absurd h (dec_ne n)
  | cons a l => exact ⟨a, l, rfl, dec_all n a (by rw [h]; simp)⟩

set_option maxRecDepth 100000 in
theorem isD_not45 {c : UInt8} (h : isD c = true) : c ≠ 45 := by
  intro hc; subst hc; revert h; decide

/-- what is behind a minus, if there is one -/
def body (s : List UInt8) : List UInt8 := match s with
  | c :: l => if c = 45 then l else c :: l
  | [] => []
def neg (s : List UInt8) : Bool := match s with
  | c :: _ => c == 45
  | [] => false

set_option maxRecDepth 100000 in
theorem body_txt (n : Int) : body (txt n) = dec n.natAbs := by
  unfold txt
  split
  · simp [body]
  · obtain ⟨c, l, h, hc⟩ := dec_head n.natAbs
    rw [h]; simp [body, isD_not45 hc]

set_option maxRecDepth 100000 in
theorem neg_txt (n : Int) : neg (txt n) = decide (n < 0) := by
  unfold txt
  split
  · rename_i h; simp [neg, h]
  · rename_i h
    obtain ⟨c, l, e, hc⟩ := dec_head n.natAbs
    rw [e]
    have : (c == 45) = false := by simpa using isD_not45 hc
    show (c == 45) = _
    rw [this]; exact (decide_eq_false h).symm

/-- what a text is worth -/
def worth (s : List UInt8) : Int := if neg s = true then - val (body s) else val (body s)

set_option maxRecDepth 100000 in
theorem worth_txt (n : Int) : worth (txt n) = n := by
  unfold worth
  rw [neg_txt, body_txt, val_dec]
  by_cases h : n < 0
  · simp [h]; omega
  · simp [h]; omega

set_option maxRecDepth 100000 in
theorem txt_inj {a b : Int} (h : txt a = txt b) : a = b := by
  rw [← worth_txt a, ← worth_txt b, h]

/-- the number of 64 bits whose text s is -/
def isNum (s : List UInt8) : Prop := ∃ n : Int, -9223372036854775808 ≤ n ∧ n ≤ 9223372036854775807 ∧ txt n = s

set_option maxRecDepth 100000 in
theorem wrap64_of (a n : Int) (h1 : -9223372036854775808 ≤ n) (h2 : n ≤ 9223372036854775807) (h : wrap64 a = wrap64 n) : wrap64 a = n := by
  rw [h]; unfold wrap64; omega
set_option maxRecDepth 100000 in
theorem wrap64_bd (a : Int) : -9223372036854775808 ≤ wrap64 a ∧ wrap64 a ≤ 9223372036854775807 := by
  unfold wrap64; omega

end Dg
end Go.Proofs.YtflmolhkbpicbaaDoor
/-
  The mathematics of answers as bytes: what is written, how it is read, and that it comes back. Nothing of the program.
-/
namespace Go.Proofs.YtflmolhkbpicbaaDoor.Ry
open Dg (isD dec txt)

abbrev Bytes := List UInt8
/-- an answer: kind, text, number, texts -/
structure Rep where
  k : Int
  t : Bytes
  n : Int
  l : List Bytes
deriving DecidableEq
def zero : Rep := ⟨0, [], 0, []⟩
def crlf : Bytes := [13, 10]
def lineB (c : UInt8) : UInt8 := if c = 13 ∨ c = 10 then 32 else c
def lineR (s : Bytes) : Bytes := s.map lineB
/-- what its kind has -/
def plain (x : Rep) : Rep :=
  if x.k = 1 then ⟨1, lineR x.t, 0, []⟩ else if x.k = 2 then ⟨2, lineR x.t, 0, []⟩ else if x.k = 3 then ⟨3, [], x.n, []⟩ else if x.k = 4 then ⟨4, x.t, 0, []⟩ else if x.k = 6 then ⟨6, [], 0, x.l⟩ else ⟨5, [], 0, []⟩
def bulk (s : Bytes) : Bytes := 36 :: dec s.length ++ crlf ++ s ++ crlf
def bulks (l : List Bytes) : Bytes := l.flatMap bulk
/-- an answer's bytes -/
def enc (x : Rep) : Bytes :=
  if x.k = 1 then 43 :: lineR x.t ++ crlf else if x.k = 2 then 45 :: lineR x.t ++ crlf else if x.k = 3 then 58 :: txt x.n ++ crlf else if x.k = 4 then bulk x.t else if x.k = 6 then 42 :: dec x.l.length ++ crlf ++ bulks x.l else [36, 45, 49, 13, 10]
def encs (l : List Rep) : Bytes := l.flatMap enc

/-- what reading comes to: a value, and what is left; or an error -/
inductive Rd (α : Type) where
  | ok (v : α) (r : Bytes)
  | err (e : Nat)
def textR : Bytes → Bytes → Rd Bytes
  | _, [] => .err 8
  | acc, c :: s => if c = 10 then .err 9 else if c = 13 then (match s with
      | [] => .err 8
      | d :: r => if d = 10 then .ok acc r else .err 9) else textR (acc ++ [c]) s
/-- the number of 64 bits that a text is -/
def parseR (s : Bytes) : Option Int := if txt (Dg.worth s) = s ∧ -9223372036854775808 ≤ Dg.worth s ∧ Dg.worth s ≤ 9223372036854775807 then some (Dg.worth s) else none
def mayR (lo hi : Int) (s : Bytes) : Bool := decide (s = []) || (decide (s = [45]) && decide (lo < 0)) || (match parseR s with
  | none => false
  | some n => decide (lo ≤ n) && decide (n ≤ hi))
def pre (s : Bytes) : Bytes := s.takeWhile (fun c => c ≠ 13)
def numR (lo hi : Int) (s : Bytes) : Rd Int :=
  if mayR lo hi (pre s) = false ∨ ((pre s).length < s.length ∧ (pre s = [] ∨ pre s = [45])) then .err 9 else match textR [] s with
  | .err e => .err e
  | .ok t r => .ok ((parseR t).getD 0) r
def bytesR (n : Nat) (s : Bytes) : Rd Bytes :=
  if s.length ≤ n then .err 8 else match s.drop n with
  | [] => .err 8
  | c :: q => if c ≠ 13 then .err 9 else match q with
    | [] => .err 8
    | d :: r => if d ≠ 10 then .err 9 else .ok (s.take n) r
def listR : Nat → List Bytes → Bytes → Rd (List Bytes)
  | 0, acc, s => .ok acc s
  | _ + 1, _, [] => .err 8
  | n + 1, acc, c :: s => if c ≠ 36 then .err 9 else match numR 0 1099511627776 s with
    | .err e => .err e
    | .ok k u => match bytesR k.toNat u with
      | .err e => .err e
      | .ok t v => listR n (acc ++ [t]) v
def mapR {α : Type} (f : α → Rep) : Rd α → Rd Rep
  | .ok v r => .ok (f v) r
  | .err e => .err e
/-- one answer -/
def decR : Bytes → Rd Rep
  | [] => .err 8
  | c :: s =>
    if c = 43 then mapR (fun t => ⟨1, t, 0, []⟩) (textR [] s)
    else if c = 45 then mapR (fun t => ⟨2, t, 0, []⟩) (textR [] s)
    else if c = 58 then mapR (fun n => ⟨3, [], n, []⟩) (numR (-9223372036854775808) 9223372036854775807 s)
    else if c = 36 then (match numR (-1) 1099511627776 s with
      | .err e => .err e
      | .ok n u => if 0 ≤ n then mapR (fun t => ⟨4, t, 0, []⟩) (bytesR n.toNat u) else .ok ⟨5, [], 0, []⟩ u)
    else if c = 42 then (match numR 0 1099511627776 s with
      | .err e => .err e
      | .ok n u => mapR (fun l => ⟨6, [], 0, l⟩) (listR n.toNat [] u))
    else .err 9

/-- more behind it changes nothing, but that it is no longer cut short -/
def Mono {α : Type} (f : Bytes → Rd α) : Prop := ∀ s t, (∀ v r, f s = .ok v r → f (s ++ t) = .ok v (r ++ t)) ∧ (∀ e, f s = .err e → (e = 8 ∨ e = 9) ∧ (e = 9 → f (s ++ t) = .err 9))
set_option maxRecDepth 100000 in
theorem text_mono (acc : Bytes) : Mono (textR acc) := by
  intro s
  induction s generalizing acc with
  | nil => intro t; exact ⟨fun v r h => by simp [textR] at h, fun e h => by simp [textR] at h; subst h; simp⟩
  | cons c s ih =>
    intro t
    by_cases h10 : c = 10
    · refine ⟨fun v r h => ?_, fun e h => ?_⟩
      · simp [textR, h10] at h
      · simp [textR, h10] at h ⊢; subst h; simp
    · by_cases h13 : c = 13
      · subst h13
        cases s with
        | nil => exact ⟨fun v r h => by simp [textR] at h, fun e h => by simp [textR] at h; subst h; simp⟩
        | cons d r0 =>
          by_cases hd : d = 10
          · refine ⟨fun v r h => ?_, fun e h => ?_⟩
            · simp [textR, hd] at h ⊢
              obtain ⟨h1, h2⟩ := h
              subst h1 h2
              simp
            · simp [textR, hd] at h
          · refine ⟨fun v r h => ?_, fun e h => ?_⟩
            · simp [textR, hd] at h
            · simp [textR, hd] at h ⊢; subst h; simp
      · have := ih (acc ++ [c]) t
        simpa [textR, h10, h13] using this
set_option maxRecDepth 100000 in
/-- what a line's text was -/
theorem text_ok {acc s v r : Bytes} (h : textR acc s = .ok v r) : ∃ t, v = acc ++ t ∧ s = t ++ crlf ++ r ∧ ∀ c ∈ t, c ≠ 13 ∧ c ≠ 10 := by
  induction s generalizing acc with
  | nil => simp [textR] at h
  | cons c s ih =>
    by_cases h10 : c = 10
    · simp [textR, h10] at h
    · by_cases h13 : c = 13
      · subst h13
        cases s with
        | nil => simp [textR] at h
        | cons d r0 =>
          by_cases hd : d = 10
          · subst hd
            simp [textR] at h
            obtain ⟨h1, h2⟩ := h
            subst h1 h2
            exact ⟨[], by simp, by simp [crlf], by simp⟩
          · simp [textR, hd] at h
      · simp only [textR, if_neg h10, if_neg h13] at h
        obtain ⟨t, h1, h2, h3⟩ := ih h
        refine ⟨c :: t, by rw [h1]; simp, by rw [h2]; simp, fun x hx => ?_⟩
        rcases List.mem_cons.1 hx with rfl | hx
        · exact ⟨h13, h10⟩
        · exact h3 x hx
set_option maxRecDepth 100000 in
theorem text_line {acc t r : Bytes} (h : ∀ c ∈ t, c ≠ 13 ∧ c ≠ 10) : textR acc (t ++ crlf ++ r) = .ok (acc ++ t) r := by
  induction t generalizing acc with
  | nil => simp [textR, crlf]
  | cons c t ih =>
    have hc := h c (by simp)
    have := ih (acc := acc ++ [c]) (fun x hx => h x (by simp [hx]))
    simp only [List.cons_append, textR, if_neg hc.1, if_neg hc.2]
    simpa using this
set_option maxRecDepth 100000 in
theorem line_all (s : Bytes) : ∀ c ∈ lineR s, c ≠ 13 ∧ c ≠ 10 := by
  intro c hc
  unfold lineR at hc
  obtain ⟨d, _, rfl⟩ := List.mem_map.1 hc
  unfold lineB
  split
  · decide
  · rename_i h
    exact ⟨fun e => h (.inl e), fun e => h (.inr e)⟩
set_option maxRecDepth 100000 in
theorem line_same {s : Bytes} (h : ∀ c ∈ s, c ≠ 13 ∧ c ≠ 10) : lineR s = s := by
  unfold lineR
  rw [List.map_congr_left (g := id)]
  · simp
  · intro c hc
    unfold lineB
    rw [if_neg]
    · rfl
    · rintro (e | e)
      · exact (h c hc).1 e
      · exact (h c hc).2 e
set_option maxRecDepth 100000 in
theorem line_line (s : Bytes) : lineR (lineR s) = lineR s := line_same (line_all s)

set_option maxRecDepth 100000 in
theorem plain_plain (x : Rep) : plain (plain x) = plain x := by
  unfold plain
  by_cases h1 : x.k = 1
  · simp [h1, line_line]
  · by_cases h2 : x.k = 2
    · simp [h2, line_line]
    · by_cases h3 : x.k = 3
      · simp [h3]
      · by_cases h4 : x.k = 4
        · simp [h4]
        · by_cases h6 : x.k = 6
          · simp [h6]
          · simp [h1, h2, h3, h4, h6]
set_option maxRecDepth 100000 in
theorem enc_plain (x : Rep) : enc (plain x) = enc x := by
  unfold plain enc
  by_cases h1 : x.k = 1
  · simp [h1, line_line]
  · by_cases h2 : x.k = 2
    · simp [h2, line_line]
    · by_cases h3 : x.k = 3
      · simp [h3]
      · by_cases h4 : x.k = 4
        · simp [h4]
        · by_cases h6 : x.k = 6
          · simp [h6]
          · simp [h1, h2, h3, h4, h6]
end Go.Proofs.YtflmolhkbpicbaaDoor.Ry
/-
  The mathematics of answers as bytes, on: numbers, so many bytes, lists; what is read is what was written, and what is written is read.
-/
namespace Go.Proofs.YtflmolhkbpicbaaDoor.Ry
open Dg (isD dec txt)

set_option maxRecDepth 100000 in
theorem parse_txt {n : Int} (h1 : -9223372036854775808 ≤ n) (h2 : n ≤ 9223372036854775807) : parseR (txt n) = some n := by
  unfold parseR
  rw [Dg.worth_txt, if_pos ⟨rfl, h1, h2⟩]
set_option maxRecDepth 100000 in
theorem parse_some {s : Bytes} {n : Int} (h : parseR s = some n) : s = txt n ∧ -9223372036854775808 ≤ n ∧ n ≤ 9223372036854775807 := by
  unfold parseR at h
  split at h
  · rename_i hc
    injection h with h
    subst h
    exact ⟨hc.1.symm, hc.2⟩
  · cases h
set_option maxRecDepth 100000 in
theorem txt_ne (n : Int) : txt n ≠ [] := by
  unfold Dg.txt
  split
  · simp
  · exact Dg.dec_ne _
set_option maxRecDepth 100000 in
theorem txt_not45 (n : Int) : txt n ≠ [45] := by
  unfold Dg.txt
  split
  · intro e
    injection e with _ e
    exact Dg.dec_ne _ e
  · intro e
    have := Dg.dec_all n.natAbs 45 (by rw [e]; simp)
    simp [isD] at this
set_option maxRecDepth 100000 in
theorem txt_bytes (n : Int) : ∀ c ∈ txt n, c ≠ 13 ∧ c ≠ 10 := by
  have hd : ∀ c, isD c = true → c ≠ 13 ∧ c ≠ 10 := fun c h => ⟨fun e => by subst e; simp [isD] at h, fun e => by subst e; simp [isD] at h⟩
  intro c hc
  unfold Dg.txt at hc
  split at hc
  · rcases List.mem_cons.1 hc with rfl | hc
    · decide
    · exact hd c (Dg.dec_all _ c hc)
  · exact hd c (Dg.dec_all _ c hc)
set_option maxRecDepth 100000 in
/-- what could be the begin of a number has no end of a line -/
theorem may_bytes {lo hi : Int} {s : Bytes} (h : mayR lo hi s = true) : ∀ c ∈ s, c ≠ 13 ∧ c ≠ 10 := by
  unfold mayR at h
  simp only [Bool.or_eq_true, Bool.and_eq_true, decide_eq_true_eq] at h
  rcases h with (h | ⟨h, _⟩) | h
  · subst h; intro c hc; cases hc
  · subst h; intro c hc; rw [List.mem_singleton] at hc; subst hc; decide
  · cases hp : parseR s with
    | none => rw [hp] at h; cases h
    | some n =>
      obtain ⟨e, _⟩ := parse_some hp
      rw [e]; exact txt_bytes n
set_option maxRecDepth 100000 in
theorem may_num {lo hi n : Int} (h1 : -9223372036854775808 ≤ n) (h2 : n ≤ 9223372036854775807) (h3 : lo ≤ n) (h4 : n ≤ hi) : mayR lo hi (txt n) = true := by
  unfold mayR
  rw [parse_txt h1 h2]
  simp [h3, h4]
set_option maxRecDepth 100000 in
theorem pre_split (s : Bytes) : s = pre s ++ s.drop (pre s).length := by
  have h : pre s <+: s := List.takeWhile_prefix _
  obtain ⟨r, hr⟩ := h
  have : s.drop (pre s).length = r := by
    conv => lhs; arg 2; rw [← hr]
    simp
  rw [this, hr]
set_option maxRecDepth 100000 in
theorem pre_all (s : Bytes) : ∀ c ∈ pre s, c ≠ 13 := fun c hc => by
  have := List.all_eq_true.1 (List.all_takeWhile (p := fun c : UInt8 => decide (c ≠ 13)) (l := s)) c hc
  simpa using this
set_option maxRecDepth 100000 in
theorem pre_line {t r : Bytes} (h : ∀ c ∈ t, c ≠ 13) : pre (t ++ 13 :: r) = t := by
  unfold pre
  rw [List.takeWhile_append_of_pos (fun c hc => by simpa using h c hc)]
  simp
set_option maxRecDepth 100000 in
theorem pre_none {t : Bytes} (h : ∀ c ∈ t, c ≠ 13) : pre t = t := by
  unfold pre
  induction t with
  | nil => rfl
  | cons c t ih => rw [List.takeWhile_cons_of_pos (by simpa using h c (by simp)), ih (fun x hx => h x (by simp [hx]))]
set_option maxRecDepth 100000 in
/-- a row of bytes with an end of a line, or without -/
theorem pre_cases (s : Bytes) : (pre s = s ∧ ∀ c ∈ s, c ≠ 13) ∨ ∃ r, s = pre s ++ 13 :: r := by
  have h := pre_split s
  cases hd : s.drop (pre s).length with
  | nil =>
    rw [hd, List.append_nil] at h
    exact .inl ⟨h.symm, fun c hc => pre_all s c (by rw [← h]; exact hc)⟩
  | cons c r =>
    have hc : c = 13 := by
      have h4 := List.head?_dropWhile_not (p := fun c : UInt8 => decide (c ≠ 13)) (l := s)
      have h5 : s.dropWhile (fun c : UInt8 => decide (c ≠ 13)) = c :: r := by
        have h6 : s = pre s ++ s.dropWhile (fun c : UInt8 => decide (c ≠ 13)) := List.takeWhile_append_dropWhile.symm
        have h7 := congrArg (List.drop (pre s).length) h6
        rw [List.drop_left' rfl, hd] at h7
        exact h7.symm
      rw [h5] at h4
      simpa using h4
    subst hc
    exact .inr ⟨r, by rw [← hd]; exact h⟩
set_option maxRecDepth 100000 in
/-- a line that is no number's -/
theorem text_short {t : Bytes} (acc : Bytes) (h : ∀ c ∈ t, c ≠ 13 ∧ c ≠ 10) : textR acc t = .err 8 := by
  induction t generalizing acc with
  | nil => rfl
  | cons c t ih =>
    have hc := h c (by simp)
    simp only [textR, if_neg hc.1, if_neg hc.2]
    exact ih _ (fun x hx => h x (by simp [hx]))
set_option maxRecDepth 100000 in
theorem may_snoc {lo hi : Int} {s : Bytes} {c : UInt8} (hlo : lo ≤ 0) (hhi : 0 ≤ hi) (h : mayR lo hi (s ++ [c]) = true) : mayR lo hi s = true := by
  have h0 : mayR lo hi [] = true := by simp [mayR]
  unfold mayR at h
  simp only [Bool.or_eq_true, Bool.and_eq_true, decide_eq_true_eq] at h
  rcases h with (h | ⟨h, _⟩) | h
  · simp at h
  · have hl := congrArg List.length h
    simp at hl
    subst hl
    exact h0
  · cases hp : parseR (s ++ [c]) with
    | none => rw [hp] at h; cases h
    | some n =>
      rw [hp] at h
      simp only [Bool.and_eq_true, decide_eq_true_eq] at h
      obtain ⟨e, b1, b2⟩ := parse_some hp
      by_cases hn : n < 0
      · have e2 : txt n = 45 :: dec n.natAbs := by unfold Dg.txt; rw [if_pos hn]
        rw [e2] at e
        by_cases h10 : n.natAbs < 10
        · rw [Dg.dec_lt h10] at e
          have hs : s = [45] := by
            have : s ++ [c] = [45] ++ [Dg.dig n.natAbs] := by rw [e]; rfl
            exact (List.append_inj' this rfl).1
          subst hs
          unfold mayR
          have : lo < 0 := by omega
          simp [this]
        · rw [Dg.dec_ge h10] at e
          have hs : s = 45 :: dec (n.natAbs / 10) := by
            have : s ++ [c] = (45 :: dec (n.natAbs / 10)) ++ [Dg.dig n.natAbs] := by rw [e]; rfl
            exact (List.append_inj' this rfl).1
          have e3 : txt (-((n.natAbs / 10 : Nat) : Int)) = s := by
            unfold Dg.txt
            rw [if_pos (by omega), hs]
            congr 2
            omega
          rw [← e3]
          exact may_num (by omega) (by omega) (by omega) (by omega)
      · have e2 : txt n = dec n.natAbs := by unfold Dg.txt; rw [if_neg hn]
        rw [e2] at e
        by_cases h10 : n.natAbs < 10
        · rw [Dg.dec_lt h10] at e
          have hs : s = [] := by
            have hl := congrArg List.length e
            simp at hl
            exact hl
          subst hs
          exact h0
        · rw [Dg.dec_ge h10] at e
          have hs : s = dec (n.natAbs / 10) := (List.append_inj' e rfl).1
          have e3 : txt ((n.natAbs / 10 : Nat) : Int) = s := by
            unfold Dg.txt
            rw [if_neg (by omega), hs]
            congr 1
          rw [← e3]
          exact may_num (by omega) (by omega) (by omega) (by omega)
set_option maxRecDepth 100000 in
theorem may_append {lo hi : Int} (hlo : lo ≤ 0) (hhi : 0 ≤ hi) (q : Bytes) : ∀ (m : Nat) {s : Bytes}, q.length = m → mayR lo hi (s ++ q) = true → mayR lo hi s = true := by
  intro m
  induction m generalizing q with
  | zero =>
    intro s hq h
    obtain rfl := List.eq_nil_of_length_eq_zero hq
    simpa using h
  | succ m ih =>
    intro s hq h
    rcases List.eq_nil_or_concat q with rfl | ⟨q', c, e⟩
    · simp at hq
    · rw [List.concat_eq_append] at e
      subst e
      rw [← List.append_assoc] at h
      exact ih q' (by simpa using hq) (may_snoc hlo hhi h)
set_option maxRecDepth 100000 in
theorem num_mono {lo hi : Int} (hlo : lo ≤ 0) (hhi : 0 ≤ hi) : Mono (numR lo hi) := by
  intro s t
  rcases pre_cases s with ⟨hp, hall⟩ | ⟨r, hs⟩
  · by_cases hm : mayR lo hi s = true
    · have h1 : numR lo hi s = .err 8 := by
        unfold numR
        rw [hp, if_neg (by rw [hm]; rintro (h | ⟨h, _⟩); cases h; omega), text_short [] (may_bytes hm)]
      rw [h1]
      exact ⟨fun v r h => (by cases h), fun e h => (by injection h with h; subst h; exact ⟨.inl rfl, fun h => by cases h⟩)⟩
    · have hm : mayR lo hi s = false := by simpa using hm
      have h1 : numR lo hi s = .err 9 := by
        unfold numR
        rw [hp, if_pos (.inl hm)]
      rw [h1]
      refine ⟨fun v r h => (by cases h), fun e h => ⟨.inr (by injection h with h; exact h.symm), fun _ => ?_⟩⟩
      have hq : pre (s ++ t) = s ++ pre t := by
        unfold pre
        rw [List.takeWhile_append_of_pos (fun c hc => by simpa using hall c hc)]
      have hx : mayR lo hi (s ++ pre t) = false := by
        cases hx : mayR lo hi (s ++ pre t) with
        | false => rfl
        | true => rw [may_append hlo hhi _ _ rfl hx] at hm; cases hm
      unfold numR
      rw [hq, if_pos (.inl hx)]
  · have hl : (pre s).length < s.length := by
      have := congrArg List.length hs
      rw [List.length_append, List.length_cons] at this
      omega
    have hq : pre (s ++ t) = pre s := by
      have e : s ++ t = pre s ++ 13 :: (r ++ t) := by
        conv => lhs; rw [hs]
        simp
      rw [e, pre_line (pre_all s)]
    have hl2 : (pre s).length < (s ++ t).length := by rw [List.length_append]; omega
    unfold numR
    rw [hq]
    by_cases hc : mayR lo hi (pre s) = false ∨ ((pre s).length < s.length ∧ (pre s = [] ∨ pre s = [45]))
    · have hc2 : mayR lo hi (pre s) = false ∨ ((pre s).length < (s ++ t).length ∧ (pre s = [] ∨ pre s = [45])) := hc.imp id (fun h => ⟨hl2, h.2⟩)
      rw [if_pos hc, if_pos hc2]
      exact ⟨fun v r h => (by cases h), fun e h => ⟨.inr (by injection h with h; exact h.symm), fun _ => rfl⟩⟩
    · have hc2 : ¬ (mayR lo hi (pre s) = false ∨ ((pre s).length < (s ++ t).length ∧ (pre s = [] ∨ pre s = [45]))) := fun h => hc (h.imp id (fun h => ⟨hl, h.2⟩))
      rw [if_neg hc, if_neg hc2]
      have hm := text_mono [] s t
      cases hx : textR [] s with
      | ok v q =>
        rw [hm.1 v q hx]
        exact ⟨fun v r h => (by injection h with h1 h2; subst h1 h2; rfl), fun e h => (by cases h)⟩
      | err e =>
        obtain ⟨h8, h9⟩ := hm.2 e hx
        refine ⟨fun v r h => (by cases h), fun e2 h => ?_⟩
        injection h with h
        subst h
        exact ⟨h8, fun h => by rw [h9 h]⟩
set_option maxRecDepth 100000 in
theorem num_ok {lo hi : Int} {s r : Bytes} {n : Int} (h : numR lo hi s = .ok n r) : s = txt n ++ crlf ++ r ∧ lo ≤ n ∧ n ≤ hi ∧ -9223372036854775808 ≤ n ∧ n ≤ 9223372036854775807 := by
  unfold numR at h
  split at h
  · cases h
  · rename_i hc
    cases hx : textR [] s with
    | err e => rw [hx] at h; cases h
    | ok v q =>
      rw [hx] at h
      injection h with h1 h2
      subst h2
      obtain ⟨t, e1, e2, e3⟩ := text_ok hx
      rw [List.nil_append] at e1
      subst e1
      have hp : pre s = v := by rw [e2]; simp only [crlf, List.append_assoc]; exact pre_line (fun c hc => (e3 c hc).1)
      rw [hp] at hc
      have hl : v.length < s.length := by rw [e2]; simp [crlf]
      have hm : mayR lo hi v = true := by
        cases hq : mayR lo hi v with
        | true => rfl
        | false => exact absurd (.inl hq) hc
      have hv1 : v ≠ [] := fun e => hc (.inr ⟨hl, .inl e⟩)
      have hv2 : v ≠ [45] := fun e => hc (.inr ⟨hl, .inr e⟩)
      unfold mayR at hm
      simp only [hv1, hv2, decide_false, Bool.false_and, Bool.false_or] at hm
      cases hpz : parseR v with
      | none => rw [hpz] at hm; cases hm
      | some k =>
        rw [hpz] at hm h1
        simp only [Bool.and_eq_true, decide_eq_true_eq] at hm
        simp only [Option.getD_some] at h1
        subst h1
        obtain ⟨e4, b1, b2⟩ := parse_some hpz
        exact ⟨by rw [← e4]; exact e2, hm.1, hm.2, b1, b2⟩
set_option maxRecDepth 100000 in
theorem num_line {lo hi n : Int} {r : Bytes} (h1 : lo ≤ n) (h2 : n ≤ hi) (h3 : -9223372036854775808 ≤ n) (h4 : n ≤ 9223372036854775807) : numR lo hi (txt n ++ crlf ++ r) = .ok n r := by
  have hp : pre (txt n ++ crlf ++ r) = txt n := by
    simp only [crlf, List.append_assoc]
    exact pre_line (fun c hc => (txt_bytes n c hc).1)
  unfold numR
  rw [hp, if_neg, text_line (txt_bytes n)]
  · simp [parse_txt h3 h4]
  · rintro (h | ⟨_, h | h⟩)
    · rw [may_num h3 h4 h1 h2] at h; cases h
    · exact txt_ne n h
    · exact txt_not45 n h

set_option maxRecDepth 100000 in
theorem bytes_mono (n : Nat) : Mono (bytesR n) := by
  intro s t
  unfold bytesR
  by_cases hl : s.length ≤ n
  · rw [if_pos hl]
    exact ⟨fun v r h => (by cases h), fun e h => (by injection h with h; subst h; exact ⟨.inl rfl, fun h => by cases h⟩)⟩
  · have hl2 : ¬ (s ++ t).length ≤ n := by rw [List.length_append]; omega
    rw [if_neg hl, if_neg hl2, List.drop_append_of_le_length (by omega), List.take_append_of_le_length (by omega)]
    cases hd : s.drop n with
    | nil =>
      have := congrArg List.length hd
      rw [List.length_drop] at this
      simp at this
      omega
    | cons c q =>
      simp only [List.cons_append]
      by_cases hc : c ≠ 13
      · rw [if_pos hc, if_pos hc]
        exact ⟨fun v r h => (by cases h), fun e h => ⟨.inr (by injection h with h; exact h.symm), fun _ => rfl⟩⟩
      · rw [if_neg hc, if_neg hc]
        cases q with
        | nil => exact ⟨fun v r h => (by cases h), fun e h => (by injection h with h; subst h; exact ⟨.inl rfl, fun h => by cases h⟩)⟩
        | cons d r0 =>
          simp only [List.cons_append]
          by_cases hd : d ≠ 10
          · rw [if_pos hd, if_pos hd]
            exact ⟨fun v r h => (by cases h), fun e h => ⟨.inr (by injection h with h; exact h.symm), fun _ => rfl⟩⟩
          · rw [if_neg hd, if_neg hd]
            exact ⟨fun v r h => (by injection h with h1 h2; subst h1 h2; rfl), fun e h => (by cases h)⟩
set_option maxRecDepth 100000 in
theorem bytes_ok {n : Nat} {s v r : Bytes} (h : bytesR n s = .ok v r) : s = v ++ crlf ++ r ∧ v.length = n := by
  unfold bytesR at h
  split at h
  · cases h
  · rename_i hl
    have hs : s = s.take n ++ s.drop n := (List.take_append_drop n s).symm
    cases hd : s.drop n with
    | nil => rw [hd] at h; cases h
    | cons c q =>
      rw [hd] at h
      simp only at h
      by_cases hc : c ≠ 13
      · rw [if_pos hc] at h; cases h
      · rw [if_neg hc] at h
        cases q with
        | nil => cases h
        | cons d r0 =>
          simp only at h
          by_cases hd2 : d ≠ 10
          · rw [if_pos hd2] at h; cases h
          · rw [if_neg hd2] at h
            injection h with h1 h2
            subst h1 h2
            have hc : c = 13 := by simpa using hc
            have hd2 : d = 10 := by simpa using hd2
            subst hc hd2
            refine ⟨?_, by rw [List.length_take]; omega⟩
            conv => lhs; rw [hs, hd]
            simp [crlf]
set_option maxRecDepth 100000 in
theorem bytes_line {v r : Bytes} : bytesR v.length (v ++ crlf ++ r) = .ok v r := by
  unfold bytesR
  rw [if_neg (by simp [crlf])]
  simp [crlf]
set_option maxRecDepth 100000 in
theorem list_mono : ∀ (n : Nat) (acc : List Bytes), Mono (listR n acc) := by
  intro n
  induction n with
  | zero => intro acc s t; exact ⟨fun v r h => (by injection h with h1 h2; subst h1 h2; rfl), fun e h => (by cases h)⟩
  | succ n ih =>
    intro acc s t
    cases s with
    | nil => exact ⟨fun v r h => (by cases h), fun e h => (by injection h with h; subst h; exact ⟨.inl rfl, fun h => by cases h⟩)⟩
    | cons c s =>
      simp only [List.cons_append, listR]
      by_cases hc : c ≠ 36
      · rw [if_pos hc, if_pos hc]
        exact ⟨fun v r h => (by cases h), fun e h => ⟨.inr (by injection h with h; exact h.symm), fun _ => rfl⟩⟩
      · rw [if_neg hc, if_neg hc]
        have hm := num_mono (lo := 0) (hi := 1099511627776) (by omega) (by omega) s t
        cases hx : numR 0 1099511627776 s with
        | err e =>
          obtain ⟨h8, h9⟩ := hm.2 e hx
          refine ⟨fun v r h => (by cases h), fun e2 h => ?_⟩
          injection h with h
          subst h
          exact ⟨h8, fun h => by rw [h9 h]⟩
        | ok k u =>
          rw [hm.1 k u hx]
          simp only
          have hm2 := bytes_mono k.toNat u t
          cases hy : bytesR k.toNat u with
          | err e =>
            obtain ⟨h8, h9⟩ := hm2.2 e hy
            refine ⟨fun v r h => (by cases h), fun e2 h => ?_⟩
            injection h with h
            subst h
            exact ⟨h8, fun h => by rw [h9 h]⟩
          | ok a v =>
            rw [hm2.1 a v hy]
            exact ih (acc ++ [a]) v t
set_option maxRecDepth 100000 in
theorem txt_nat (n : Nat) : txt (n : Int) = dec n := by
  unfold Dg.txt
  rw [if_neg (by omega)]
  rfl
set_option maxRecDepth 100000 in
theorem list_ok : ∀ (n : Nat) (acc : List Bytes) (s : Bytes) (v : List Bytes) (r : Bytes), listR n acc s = .ok v r → ∃ l, v = acc ++ l ∧ l.length = n ∧ s = bulks l ++ r := by
  intro n
  induction n with
  | zero => intro acc s v r h; injection h with h1 h2; subst h1 h2; exact ⟨[], by simp, rfl, by simp [bulks]⟩
  | succ n ih =>
    intro acc s v r h
    cases s with
    | nil => cases h
    | cons c s =>
      simp only [listR] at h
      by_cases hc : c ≠ 36
      · rw [if_pos hc] at h; cases h
      · rw [if_neg hc] at h
        have hc : c = 36 := by simpa using hc
        subst hc
        cases hx : numR 0 1099511627776 s with
        | err e => rw [hx] at h; cases h
        | ok k u =>
          rw [hx] at h
          simp only at h
          obtain ⟨e1, b1, b2, _⟩ := num_ok hx
          cases hy : bytesR k.toNat u with
          | err e => rw [hy] at h; cases h
          | ok a w =>
            rw [hy] at h
            simp only at h
            obtain ⟨e2, e3⟩ := bytes_ok hy
            obtain ⟨l, e4, e5, e6⟩ := ih _ _ _ _ h
            refine ⟨a :: l, by rw [e4]; simp, by simp [e5], ?_⟩
            have hk : k = ((a.length : Nat) : Int) := by omega
            rw [e1, e2, e6, hk, txt_nat]
            simp [bulks, bulk]
set_option maxRecDepth 100000 in
theorem list_line {l : List Bytes} (hl : ∀ a ∈ l, a.length ≤ 1099511627776) {acc : List Bytes} {r : Bytes} : listR l.length acc (bulks l ++ r) = .ok (acc ++ l) r := by
  induction l generalizing acc with
  | nil => simp [listR, bulks]
  | cons a l ih =>
    have e : bulks (a :: l) ++ r = 36 :: (txt (a.length : Nat) ++ crlf ++ (a ++ crlf ++ (bulks l ++ r))) := by
      rw [txt_nat]
      simp [bulks, bulk]
    have ha := hl a (by simp)
    rw [e, List.length_cons]
    simp only [listR]
    rw [if_neg (by simp), num_line (by omega) (by omega) (by omega) (by omega)]
    simp only [Int.toNat_natCast]
    rw [bytes_line]
    simp only
    rw [ih (fun b hb => hl b (by simp [hb]))]
    simp
end Go.Proofs.YtflmolhkbpicbaaDoor.Ry
/-
  The mathematics of answers as bytes, on: one answer, many.
-/
namespace Go.Proofs.YtflmolhkbpicbaaDoor.Ry
open Dg (isD dec txt)

/-- no text is longer than may be read, and the number is one of 64 bits -/
def Fit (x : Rep) : Prop := x.t.length ≤ 1099511627776 ∧ x.l.length ≤ 1099511627776 ∧ (∀ a ∈ x.l, a.length ≤ 1099511627776) ∧ -9223372036854775808 ≤ x.n ∧ x.n ≤ 9223372036854775807
set_option maxRecDepth 100000 in
theorem map_mono {α : Type} {f : α → Rep} {g : Bytes → Rd α} (h : Mono g) : Mono (fun s => mapR f (g s)) := by
  intro s t
  obtain ⟨h1, h2⟩ := h s t
  cases hx : g s with
  | ok v r =>
    simp only [hx, mapR, h1 v r hx]
    exact ⟨fun v' r' h => (by injection h with e1 e2; subst e1 e2; rfl), fun e h => (by cases h)⟩
  | err e =>
    obtain ⟨h8, h9⟩ := h2 e hx
    simp only [hx, mapR]
    refine ⟨fun v r h => (by cases h), fun e2 h => ?_⟩
    injection h with h
    subst h
    exact ⟨h8, fun h => by rw [h9 h]⟩
set_option maxRecDepth 100000 in
theorem dec_mono : Mono decR := by
  intro s t
  cases s with
  | nil => exact ⟨fun v r h => (by cases h), fun e h => (by injection h with h; subst h; exact ⟨.inl rfl, fun h => by cases h⟩)⟩
  | cons c s =>
    simp only [List.cons_append, decR]
    by_cases h1 : c = 43
    · simp only [if_pos h1]
      exact map_mono (text_mono []) s t
    · simp only [if_neg h1]
      by_cases h2 : c = 45
      · simp only [if_pos h2]
        exact map_mono (text_mono []) s t
      · simp only [if_neg h2]
        by_cases h3 : c = 58
        · simp only [if_pos h3]
          exact map_mono (num_mono (by omega) (by omega)) s t
        · simp only [if_neg h3]
          by_cases h4 : c = 36
          · simp only [if_pos h4]
            have hm := num_mono (lo := -1) (hi := 1099511627776) (by omega) (by omega) s t
            cases hx : numR (-1) 1099511627776 s with
            | err e =>
              obtain ⟨h8, h9⟩ := hm.2 e hx
              refine ⟨fun v r h => (by cases h), fun e2 h => ?_⟩
              injection h with h
              subst h
              exact ⟨h8, fun h => by rw [h9 h]⟩
            | ok n u =>
              rw [hm.1 n u hx]
              simp only
              by_cases hn : 0 ≤ n
              · simp only [if_pos hn]
                exact map_mono (bytes_mono n.toNat) u t
              · simp only [if_neg hn]
                exact ⟨fun v r h => (by injection h with e1 e2; subst e1 e2; rfl), fun e h => (by cases h)⟩
          · simp only [if_neg h4]
            by_cases h5 : c = 42
            · simp only [if_pos h5]
              have hm := num_mono (lo := 0) (hi := 1099511627776) (by omega) (by omega) s t
              cases hx : numR 0 1099511627776 s with
              | err e =>
                obtain ⟨h8, h9⟩ := hm.2 e hx
                refine ⟨fun v r h => (by cases h), fun e2 h => ?_⟩
                injection h with h
                subst h
                exact ⟨h8, fun h => by rw [h9 h]⟩
              | ok n u =>
                rw [hm.1 n u hx]
                simp only
                exact map_mono (list_mono n.toNat []) u t
            · simp only [if_neg h5]
              exact ⟨fun v r h => (by cases h), fun e h => ⟨.inr (by injection h with h; exact h.symm), fun _ => trivial⟩⟩
set_option maxRecDepth 100000 in
theorem map_ok {α : Type} {f : α → Rep} {g : Rd α} {x : Rep} {r : Bytes} (h : mapR f g = .ok x r) : ∃ v, g = .ok v r ∧ x = f v := by
  cases g with
  | ok v q => injection h with e1 e2; subst e1 e2; exact ⟨v, rfl, rfl⟩
  | err e => cases h
set_option maxRecDepth 100000 in
/-- what is read is plain, and was written -/
theorem dec_ok {s r : Bytes} {x : Rep} (h : decR s = .ok x r) : plain x = x ∧ s = enc x ++ r := by
  cases s with
  | nil => cases h
  | cons c s =>
    simp only [decR] at h
    by_cases h1 : c = 43
    · simp only [if_pos h1] at h
      obtain ⟨v, e1, e2⟩ := map_ok h
      obtain ⟨t, e3, e4, e5⟩ := text_ok e1
      rw [List.nil_append] at e3
      subst e2 e3 h1
      exact ⟨by simp [plain, line_same e5], by simp [enc, line_same e5, e4]⟩
    · simp only [if_neg h1] at h
      by_cases h2 : c = 45
      · simp only [if_pos h2] at h
        obtain ⟨v, e1, e2⟩ := map_ok h
        obtain ⟨t, e3, e4, e5⟩ := text_ok e1
        rw [List.nil_append] at e3
        subst e2 e3 h2
        exact ⟨by simp [plain, line_same e5], by simp [enc, line_same e5, e4]⟩
      · simp only [if_neg h2] at h
        by_cases h3 : c = 58
        · simp only [if_pos h3] at h
          obtain ⟨v, e1, e2⟩ := map_ok h
          obtain ⟨e3, _⟩ := num_ok e1
          subst e2 h3
          exact ⟨by simp [plain], by simp [enc, e3]⟩
        · simp only [if_neg h3] at h
          by_cases h4 : c = 36
          · simp only [if_pos h4] at h
            cases hx : numR (-1) 1099511627776 s with
            | err e => rw [hx] at h; cases h
            | ok n u =>
              rw [hx] at h
              simp only at h
              obtain ⟨e3, b1, b2, _⟩ := num_ok hx
              by_cases hn : 0 ≤ n
              · simp only [if_pos hn] at h
                obtain ⟨v, e1, e2⟩ := map_ok h
                obtain ⟨e4, e5⟩ := bytes_ok e1
                have hk : n = ((v.length : Nat) : Int) := by omega
                subst e2 h4
                refine ⟨by simp [plain], ?_⟩
                rw [e3, e4, hk, txt_nat]
                simp [enc, bulk]
              · simp only [if_neg hn] at h
                injection h with e1 e2
                have hk : n = -1 := by omega
                subst e1 e2 h4 hk
                refine ⟨by simp [plain], ?_⟩
                rw [e3, show txt (-1) = [45, 49] by decide]
                simp [enc, crlf]
          · simp only [if_neg h4] at h
            by_cases h5 : c = 42
            · simp only [if_pos h5] at h
              cases hx : numR 0 1099511627776 s with
              | err e => rw [hx] at h; cases h
              | ok n u =>
                rw [hx] at h
                simp only at h
                obtain ⟨e3, b1, b2, _⟩ := num_ok hx
                obtain ⟨v, e1, e2⟩ := map_ok h
                obtain ⟨l, e4, e5, e6⟩ := list_ok _ _ _ _ _ e1
                rw [List.nil_append] at e4
                have hk : n = ((l.length : Nat) : Int) := by omega
                subst e2 e4 h5
                refine ⟨by simp [plain], ?_⟩
                rw [e3, e6, hk, txt_nat]
                simp [enc]
            · simp only [if_neg h5] at h
              cases h
set_option maxRecDepth 100000 in
/-- what was written is read, as far as its kind has it -/
theorem dec_line {x : Rep} (hx : Fit x) (r : Bytes) : decR (enc x ++ r) = .ok (plain x) r := by
  obtain ⟨f1, f2, f3, f4, f5⟩ := hx
  unfold enc plain
  by_cases h1 : x.k = 1
  · simp only [if_pos h1]
    have e : (43 :: lineR x.t ++ crlf ++ r) = 43 :: (lineR x.t ++ crlf ++ r) := by simp
    rw [e]
    simp only [decR, if_true]
    rw [text_line (line_all _)]
    rfl
  · simp only [if_neg h1]
    by_cases h2 : x.k = 2
    · simp only [if_pos h2]
      have e : (45 :: lineR x.t ++ crlf ++ r) = 45 :: (lineR x.t ++ crlf ++ r) := by simp
      rw [e]
      simp only [decR, if_true, if_neg (show ¬ (45 : UInt8) = 43 by decide)]
      rw [text_line (line_all _)]
      rfl
    · simp only [if_neg h2]
      by_cases h3 : x.k = 3
      · simp only [if_pos h3]
        have e : (58 :: txt x.n ++ crlf ++ r) = 58 :: (txt x.n ++ crlf ++ r) := by simp
        rw [e]
        simp only [decR, if_true, if_neg (show ¬ (58 : UInt8) = 43 by decide), if_neg (show ¬ (58 : UInt8) = 45 by decide)]
        rw [num_line f4 f5 f4 f5]
        rfl
      · simp only [if_neg h3]
        by_cases h4 : x.k = 4
        · simp only [if_pos h4]
          have e : bulk x.t ++ r = 36 :: (txt (x.t.length : Nat) ++ crlf ++ (x.t ++ crlf ++ r)) := by rw [txt_nat]; simp [bulk]
          rw [e]
          simp only [decR, if_true, if_neg (show ¬ (36 : UInt8) = 43 by decide), if_neg (show ¬ (36 : UInt8) = 45 by decide), if_neg (show ¬ (36 : UInt8) = 58 by decide)]
          rw [num_line (by omega) (by omega) (by omega) (by omega)]
          simp only
          rw [if_pos (by omega), Int.toNat_natCast, bytes_line]
          rfl
        · simp only [if_neg h4]
          by_cases h6 : x.k = 6
          · simp only [if_pos h6]
            have e : (42 :: dec x.l.length ++ crlf ++ bulks x.l) ++ r = 42 :: (txt (x.l.length : Nat) ++ crlf ++ (bulks x.l ++ r)) := by rw [txt_nat]; simp
            rw [e]
            simp only [decR, if_true, if_neg (show ¬ (42 : UInt8) = 43 by decide), if_neg (show ¬ (42 : UInt8) = 45 by decide), if_neg (show ¬ (42 : UInt8) = 58 by decide), if_neg (show ¬ (42 : UInt8) = 36 by decide)]
            rw [num_line (by omega) (by omega) (by omega) (by omega)]
            simp only [Int.toNat_natCast]
            rw [list_line f3]
            rfl
          · simp only [if_neg h6]
            have e : ([36, 45, 49, 13, 10] : Bytes) ++ r = 36 :: (txt (-1) ++ crlf ++ r) := by rw [show txt (-1) = [45, 49] by decide]; simp [crlf]
            rw [e]
            simp only [decR, if_true, if_neg (show ¬ (36 : UInt8) = 43 by decide), if_neg (show ¬ (36 : UInt8) = 45 by decide), if_neg (show ¬ (36 : UInt8) = 58 by decide)]
            rw [num_line (by omega) (by omega) (by omega) (by omega)]
            rfl
set_option maxRecDepth 100000 in
/-- cut short, it is told so -/
theorem dec_short {x : Rep} (hx : Fit x) {k : Nat} (hk : k < (enc x).length) : decR ((enc x).take k) = .err 8 := by
  have h := dec_line hx []
  rw [List.append_nil] at h
  have hs : enc x = (enc x).take k ++ (enc x).drop k := (List.take_append_drop k _).symm
  have hm := dec_mono ((enc x).take k) ((enc x).drop k)
  rw [← hs, h] at hm
  cases hq : decR ((enc x).take k) with
  | ok v r =>
    have := hm.1 v r hq
    injection this with h1 h2
    have hl := congrArg List.length h2
    rw [List.length_append, List.length_drop] at hl
    simp at hl
    omega
  | err e =>
    obtain ⟨h8, h9⟩ := hm.2 e hq
    rcases h8 with h8 | h8
    · rw [h8]
    · have := h9 h8; cases this
/-- many answers -/
def allR : Nat → Bytes → List Rep × Nat
  | 0, _ => ([], 0)
  | f + 1, s => if s = [] then ([], 0) else match decR s with
    | .err e => ([], e)
    | .ok x r => match allR f r with
      | (l, 0) => (x :: l, 0)
      | (_, e + 1) => ([], e + 1)
set_option maxRecDepth 100000 in
theorem enc_pos (x : Rep) : 1 ≤ (enc x).length := by
  unfold enc
  by_cases h1 : x.k = 1
  · simp [h1]
  · by_cases h2 : x.k = 2
    · simp [h2]
    · by_cases h3 : x.k = 3
      · simp [h3]
      · by_cases h4 : x.k = 4
        · simp [h4, bulk]
        · by_cases h6 : x.k = 6
          · simp [h6]
          · simp [h1, h2, h3, h4, h6]
set_option maxRecDepth 100000 in
theorem dec_len {s r : Bytes} {x : Rep} (h : decR s = .ok x r) : r.length < s.length := by
  obtain ⟨_, e⟩ := dec_ok h
  rw [e, List.length_append]
  have := enc_pos x
  omega
set_option maxRecDepth 100000 in
theorem all_fuel (s : Bytes) : ∀ (f g : Nat), s.length ≤ f → s.length ≤ g → allR f s = allR g s := by
  suffices ∀ (n : Nat) (s : Bytes), s.length ≤ n → ∀ f g, s.length ≤ f → s.length ≤ g → allR f s = allR g s from this s.length s (Nat.le_refl _)
  intro n
  induction n with
  | zero =>
    intro s hs f g _ _
    obtain rfl := List.eq_nil_of_length_eq_zero (by omega : s.length = 0)
    cases f <;> cases g <;> simp [allR]
  | succ n ih =>
    intro s hs f g hf hg
    by_cases h0 : s = []
    · subst h0
      cases f <;> cases g <;> simp [allR]
    · have hp := List.length_pos_iff.2 h0
      obtain ⟨f', rfl⟩ : ∃ k, f = k + 1 := ⟨f - 1, by omega⟩
      obtain ⟨g', rfl⟩ : ∃ k, g = k + 1 := ⟨g - 1, by omega⟩
      simp only [allR, if_neg h0]
      cases hd : decR s with
      | err e => rfl
      | ok x r =>
        have := dec_len hd
        simp only
        rw [ih r (by omega) f' g' (by omega) (by omega)]
def all (s : Bytes) : List Rep × Nat := allR s.length s
set_option maxRecDepth 100000 in
theorem all_nil : all [] = ([], 0) := rfl
set_option maxRecDepth 100000 in
theorem all_err {s : Bytes} {e : Nat} (h0 : s ≠ []) (h : decR s = .err e) : all s = ([], e) := by
  have hp := List.length_pos_iff.2 h0
  unfold all
  obtain ⟨f', hf⟩ : ∃ k, s.length = k + 1 := ⟨s.length - 1, by omega⟩
  rw [hf]
  simp only [allR, if_neg h0, h]
set_option maxRecDepth 100000 in
theorem all_ok {s r : Bytes} {x : Rep} (h : decR s = .ok x r) : all s = match all r with
    | (l, 0) => (x :: l, 0)
    | (_, e + 1) => ([], e + 1) := by
  have hl := dec_len h
  have h0 : s ≠ [] := fun e => by subst e; simp at hl
  unfold all
  obtain ⟨f', hf⟩ : ∃ k, s.length = k + 1 := ⟨s.length - 1, by omega⟩
  rw [hf]
  simp only [allR, if_neg h0, h]
  rw [all_fuel r f' r.length (by omega) (Nat.le_refl _)]
set_option maxRecDepth 100000 in
/-- what was written, one behind the other, is read -/
theorem all_encs {l : List Rep} (h : ∀ x ∈ l, Fit x) : all (encs l) = (l.map plain, 0) := by
  induction l with
  | nil => rfl
  | cons x l ih =>
    have e : encs (x :: l) = enc x ++ encs l := by simp [encs]
    rw [e, all_ok (dec_line (h x (by simp)) (encs l)), ih (fun y hy => h y (by simp [hy]))]
    rfl
end Go.Proofs.YtflmolhkbpicbaaDoor.Ry
/-
  Plain mathematics for the laws of answers: how many bytes; bytes tell answers.
-/
namespace Go.Proofs.YtflmolhkbpicbaaDoor.Ry
open Dg (isD dec txt)

/-- how many bytes of texts, and one for each -/
def txL (l : List Bytes) : Nat := (l.map fun a => 1 + a.length).sum
def longR (x : Rep) : Nat := 1 + x.t.length + txL x.l
def longs (l : List Rep) : Nat := (l.map longR).sum
set_option maxRecDepth 100000 in
theorem longs_cons (x : Rep) (l : List Rep) : longs (x :: l) = longR x + longs l := by simp [longs]
set_option maxRecDepth 100000 in
theorem longs_append (k l : List Rep) : longs (k ++ l) = longs k + longs l := by simp [longs]
set_option maxRecDepth 100000 in
theorem txL_cons (a : Bytes) (l : List Bytes) : txL (a :: l) = 1 + a.length + txL l := by simp [txL]
set_option maxRecDepth 100000 in
theorem txL_append (k l : List Bytes) : txL (k ++ l) = txL k + txL l := by simp [txL]
set_option maxRecDepth 100000 in
theorem txL_mem {a : Bytes} {l : List Bytes} (h : a ∈ l) : 1 + a.length ≤ txL l := by
  induction l with
  | nil => cases h
  | cons b l ih =>
    rw [txL_cons]
    rcases List.mem_cons.1 h with rfl | h
    · omega
    · have := ih h; omega
set_option maxRecDepth 100000 in
theorem txL_len (l : List Bytes) : l.length ≤ txL l := by
  induction l with
  | nil => simp [txL]
  | cons b l ih => rw [txL_cons, List.length_cons]; omega
set_option maxRecDepth 100000 in
theorem longs_mem {x : Rep} {l : List Rep} (h : x ∈ l) : longR x ≤ longs l := by
  induction l with
  | nil => cases h
  | cons b l ih =>
    rw [longs_cons]
    rcases List.mem_cons.1 h with rfl | h
    · omega
    · have := ih h; omega
set_option maxRecDepth 100000 in
theorem longs_len (l : List Rep) : l.length ≤ longs l := by
  induction l with
  | nil => simp [longs]
  | cons b l ih => rw [longs_cons, List.length_cons]; unfold longR; omega
/-- a number that a register holds -/
def N64 (x : Rep) : Prop := -9223372036854775808 ≤ x.n ∧ x.n ≤ 9223372036854775807
set_option maxRecDepth 100000 in
theorem long_fit {x : Rep} (h : longR x ≤ 100000) (hn : N64 x) : Fit x := by
  unfold longR at h
  refine ⟨by omega, ?_, fun a ha => ?_, hn.1, hn.2⟩
  · have := txL_len x.l; omega
  · have := txL_mem ha; omega
set_option maxRecDepth 100000 in
theorem long_plain (x : Rep) : longR (plain x) ≤ longR x := by
  unfold plain longR
  have e : ∀ s, (lineR s).length = s.length := fun s => by simp [lineR]
  split
  · simp only [e, txL, List.map_nil, List.sum_nil]; omega
  · split
    · simp only [e, txL, List.map_nil, List.sum_nil]; omega
    · split
      · simp [txL] <;> omega
      · split
        · simp [txL] <;> omega
        · split
          · simp <;> omega
          · simp [txL] <;> omega
set_option maxRecDepth 100000 in
theorem n64_plain {x : Rep} (h : N64 x) : N64 (plain x) := by
  unfold plain N64 at *
  split
  · simp
  · split
    · simp
    · split
      · exact h
      · split
        · simp
        · split
          · simp
          · simp
set_option maxRecDepth 100000 in
/-- bytes tell answers -/
theorem enc_inj {x y : Rep} (hx : Fit x) (hy : Fit y) (h : enc x = enc y) : plain x = plain y := by
  have h1 := dec_line hx []
  have h2 := dec_line hy []
  rw [h, h2] at h1
  injection h1 with h1
  exact h1.symm
set_option maxRecDepth 100000 in
theorem enc_iff {x y : Rep} (hx : Fit x) (hy : Fit y) : enc x = enc y ↔ plain x = plain y :=
  ⟨enc_inj hx hy, fun h => by rw [← enc_plain x, ← enc_plain y, h]⟩
set_option maxRecDepth 100000 in
theorem encs_cons (x : Rep) (l : List Rep) : encs (x :: l) = enc x ++ encs l := by simp [encs]
set_option maxRecDepth 100000 in
theorem encs_append (k l : List Rep) : encs (k ++ l) = encs k ++ encs l := by simp [encs]
set_option maxRecDepth 100000 in
theorem encs_one (x : Rep) : encs [x] = enc x := by simp [encs]
set_option maxRecDepth 100000 in
theorem txL_take_le (l : List Bytes) (k : Nat) : txL (l.take k) ≤ txL l := by
  have h : txL l = txL (l.take k) + txL (l.drop k) := by rw [← txL_append, List.take_append_drop]
  omega
set_option maxRecDepth 100000 in
theorem longs_take_le (l : List Rep) (k : Nat) : longs (l.take k) ≤ longs l := by
  have h : longs l = longs (l.take k) + longs (l.drop k) := by rw [← longs_append, List.take_append_drop]
  omega
set_option maxRecDepth 100000 in
theorem txL_snoc (l : List Bytes) (a : Bytes) : txL (l ++ [a]) = txL l + (1 + a.length) := by rw [txL_append, txL_cons]; simp [txL]
set_option maxRecDepth 100000 in
theorem longs_snoc (l : List Rep) (x : Rep) : longs (l ++ [x]) = longs l + longR x := by rw [longs_append, longs_cons]; simp [longs]
set_option maxRecDepth 100000 in
/-- how many bytes an answer has -/
theorem bulk_len (s : Bytes) (h : s.length ≤ 100000) : (bulk s).length ≤ s.length + 24 := by
  have := Dg.dec_len19 s.length (by omega)
  unfold bulk crlf
  simp only [List.length_append, List.length_cons, List.length_nil]
  omega
set_option maxRecDepth 100000 in
theorem bulks_cons (a : Bytes) (l : List Bytes) : bulks (a :: l) = bulk a ++ bulks l := by simp [bulks]
set_option maxRecDepth 100000 in
theorem bulks_append (k l : List Bytes) : bulks (k ++ l) = bulks k ++ bulks l := by simp [bulks]
set_option maxRecDepth 100000 in
theorem bulks_len (l : List Bytes) (h : txL l ≤ 100000) : (bulks l).length ≤ 24 * txL l := by
  induction l with
  | nil => simp [bulks]
  | cons a l ih =>
    rw [txL_cons] at h ⊢
    rw [bulks_cons, List.length_append]
    have h1 := bulk_len a (by omega)
    have h2 := ih (by omega)
    omega
set_option maxRecDepth 100000 in
theorem enc_len {x : Rep} (h : longR x ≤ 100000) (hn : N64 x) : (enc x).length ≤ 24 * longR x := by
  unfold longR at h ⊢
  unfold enc
  have e : ∀ s, (lineR s).length = s.length := fun s => by simp [lineR]
  split
  · simp only [List.length_append, List.length_cons, List.length_nil, e, crlf]; omega
  · split
    · simp only [List.length_append, List.length_cons, List.length_nil, e, crlf]; omega
    · split
      · have := (Dg.txt_len x.n hn.1 hn.2).1
        simp only [List.length_append, List.length_cons, List.length_nil, crlf]; omega
      · split
        · have := bulk_len x.t (by omega); omega
        · split
          · have h1 := txL_len x.l
            have h2 := Dg.dec_len19 x.l.length (by omega)
            have h3 := bulks_len x.l (by omega)
            simp only [List.length_append, List.length_cons, List.length_nil, crlf]; omega
          · simp; omega
set_option maxRecDepth 100000 in
theorem encs_len {l : List Rep} (h : longs l ≤ 100000) (hn : ∀ x ∈ l, N64 x) : (encs l).length ≤ 24 * longs l := by
  induction l with
  | nil => simp [encs]
  | cons x l ih =>
    rw [longs_cons] at h ⊢
    rw [encs_cons, List.length_append]
    have h1 := enc_len (x := x) (by omega) (hn x (by simp))
    have h2 := ih (by omega) (fun y hy => hn y (by simp [hy]))
    omega
set_option maxRecDepth 100000 in
/-- an answer has more bytes than its texts -/
theorem bulks_long (l : List Bytes) : txL l ≤ (bulks l).length := by
  induction l with
  | nil => simp [txL]
  | cons a l ih =>
    rw [txL_cons, bulks_cons, List.length_append]
    have : 1 + a.length ≤ (bulk a).length := by unfold bulk crlf; simp only [List.length_append, List.length_cons, List.length_nil]; omega
    omega
set_option maxRecDepth 100000 in
theorem enc_long {x : Rep} (h : plain x = x) : longR x ≤ (enc x).length := by
  have e : ∀ s, (lineR s).length = s.length := fun s => by simp [lineR]
  have h0 : longR x = longR (plain x) := by rw [h]
  rw [h0]
  unfold enc plain longR
  split
  · simp only [List.length_append, List.length_cons, List.length_nil, e, crlf, txL, List.map_nil, List.sum_nil]; omega
  · split
    · simp only [List.length_append, List.length_cons, List.length_nil, e, crlf, txL, List.map_nil, List.sum_nil]; omega
    · split
      · simp only [List.length_append, List.length_cons, List.length_nil, crlf, txL, List.map_nil, List.sum_nil]; omega
      · split
        · unfold bulk; simp only [List.length_append, List.length_cons, List.length_nil, crlf, txL, List.map_nil, List.sum_nil]; omega
        · split
          · have := bulks_long x.l
            simp only [List.length_append, List.length_cons, List.length_nil, crlf]; omega
          · simp [txL]
set_option maxRecDepth 100000 in
/-- what is read has a number that a register holds -/
theorem dec_n64 {s r : Bytes} {x : Rep} (h : decR s = .ok x r) : N64 x := by
  cases s with
  | nil => cases h
  | cons c s =>
    simp only [decR] at h
    split at h
    · obtain ⟨v, _, rfl⟩ := map_ok h; simp [N64]
    · split at h
      · obtain ⟨v, _, rfl⟩ := map_ok h; simp [N64]
      · split at h
        · obtain ⟨v, hv, rfl⟩ := map_ok h
          have := num_ok hv
          exact ⟨this.2.2.2.1, this.2.2.2.2⟩
        · split at h
          · cases hq : numR (-1) 1099511627776 s with
            | err e => rw [hq] at h; cases h
            | ok n u =>
              rw [hq] at h
              simp only at h
              split at h
              · obtain ⟨v, _, rfl⟩ := map_ok h; simp [N64]
              · injection h with h1 h2; subst h1; simp [N64]
          · split at h
            · cases hq : numR 0 1099511627776 s with
              | err e => rw [hq] at h; cases h
              | ok n u =>
                rw [hq] at h
                simp only at h
                obtain ⟨v, _, rfl⟩ := map_ok h
                simp [N64]
            · cases h
end Go.Proofs.YtflmolhkbpicbaaDoor.Ry
