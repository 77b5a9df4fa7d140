/-
  The mathematics of commands as bytes: a machine that goes byte by byte; what it has read, and that it reads what was written.
-/
import Derived.Test.YtgjedhdnnfdcgaaDigMath
namespace Go.Proofs.Ytgjedhdnnfdcgaa.Rp

open Dg (dec dec_lt dec_ge dig dig_toNat dec_ne)
abbrev Bytes := List UInt8
def valN (ds : Bytes) : Nat := ds.foldl (fun a c => 10 * a + (c.toNat - 48)) 0
theorem valN_snoc (l : Bytes) (c : UInt8) : valN (l ++ [c]) = 10 * valN l + (c.toNat - 48) := by simp [valN, List.foldl_append]
theorem valN_dec (n : Nat) : valN (dec n) = n := by
  induction n using Nat.strongRecOn with
  | ind n ih =>
    by_cases h : n < 10
    · rw [dec_lt h]
      show 10 * 0 + ((dig n).toNat - 48) = n
      rw [dig_toNat]; omega
    · rw [dec_ge h, valN_snoc, ih (n / 10) (by omega), dig_toNat]
      omega
/-- the digits of a number in bounds -/
def valid (lo hi : Nat) (ds : Bytes) : Bool := decide (dec (valN ds) = ds) && decide (lo ≤ valN ds) && decide (valN ds ≤ hi)
theorem valid_iff {lo hi : Nat} {ds : Bytes} : valid lo hi ds = true ↔ ∃ n, ds = dec n ∧ lo ≤ n ∧ n ≤ hi := by
  unfold valid
  simp only [Bool.and_eq_true, decide_eq_true_eq]
  constructor
  · rintro ⟨⟨h1, h2⟩, h3⟩; exact ⟨_, h1.symm, h2, h3⟩
  · rintro ⟨n, rfl, h2, h3⟩; rw [valN_dec]; exact ⟨⟨rfl, h2⟩, h3⟩
theorem valid_dec {lo hi n : Nat} (h1 : lo ≤ n) (h2 : n ≤ hi) : valid lo hi (dec n) = true := valid_iff.2 ⟨n, rfl, h1, h2⟩
/-- a begin of digits that are a number's is a number's -/
theorem valid_begin {lo hi : Nat} {ds : Bytes} {c : UInt8} (hlo : lo ≤ 1) (h : valid lo hi (ds ++ [c]) = true) : ds = [] ∨ valid lo hi ds = true := by
  obtain ⟨n, hn, h1, h2⟩ := valid_iff.1 h
  by_cases h10 : n < 10
  · rw [dec_lt h10] at hn
    have hl := congrArg List.length hn
    simp only [List.length_append, List.length_singleton] at hl
    exact .inl (List.eq_nil_of_length_eq_zero (by omega))
  · rw [dec_ge h10] at hn
    have := (List.append_inj' hn rfl).1
    exact .inr (valid_iff.2 ⟨n / 10, this, by omega, by omega⟩)

inductive St where
  | star
  | many (ds : Bytes)
  | manyCr (n : Nat)
  | dollar (left : Nat) (args : List Bytes)
  | len (left : Nat) (args : List Bytes) (ds : Bytes)
  | lenCr (left : Nat) (args : List Bytes) (n : Nat)
  | body (left : Nat) (args : List Bytes) (n : Nat) (bs : Bytes)
  | bodyCr (left : Nat) (args : List Bytes) (bs : Bytes)
  | bad

def step (s : St) (c : UInt8) : St × Option (List Bytes) :=
  match s with
  | .star => if c = 42 then (.many [], none) else (.bad, none)
  | .many ds => if c = 13 then (if valid 1 50 ds then (.manyCr (valN ds), none) else (.bad, none)) else if valid 1 50 (ds ++ [c]) then (.many (ds ++ [c]), none) else (.bad, none)
  | .manyCr n => if c = 10 then (.dollar n [], none) else (.bad, none)
  | .dollar left args => if c = 36 then (.len left args [], none) else (.bad, none)
  | .len left args ds => if c = 13 then (if valid 0 1000 ds then (.lenCr left args (valN ds), none) else (.bad, none)) else if valid 0 1000 (ds ++ [c]) then (.len left args (ds ++ [c]), none) else (.bad, none)
  | .lenCr left args n => if c = 10 then (.body left args n [], none) else (.bad, none)
  | .body left args n bs => if bs.length < n then (.body left args n (bs ++ [c]), none) else if c = 13 then (.bodyCr left args bs, none) else (.bad, none)
  | .bodyCr left args bs => if c = 10 then (if left ≤ 1 then (.star, some (args ++ [bs])) else (.dollar (left - 1) (args ++ [bs]), none)) else (.bad, none)
  | .bad => (.bad, none)
def run : St → Bytes → St × List (List Bytes)
  | s, [] => (s, [])
  | s, c :: l => ((run (step s c).1 l).1, (step s c).2.toList ++ (run (step s c).1 l).2)
theorem run_append (s : St) (a b : Bytes) : run s (a ++ b) = ((run (run s a).1 b).1, (run s a).2 ++ (run (run s a).1 b).2) := by
  induction a generalizing s with
  | nil => simp [run]
  | cons c a ih => simp only [List.cons_append, run, ih, List.append_assoc]
theorem run_bad (l : Bytes) : run .bad l = (.bad, []) := by
  induction l with
  | nil => rfl
  | cons c l ih => simp [run, step, ih]

def crlf : Bytes := [13, 10]
def encA (a : Bytes) : Bytes := 36 :: dec a.length ++ crlf ++ a ++ crlf
def encAs (l : List Bytes) : Bytes := l.flatMap encA
def enc (args : List Bytes) : Bytes := 42 :: dec args.length ++ crlf ++ encAs args
def encs (l : List (List Bytes)) : Bytes := l.flatMap enc
def May (args : List Bytes) : Prop := 1 ≤ args.length ∧ args.length ≤ 50 ∧ ∀ a ∈ args, a.length ≤ 1000

/-- what was read since the last command -/
def got : St → Bytes
  | .star => []
  | .many ds => 42 :: ds
  | .manyCr n => 42 :: dec n ++ [13]
  | .dollar left args => 42 :: dec (left + args.length) ++ crlf ++ encAs args
  | .len left args ds => 42 :: dec (left + args.length) ++ crlf ++ encAs args ++ 36 :: ds
  | .lenCr left args n => 42 :: dec (left + args.length) ++ crlf ++ encAs args ++ 36 :: dec n ++ [13]
  | .body left args n bs => 42 :: dec (left + args.length) ++ crlf ++ encAs args ++ 36 :: dec n ++ crlf ++ bs
  | .bodyCr left args bs => 42 :: dec (left + args.length) ++ crlf ++ encAs args ++ 36 :: dec bs.length ++ crlf ++ bs ++ [13]
  | .bad => []
def Fit (left : Nat) (args : List Bytes) : Prop := 1 ≤ left ∧ left + args.length ≤ 50 ∧ ∀ a ∈ args, a.length ≤ 1000
def Ok : St → Prop
  | .star => True
  | .many ds => ds = [] ∨ valid 1 50 ds = true
  | .manyCr n => 1 ≤ n ∧ n ≤ 50
  | .dollar left args => Fit left args
  | .len left args ds => Fit left args ∧ (ds = [] ∨ valid 0 1000 ds = true)
  | .lenCr left args n => Fit left args ∧ n ≤ 1000
  | .body left args n bs => Fit left args ∧ n ≤ 1000 ∧ bs.length ≤ n
  | .bodyCr left args bs => Fit left args ∧ bs.length ≤ 1000
  | .bad => True

theorem dec_valN {lo hi : Nat} {ds : Bytes} (h : valid lo hi ds = true) : dec (valN ds) = ds ∧ lo ≤ valN ds ∧ valN ds ≤ hi := by
  obtain ⟨n, rfl, h1, h2⟩ := valid_iff.1 h
  rw [valN_dec]; exact ⟨rfl, h1, h2⟩
/-- one byte more -/
theorem step_ok {s : St} (h : Ok s) (c : UInt8) : Ok (step s c).1 ∧ (∀ x, (step s c).2 = some x → May x) ∧ ((step s c).1 = .bad ∧ (step s c).2 = none ∨ got s ++ [c] = encs (step s c).2.toList ++ got (step s c).1) := by
  cases s with
  | star =>
    unfold step
    by_cases hc : c = 42
    · rw [if_pos hc]; subst hc; exact ⟨.inl rfl, fun x hx => (by cases hx), .inr rfl⟩
    · rw [if_neg hc]; exact ⟨trivial, fun x hx => (by cases hx), .inl ⟨rfl, rfl⟩⟩
  | many ds =>
    unfold step
    simp only
    by_cases hc : c = 13
    · rw [if_pos hc]; subst hc
      by_cases hv : valid 1 50 ds = true
      · rw [if_pos hv]
        obtain ⟨e, h1, h2⟩ := dec_valN hv
        refine ⟨⟨h1, h2⟩, fun x hx => (by cases hx), .inr ?_⟩
        simp [got, encs, e]
      · rw [if_neg hv]; exact ⟨trivial, fun x hx => (by cases hx), .inl ⟨rfl, rfl⟩⟩
    · rw [if_neg hc]
      by_cases hv : valid 1 50 (ds ++ [c]) = true
      · rw [if_pos hv]; exact ⟨.inr hv, fun x hx => (by cases hx), .inr (by simp [got, encs])⟩
      · rw [if_neg hv]; exact ⟨trivial, fun x hx => (by cases hx), .inl ⟨rfl, rfl⟩⟩
  | manyCr n =>
    unfold step
    simp only
    by_cases hc : c = 10
    · rw [if_pos hc]; subst hc
      have h' : 1 ≤ n ∧ n ≤ 50 := h
      exact ⟨⟨h'.1, h'.2, fun a ha => (by cases ha)⟩, fun x hx => (by cases hx), .inr (by simp [got, encs, crlf, encAs])⟩
    · rw [if_neg hc]; exact ⟨trivial, fun x hx => (by cases hx), .inl ⟨rfl, rfl⟩⟩
  | dollar left args =>
    unfold step
    simp only
    by_cases hc : c = 36
    · rw [if_pos hc]; subst hc
      exact ⟨⟨h, .inl rfl⟩, fun x hx => (by cases hx), .inr (by simp [got, encs])⟩
    · rw [if_neg hc]; exact ⟨trivial, fun x hx => (by cases hx), .inl ⟨rfl, rfl⟩⟩
  | len left args ds =>
    unfold step
    simp only
    by_cases hc : c = 13
    · rw [if_pos hc]; subst hc
      by_cases hv : valid 0 1000 ds = true
      · rw [if_pos hv]
        obtain ⟨e, h1, h2⟩ := dec_valN hv
        exact ⟨⟨h.1, h2⟩, fun x hx => (by cases hx), .inr (by simp [got, encs, e])⟩
      · rw [if_neg hv]; exact ⟨trivial, fun x hx => (by cases hx), .inl ⟨rfl, rfl⟩⟩
    · rw [if_neg hc]
      by_cases hv : valid 0 1000 (ds ++ [c]) = true
      · rw [if_pos hv]; exact ⟨⟨h.1, .inr hv⟩, fun x hx => (by cases hx), .inr (by simp [got, encs])⟩
      · rw [if_neg hv]; exact ⟨trivial, fun x hx => (by cases hx), .inl ⟨rfl, rfl⟩⟩
  | lenCr left args n =>
    unfold step
    simp only
    by_cases hc : c = 10
    · rw [if_pos hc]; subst hc
      exact ⟨⟨h.1, h.2, Nat.zero_le _⟩, fun x hx => (by cases hx), .inr (by simp [got, encs, crlf])⟩
    · rw [if_neg hc]; exact ⟨trivial, fun x hx => (by cases hx), .inl ⟨rfl, rfl⟩⟩
  | body left args n bs =>
    obtain ⟨hF, hn, hb⟩ := (h : Fit left args ∧ n ≤ 1000 ∧ bs.length ≤ n)
    unfold step
    simp only
    by_cases hl : bs.length < n
    · rw [if_pos hl]
      exact ⟨⟨hF, hn, by rw [List.length_append, List.length_singleton]; omega⟩, fun x hx => (by cases hx), .inr (by simp [got, encs])⟩
    · rw [if_neg hl]
      by_cases hc : c = 13
      · rw [if_pos hc]; subst hc
        obtain rfl : bs.length = n := by omega
        exact ⟨⟨hF, hn⟩, fun x hx => (by cases hx), .inr (by simp [got, encs])⟩
      · rw [if_neg hc]; exact ⟨trivial, fun x hx => (by cases hx), .inl ⟨rfl, rfl⟩⟩
  | bodyCr left args bs =>
    obtain ⟨⟨h1, h2, h3⟩, hb⟩ := (h : Fit left args ∧ bs.length ≤ 1000)
    have hall : ∀ a ∈ args ++ [bs], a.length ≤ 1000 := fun a ha => (List.mem_append.1 ha).elim (h3 a) (fun ha => by rw [List.mem_singleton] at ha; rw [ha]; exact hb)
    have henc : encAs (args ++ [bs]) = encAs args ++ encA bs := by simp [encAs]
    unfold step
    simp only
    by_cases hc : c = 10
    · rw [if_pos hc]; subst hc
      by_cases hl : left ≤ 1
      · rw [if_pos hl]
        obtain rfl : left = 1 := by omega
        refine ⟨trivial, fun x hx => ?_, .inr ?_⟩
        · injection hx with hx
          subst hx
          exact ⟨by simp, by simp; omega, hall⟩
        · simp [got, encs, enc, henc, encA, crlf, Nat.add_comm]
      · rw [if_neg hl]
        refine ⟨⟨by omega, by simp; omega, hall⟩, fun x hx => (by cases hx), .inr ?_⟩
        have e : left - 1 + (args ++ [bs]).length = left + args.length := by simp; omega
        simp only [got, e, henc]
        simp [encs, encA, crlf]
    · rw [if_neg hc]; exact ⟨trivial, fun x hx => (by cases hx), .inl ⟨rfl, rfl⟩⟩
  | bad => exact ⟨trivial, fun x hx => (by cases hx), .inl ⟨rfl, rfl⟩⟩

/-- many bytes more: what was read is what was written -/
theorem run_ok {s : St} (h : Ok s) (l : Bytes) : Ok (run s l).1 ∧ (∀ x ∈ (run s l).2, May x) ∧ ∃ rest, got s ++ l = encs (run s l).2 ++ rest ∧ ((run s l).1 = .bad ∨ rest = got (run s l).1) := by
  induction l generalizing s with
  | nil => exact ⟨h, fun x hx => (by cases hx), got s, by simp [run, encs], .inr rfl⟩
  | cons c l ih =>
    obtain ⟨h1, h2, h3⟩ := step_ok h c
    obtain ⟨i1, i2, rest, i3, i4⟩ := ih h1
    refine ⟨i1, fun x hx => ?_, ?_⟩
    · rcases List.mem_append.1 hx with hx | hx
      · cases hq : (step s c).2 with
        | none => rw [hq] at hx; cases hx
        | some y => rw [hq] at hx; simp at hx; subst hx; exact h2 _ hq
      · exact i2 x hx
    · rcases h3 with ⟨hb, hn⟩ | he
      · refine ⟨got s ++ c :: l, ?_, .inl ?_⟩
        · simp only [run, hb, hn, run_bad]
          simp [encs]
        · simp only [run, hb, run_bad]
      · refine ⟨rest, ?_, i4⟩
        have e1 : got s ++ c :: l = (got s ++ [c]) ++ l := by simp
        rw [e1, he, List.append_assoc, i3]
        simp only [run, encs, List.flatMap_append, List.append_assoc]

theorem valid_prefix {lo hi : Nat} (hlo : lo ≤ 1) (b : Bytes) : ∀ (n : Nat) {a : Bytes}, b.length = n → valid lo hi (a ++ b) = true → a = [] ∨ valid lo hi a = true := by
  intro n
  induction n generalizing b with
  | zero =>
    intro a hb h
    obtain rfl := List.eq_nil_of_length_eq_zero hb
    rw [List.append_nil] at h
    exact .inr h
  | succ n ih =>
    intro a hb h
    rcases List.eq_nil_or_concat b with rfl | ⟨b', c, e⟩
    · simp at hb
    · rw [List.concat_eq_append] at e
      subst e
      rw [← List.append_assoc] at h
      rcases valid_begin hlo h with h0 | h0
      · exact .inl (List.append_eq_nil_iff.1 h0).1
      · exact ih b' (by simpa using hb) h0
theorem digit_ne13 {lo hi : Nat} {ds : Bytes} (h : valid lo hi ds = true) : ∀ c ∈ ds, c ≠ 13 := by
  obtain ⟨n, rfl, _, _⟩ := valid_iff.1 h
  intro c hc e
  have := Dg.dec_all n c hc
  subst e
  simp [Dg.isD] at this
theorem run_many {ds l : Bytes} (h : l = [] ∨ valid 1 50 (ds ++ l) = true) : run (.many ds) l = (.many (ds ++ l), []) := by
  induction l generalizing ds with
  | nil => simp [run]
  | cons c l ih =>
    have hv : valid 1 50 (ds ++ c :: l) = true := h.resolve_left (by simp)
    have h13 : c ≠ 13 := digit_ne13 hv c (by simp)
    have hv2 : valid 1 50 ((ds ++ [c]) ++ l) = true := by simpa using hv
    have hp : valid 1 50 (ds ++ [c]) = true := (valid_prefix (by decide) l _ rfl hv2).resolve_left (by simp)
    simp only [run, step, if_neg h13, if_pos hp]
    rw [ih (.inr hv2)]
    simp
theorem run_len {left : Nat} {args : List Bytes} {ds l : Bytes} (h : l = [] ∨ valid 0 1000 (ds ++ l) = true) : run (.len left args ds) l = (.len left args (ds ++ l), []) := by
  induction l generalizing ds with
  | nil => simp [run]
  | cons c l ih =>
    have hv : valid 0 1000 (ds ++ c :: l) = true := h.resolve_left (by simp)
    have h13 : c ≠ 13 := digit_ne13 hv c (by simp)
    have hv2 : valid 0 1000 ((ds ++ [c]) ++ l) = true := by simpa using hv
    have hp : valid 0 1000 (ds ++ [c]) = true := (valid_prefix (by decide) l _ rfl hv2).resolve_left (by simp)
    simp only [run, step, if_neg h13, if_pos hp]
    rw [ih (.inr hv2)]
    simp
theorem run_body {left n : Nat} {args : List Bytes} {bs l : Bytes} (h : bs.length + l.length ≤ n) : run (.body left args n bs) l = (.body left args n (bs ++ l), []) := by
  induction l generalizing bs with
  | nil => simp [run]
  | cons c l ih =>
    simp only [List.length_cons] at h
    have hl : bs.length < n := by omega
    simp only [run, step, if_pos hl]
    rw [ih (by simp; omega)]
    simp
/-- one argument, read -/
theorem run_arg {left : Nat} {args : List Bytes} {a : Bytes} (ha : a.length ≤ 1000) : run (.dollar left args) (encA a) = if left ≤ 1 then (.star, [args ++ [a]]) else (.dollar (left - 1) (args ++ [a]), []) := by
  have e : encA a = [36] ++ (dec a.length ++ ([13] ++ ([10] ++ (a ++ ([13] ++ [10]))))) := by simp [encA, crlf]
  have hv := valid_dec (lo := 0) (hi := 1000) (Nat.zero_le a.length) ha
  have h1 : run (.dollar left args) [36] = (.len left args [], []) := by simp [run, step]
  have h2 : run (.len left args []) (dec a.length) = (.len left args (dec a.length), []) := by rw [run_len (.inr (by simpa using hv))]; simp
  have h3 : run (.len left args (dec a.length)) [13] = (.lenCr left args a.length, []) := by simp [run, step, hv, valN_dec]
  have h4 : run (.lenCr left args a.length) [10] = (.body left args a.length [], []) := by simp [run, step]
  have h5 : run (.body left args a.length []) a = (.body left args a.length a, []) := by rw [run_body (by simp)]; simp
  have h6 : run (.body left args a.length a) [13] = (.bodyCr left args a, []) := by simp [run, step]
  rw [e, run_append, h1, run_append, h2, run_append, h3, run_append, h4, run_append, h5, run_append, h6]
  by_cases hl : left ≤ 1
  · simp [run, step, hl]
  · simp [run, step, hl]
theorem run_args {l : List Bytes} (hl : l ≠ []) (hm : ∀ a ∈ l, a.length ≤ 1000) {args : List Bytes} : run (.dollar l.length args) (encAs l) = (.star, [args ++ l]) := by
  induction l generalizing args with
  | nil => exact absurd rfl hl
  | cons a l ih =>
    have e : encAs (a :: l) = encA a ++ encAs l := by simp [encAs]
    rw [e, run_append, run_arg (hm a (by simp))]
    cases l with
    | nil => simp [run, encAs]
    | cons b l =>
      rw [if_neg (by simp)]
      have := ih (by simp) (fun x hx => hm x (by simp [hx])) (args := args ++ [a])
      simp only [List.length_cons, Nat.add_sub_cancel] at this ⊢
      rw [this]
      simp
/-- what was written is read -/
theorem run_enc {args : List Bytes} (h : May args) : run .star (enc args) = (.star, [args]) := by
  obtain ⟨h1, h2, h3⟩ := h
  have e : enc args = [42] ++ (dec args.length ++ ([13] ++ ([10] ++ encAs args))) := by simp [enc, crlf]
  have hv := valid_dec (lo := 1) (hi := 50) h1 h2
  have g1 : run .star [42] = (.many [], []) := by simp [run, step]
  have g2 : run (.many []) (dec args.length) = (.many (dec args.length), []) := by rw [run_many (.inr (by simpa using hv))]; simp
  have g3 : run (.many (dec args.length)) [13] = (.manyCr args.length, []) := by simp [run, step, hv, valN_dec]
  have g4 : run (.manyCr args.length) [10] = (.dollar args.length [], []) := by simp [run, step]
  rw [e, run_append, g1, run_append, g2, run_append, g3, run_append, g4, run_args (by intro e; rw [e] at h1; simp at h1) h3]
  simp
theorem run_encs {l : List (List Bytes)} (h : ∀ x ∈ l, May x) : run .star (encs l) = (.star, l) := by
  induction l with
  | nil => rfl
  | cons x l ih =>
    have e : encs (x :: l) = enc x ++ encs l := by simp [encs]
    rw [e, run_append, run_enc (h x (by simp)), ih (fun y hy => h y (by simp [hy]))]
    simp

/-- the commands that bytes begin with; how many bytes these take; are they wrong? -/
def cmds (b : Bytes) : List (List Bytes) := (run .star b).2
def used (b : Bytes) : Nat := (encs (cmds b)).length
def isBad : St → Bool
  | .bad => true
  | _ => false
def wrong (b : Bytes) : Bool := isBad (run .star b).1
theorem wrong_iff {b : Bytes} : wrong b = true ↔ (run .star b).1 = .bad := by
  unfold wrong
  cases (run .star b).1 <;> simp [isBad]
theorem canon (b : Bytes) : used b ≤ b.length ∧ encs (cmds b) = b.take (used b) ∧ ∀ x ∈ cmds b, May x := by
  obtain ⟨_, h2, rest, h3, _⟩ := run_ok (s := .star) trivial b
  have e : b = encs (cmds b) ++ rest := h3
  have hl := congrArg List.length e
  rw [List.length_append] at hl
  refine ⟨by unfold used; omega, ?_, h2⟩
  unfold used
  have h4 := congrArg (List.take (encs (cmds b)).length) e
  rw [List.take_left'  rfl] at h4
  exact h4.symm
theorem cmds_append (a b : Bytes) : cmds (a ++ b) = cmds a ++ (run (run .star a).1 b).2 := by unfold cmds; rw [run_append]
theorem wrong_append {a b : Bytes} (h : wrong a = true) : wrong (a ++ b) = true ∧ cmds (a ++ b) = cmds a := by
  have h1 := wrong_iff.1 h
  refine ⟨wrong_iff.2 ?_, ?_⟩
  · rw [run_append, h1, run_bad]
  · rw [cmds_append, h1, run_bad, List.append_nil]
theorem right_begin {a b : Bytes} (h : wrong (a ++ b) = false) : wrong a = false := by
  cases hw : wrong a with
  | false => rfl
  | true => rw [(wrong_append hw).1] at h; cases h
theorem back {l : List (List Bytes)} (h : ∀ x ∈ l, May x) : cmds (encs l) = l ∧ used (encs l) = (encs l).length ∧ wrong (encs l) = false := by
  have hr := run_encs h
  have h1 : cmds (encs l) = l := by unfold cmds; rw [hr]
  refine ⟨h1, by unfold used; rw [h1], by unfold wrong; rw [hr]; rfl⟩
/-- cut short, the last one is left -/
theorem back_cut {l : List (List Bytes)} {x : List Bytes} (h : ∀ y ∈ l ++ [x], May y) {k : Nat} (hk : k < (enc x).length) :
    cmds (encs l ++ (enc x).take k) = l ∧ used (encs l ++ (enc x).take k) = (encs l).length ∧ wrong (encs l ++ (enc x).take k) = false := by
  have hr := run_encs (l := l) (fun y hy => h y (by simp [hy]))
  have hx := run_enc (h x (by simp))
  have hsplit : enc x = (enc x).take k ++ (enc x).drop k := (List.take_append_drop k _).symm
  have hrun : run .star ((enc x).take k ++ (enc x).drop k) = (.star, [x]) := by rw [← hsplit]; exact hx
  rw [run_append] at hrun
  have h2 : (run (run .star ((enc x).take k)).1 ((enc x).drop k)).1 = .star := congrArg Prod.fst hrun
  have h3 : (run .star ((enc x).take k)).2 ++ (run (run .star ((enc x).take k)).1 ((enc x).drop k)).2 = [x] := congrArg Prod.snd hrun
  have hnb : (run .star ((enc x).take k)).1 ≠ .bad := fun e => by rw [e, run_bad] at h2; cases h2
  have hc : (run .star ((enc x).take k)).2 = [] := by
    cases hq : (run .star ((enc x).take k)).2 with
    | nil => rfl
    | cons y ys =>
      rw [hq] at h3
      injection h3 with e1 e2
      have hys : ys = [] := (List.append_eq_nil_iff.1 e2).1
      subst e1 hys
      have hu := (canon ((enc y).take k)).1
      unfold used cmds at hu
      rw [hq] at hu
      have : encs [y] = enc y := by simp [encs]
      rw [this, List.length_take] at hu
      omega
  have hall : run .star (encs l ++ (enc x).take k) = ((run .star ((enc x).take k)).1, l) := by rw [run_append, hr, hc, List.append_nil]
  have h1 : cmds (encs l ++ (enc x).take k) = l := by unfold cmds; rw [hall]
  refine ⟨h1, by unfold used; rw [h1], ?_⟩
  cases hw : wrong (encs l ++ (enc x).take k) with
  | false => rfl
  | true => rw [wrong_iff, hall] at hw; exact absurd hw hnb
theorem back_odd {l : List (List Bytes)} (h : ∀ x ∈ l, May x) {c : UInt8} (hc : c ≠ 42) :
    cmds (encs l ++ [c]) = l ∧ used (encs l ++ [c]) = (encs l).length ∧ wrong (encs l ++ [c]) = true := by
  have hr := run_encs h
  have hall : run .star (encs l ++ [c]) = (.bad, l) := by rw [run_append, hr]; simp [run, step, hc]
  have h1 : cmds (encs l ++ [c]) = l := by unfold cmds; rw [hall]
  exact ⟨h1, by unfold used; rw [h1], wrong_iff.2 (by rw [hall])⟩
end Go.Proofs.Ytgjedhdnnfdcgaa.Rp
