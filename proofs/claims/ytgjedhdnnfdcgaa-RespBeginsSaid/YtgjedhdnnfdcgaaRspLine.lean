/-
  Lines: what 'begin' answers, told by lines; the document's reader, line by line.
-/
import Derived.Test.YtgjedhdnnfdcgaaRspBeg
import Derived.Test.YtgjedhdnnfdcgaaRspRow
namespace Go.Proofs.Ytgjedhdnnfdcgaa.Rp
open Go.RowKit

def lineR (sign : UInt8) (lo hi : Nat) : Bytes → Ln
  | [] => .short
  | c :: t => if c ≠ sign then .wrong else tailR lo hi t
theorem begR_line (sign : UInt8) (lo hi : Nat) (l : Bytes) : begR sign lo hi l = lnR (lineR sign lo hi l) := by
  cases l with
  | nil => rfl
  | cons c t =>
    unfold begR lineR
    simp only
    by_cases h : c ≠ sign
    · rw [if_pos h, if_pos h]; rfl
    · rw [if_neg h, if_neg h]
theorem line_ok {sign : UInt8} {lo hi : Nat} {s : Bytes → St} {crs go : Nat → St} (N : Num s crs go lo hi) {l : Bytes} {k n : Nat} (h : lineR sign lo hi l = .ok k n) : k + 1 ≤ l.length ∧ 2 ≤ k ∧ lo ≤ n ∧ n ≤ hi := by
  cases l with
  | nil => cases h
  | cons c t =>
    unfold lineR at h
    simp only at h
    by_cases hc : c ≠ sign
    · rw [if_pos hc] at h; cases h
    · rw [if_neg hc] at h
      have hT := N.tail t
      rw [h] at hT
      simp only at hT
      exact ⟨by simp; omega, hT.2.2.1, hT.2.2.2⟩
theorem line36 {l : Bytes} {k n : Nat} (h : lineR 36 0 1000 l = .ok k n) : k + 1 ≤ l.length ∧ 2 ≤ k ∧ n ≤ 1000 := by
  have := line_ok (len_num 0 []) h
  omega
theorem line42 {l : Bytes} {k n : Nat} (h : lineR 42 1 50 l = .ok k n) : k + 1 ≤ l.length ∧ 2 ≤ k ∧ 1 ≤ n ∧ n ≤ 50 := by
  have := line_ok many_num h
  omega
theorem one_short {l : Bytes} (h : lineR 42 1 50 l = .short) : oneR l = .short := by
  cases l with
  | nil => rfl
  | cons c t =>
    unfold lineR at h; unfold oneR
    simp only at h ⊢
    by_cases hc : c ≠ 42
    · rw [if_pos hc] at h; cases h
    · rw [if_neg hc] at h ⊢; rw [h]
theorem one_wrong {l : Bytes} (h : lineR 42 1 50 l = .wrong) : oneR l = .wrong := by
  cases l with
  | nil => cases h
  | cons c t =>
    unfold lineR at h; unfold oneR
    simp only at h ⊢
    by_cases hc : c ≠ 42
    · rw [if_pos hc]
    · rw [if_neg hc] at h ⊢; rw [h]
theorem one_ok {l : Bytes} {k n : Nat} (h : lineR 42 1 50 l = .ok k n) : oneR l = argsR n [] (l.drop (k + 1)) := by
  cases l with
  | nil => cases h
  | cons c t =>
    unfold lineR at h; unfold oneR
    simp only at h ⊢
    by_cases hc : c ≠ 42
    · rw [if_pos hc] at h; cases h
    · rw [if_neg hc] at h ⊢; rw [h]; simp
theorem args_short {m : Nat} {args : List Bytes} {l : Bytes} (h : lineR 36 0 1000 l = .short) : argsR (m + 1) args l = .short := by
  cases l with
  | nil => rfl
  | cons c t =>
    unfold lineR at h; unfold argsR
    simp only at h ⊢
    by_cases hc : c ≠ 36
    · rw [if_pos hc] at h; cases h
    · rw [if_neg hc] at h ⊢; rw [h]
theorem args_wrong {m : Nat} {args : List Bytes} {l : Bytes} (h : lineR 36 0 1000 l = .wrong) : argsR (m + 1) args l = .wrong := by
  cases l with
  | nil => cases h
  | cons c t =>
    unfold lineR at h; unfold argsR
    simp only at h ⊢
    by_cases hc : c ≠ 36
    · rw [if_pos hc]
    · rw [if_neg hc] at h ⊢; rw [h]
theorem args_ok {m : Nat} {args : List Bytes} {l : Bytes} {k n : Nat} (h : lineR 36 0 1000 l = .ok k n) {x : Option (Option (Bytes × Bytes))} (hb : bodyR n (l.drop (k + 1)) = x) {y : Rs}
    (h1 : x = none → .wrong = y) (h2 : x = some none → .short = y) (h3 : ∀ a r, x = some (some (a, r)) → argsR m (args ++ [a]) r = y) : argsR (m + 1) args l = y := by
  cases l with
  | nil => cases h
  | cons c t =>
    unfold lineR at h
    unfold argsR
    simp only at h ⊢
    by_cases hc : c ≠ 36
    · rw [if_pos hc] at h; cases h
    · rw [if_neg hc] at h ⊢
      rw [h]
      simp only [List.drop_succ_cons] at hb ⊢
      rw [hb]
      match x, h1, h2, h3 with
      | none, h1, _, _ => exact h1 rfl
      | some none, _, h2, _ => exact h2 rfl
      | some (some (a, r)), _, _, h3 => exact h3 a r rfl
section Ends2
variable {m : Nat} {args : List Bytes} {l : Bytes} {k n : Nat} (h : lineR 36 0 1000 l = .ok k n)
include h
theorem args_end (hl : (l.drop (k + 1)).length < n) : argsR (m + 1) args l = .short :=
  args_ok h (x := some none) (by unfold bodyR; rw [if_pos hl]) (fun e => by cases e) (fun _ => rfl) (fun _ _ e => by cases e)
variable (hl : ¬ (l.drop (k + 1)).length < n)
include hl
theorem args_nil (hr : (l.drop (k + 1)).drop n = []) : argsR (m + 1) args l = .short :=
  args_ok h (x := some none) (by unfold bodyR; rw [if_neg hl, hr]) (fun e => by cases e) (fun _ => rfl) (fun _ _ e => by cases e)
theorem args_one (hr : (l.drop (k + 1)).drop n = [13]) : argsR (m + 1) args l = .short :=
  args_ok h (x := some none) (by unfold bodyR; rw [if_neg hl, hr]; rfl) (fun e => by cases e) (fun _ => rfl) (fun _ _ e => by cases e)
theorem args_one_wrong {c : UInt8} (hr : (l.drop (k + 1)).drop n = [c]) (hc : c ≠ 13) : argsR (m + 1) args l = .wrong :=
  args_ok h (x := none) (by unfold bodyR; rw [if_neg hl, hr]; exact if_neg hc) (fun _ => rfl) (fun e => by cases e) (fun _ _ e => by cases e)
theorem args_two_wrong {c d : UInt8} {r : Bytes} (hr : (l.drop (k + 1)).drop n = c :: d :: r) (hc : ¬ (c = 13 ∧ d = 10)) : argsR (m + 1) args l = .wrong :=
  args_ok h (x := none) (by unfold bodyR; rw [if_neg hl, hr]; exact if_neg hc) (fun _ => rfl) (fun e => by cases e) (fun _ _ e => by cases e)
theorem args_more {r : Bytes} (hr : (l.drop (k + 1)).drop n = 13 :: 10 :: r) : argsR (m + 1) args l = argsR m (args ++ [(l.drop (k + 1)).take n]) r :=
  args_ok h (x := some (some ((l.drop (k + 1)).take n, r))) (by unfold bodyR; rw [if_neg hl, hr]; rfl) (fun e => by cases e) (fun e => by cases e) (fun _ _ e => by cases e; rfl)
end Ends2

section Begin
variable (A : Option Addr) (cap : Nat) (l : Bytes) (m : Nat) (w : World) (hA : Bts w A l) (hl : l.length ≤ 1048576) (hat : m ≤ l.length) (hcap : l.length ≤ cap)
include hA hl hat hcap
theorem begin42 {x : Ln} (hx : lineR 42 1 50 (l.drop m) = x) :
    Calls Try.prog 38 #[.slice A l.length cap, .int .i64 (m : Nat), .int .u8 42, .int .i64 1, .int .i64 50] w fun e w' => e = .returned (.tuple #[.int .i64 (lnR x).1, .int .i64 (lnR x).2]) ∧ Below w.heap.size w w' := by
  have := begin_calls A cap l m 42 1 50 w hA hl hat hcap (by decide) (by decide)
  rw [begR_line, hx] at this
  exact this
theorem begin36 {x : Ln} (hx : lineR 36 0 1000 (l.drop m) = x) :
    Calls Try.prog 38 #[.slice A l.length cap, .int .i64 (m : Nat), .int .u8 36, .int .i64 0, .int .i64 1000] w fun e w' => e = .returned (.tuple #[.int .i64 (lnR x).1, .int .i64 (lnR x).2]) ∧ Below w.heap.size w w' := by
  have := begin_calls A cap l m 36 0 1000 w hA hl hat hcap (by decide) (by decide)
  rw [begR_line, hx] at this
  exact this
end Begin
end Go.Proofs.Ytgjedhdnnfdcgaa.Rp
