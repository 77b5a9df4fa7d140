/-
  What each of the parser's functions does, is a step of the machine.
-/
import Derived.Test.YtgjedhdnnfdcgaaRspArg
namespace Go.Proofs.Ytgjedhdnnfdcgaa.Rp
open Go.RowKit
open Dg (dec txt)

theorem upto_some {l : Bytes} {lo hi : Nat} {n : Int} (h : Dg.upto? l (lo : Int) (hi : Int) = some n) : valid lo hi l = true ∧ n = (valN l : Nat) := by
  unfold Dg.upto? at h
  split at h
  · rename_i m hm
    split at h
    · rename_i hb
      injection h with h
      subst h
      obtain ⟨_, _, h3⟩ := Dg.num_some hm
      obtain ⟨k, rfl⟩ : ∃ k : Nat, m = (k : Int) := ⟨m.toNat, by omega⟩
      rw [txt_nat] at h3
      subst h3
      exact ⟨valid_dec (by omega) (by omega), by rw [valN_dec]⟩
    · cases h
  · cases h
theorem upto_none {l : Bytes} {lo hi : Nat} (hhi : hi ≤ 1000) (h : Dg.upto? l (lo : Int) (hi : Int) = none) : valid lo hi l = false := by
  cases hv : valid lo hi l with
  | false => rfl
  | true =>
    obtain ⟨n, rfl, h1, h2⟩ := valid_iff.1 hv
    rw [← txt_nat, Dg.upto_in (Dg.num_txt (by omega) (by omega)) (by omega) (by omega)] at h
    cases h
theorem valid_len2 {lo hi : Nat} {ds : Bytes} (hhi : hi ≤ 1000) (h : ds = [] ∨ valid lo hi ds = true) : ds.length ≤ 1048576 := by
  rcases h with rfl | h
  · simp
  · obtain ⟨n, rfl, h1, h2⟩ := valid_iff.1 h
    have := (Dg.txt_len (n : Int) (by omega) (by omega)).1
    rw [txt_nat] at this
    omega

def fidx : St → Nat
  | .star => 36
  | .many _ => 42
  | .manyCr _ => 47
  | .dollar _ _ => 50
  | .len _ _ _ => 52
  | .lenCr _ _ _ => 54
  | .body _ _ _ _ => 55
  | .bodyCr _ _ _ => 56
  | .bad => 0
def fv : St → Value
  | .bad => .nilFunc
  | s => fnv (fidx s)
/-- how a parser stands that is there -/
def like : St → Bytes → Int → Int → List Bytes → Prop
  | .star, tx, _, cnt, ar => tx = [] ∧ cnt = 0 ∧ ar = []
  | .many ds, tx, num, cnt, ar => tx = ds ∧ cnt = 0 ∧ ar = [] ∧ (ds ≠ [] → num = (valN ds : Nat))
  | .manyCr n, tx, num, cnt, ar => tx = [] ∧ cnt = 0 ∧ ar = [] ∧ num = (n : Nat)
  | .dollar left args, tx, _, cnt, ar => tx = [] ∧ cnt = ((left + args.length : Nat) : Int) ∧ ar = args
  | .len left args ds, tx, num, cnt, ar => tx = ds ∧ cnt = ((left + args.length : Nat) : Int) ∧ ar = args ∧ (ds ≠ [] → num = (valN ds : Nat))
  | .lenCr left args n, tx, num, cnt, ar => tx = [] ∧ cnt = ((left + args.length : Nat) : Int) ∧ ar = args ∧ num = (n : Nat)
  | .body left args n bs, tx, num, cnt, ar => tx = bs ∧ cnt = ((left + args.length : Nat) : Int) ∧ ar = args ∧ num = (n : Nat)
  | .bodyCr left args bs, tx, _, cnt, ar => tx = bs ∧ cnt = ((left + args.length : Nat) : Int) ∧ ar = args
  | .bad, _, _, _, _ => True
def After : St × Option (List Bytes) → Bytes → Int → Int → List Bytes → Prop
  | (s, none), tx, num, cnt, ar => like s tx num cnt ar
  | (_, some x), _, _, cnt, ar => ar = x ∧ cnt = (x.length : Nat)
def StepRes (s : St) (c : UInt8) (w : World) (pb : Nat) (nx : Value) (tk : Int) (vt va : Value) (e : Ending) (w' : World) : Prop :=
  ∃ vt' va' tx' num' cnt' ar', e = .returned (fv (step s c).1) ∧ PM w' pb nx tk vt' tx' num' cnt' va' ar' ∧ Kept (pblk pb vt va) w (pblk pb vt' va') w' ∧ After (step s c) tx' num' cnt' ar'

theorem toNat_eq {c d : UInt8} : ((c.toNat : Int) = (d.toNat : Int)) ↔ c = d := by
  constructor
  · intro h
    exact UInt8.toNat_inj.1 (by omega)
  · rintro rfl; rfl
theorem onlyV_yes {c d : UInt8} (h : c = d) (v : Value) : onlyV (c.toNat : Int) (d.toNat : Int) v = v := if_pos (toNat_eq.2 h)
theorem onlyV_no {c d : UInt8} (h : c ≠ d) (v : Value) : onlyV (c.toNat : Int) (d.toNat : Int) v = .nilFunc := if_neg fun e => h (toNat_eq.1 e)

section
variable {w w' : World} {pb : Nat} {nx vt va : Value} {tk num cnt : Int} {tx : Bytes} {ar : List Bytes}
theorem kept_same (w : World) (pb : Nat) (vt va : Value) : Kept (pblk pb vt va) w (pblk pb vt va) w := Kept.refl _ _
theorem kept_pb {w w' : World} {pb : Nat} (vt va : Value) (h : Only [pb] w w') : Kept (pblk pb vt va) w (pblk pb vt va) w' :=
  ⟨h.mono fun x hx => .inl (by rw [List.mem_singleton] at hx; subst hx; exact mem_pblk.2 (.inl rfl)), fun _ hx => .inl hx⟩

theorem step_star (h : PM w pb nx tk vt tx num cnt va ar) (hl : like .star tx num cnt ar) (c : UInt8) : Calls Try.prog 36 #[.pointer (some ⟨pb, 0, none⟩), .int .u8 (c.toNat : Int)] w (StepRes .star c w pb nx tk vt va) := by
  refine (star_calls _ _ _).mono ?_
  rintro e w1 ⟨rfl, rfl⟩
  obtain ⟨rfl, rfl, rfl⟩ := hl
  by_cases hc : c = 42
  · refine ⟨vt, va, _, _, _, _, ?_, h, Kept.refl _ _, ?_⟩
    · rw [show (42 : Int) = ((42 : UInt8).toNat : Int) from rfl, onlyV_yes hc]; simp [step, hc, fv, fidx]
    · simp [step, hc, After, like]
  · refine ⟨vt, va, _, _, _, _, ?_, h, Kept.refl _ _, ?_⟩
    · rw [show (42 : Int) = ((42 : UInt8).toNat : Int) from rfl, onlyV_no hc]; simp [step, hc, fv]
    · simp [step, hc, After, like]
theorem step_many {ds : Bytes} (hok : Ok (.many ds)) (h : PM w pb nx tk vt tx num cnt va ar) (hl : like (.many ds) tx num cnt ar) (c : UInt8) : Calls Try.prog 42 #[.pointer (some ⟨pb, 0, none⟩), .int .u8 (c.toNat : Int)] w (StepRes (.many ds) c w pb nx tk vt va) := by
  obtain ⟨rfl, rfl, rfl, hn⟩ := hl
  refine (count_calls h c (valid_len2 (by omega) hok)).mono ?_
  rintro e w1 ⟨vt', k, ⟨h1, h2, rfl, h3⟩ | ⟨h1, h2, rfl, h3⟩ | ⟨h1, n, h2, rfl, h3⟩⟩
  · have hv : valid 1 50 tx = true := (show tx = [] ∨ valid 1 50 tx = true from hok).resolve_left h1
    refine ⟨vt', va, _, _, _, _, ?_, h3, k, ?_⟩
    · simp [step, h2, hv, fv, fidx]
    · simp [step, h2, hv, After, like, hn h1]
  · have hv := upto_none (lo := 1) (hi := 50) (by omega) h2
    have hne : ¬ (c = 13 ∧ valid 1 50 tx = true) := fun ⟨e, hv2⟩ => by
      rcases h1 with rfl | h1
      · exact absurd hv2 (by decide)
      · exact h1 e
    refine ⟨vt', va, _, _, _, _, ?_, h3, k, ?_⟩
    · by_cases hc : c = 13
      · have hv2 : valid 1 50 tx = false := by cases hq : valid 1 50 tx with
          | false => rfl
          | true => exact absurd ⟨hc, hq⟩ hne
        simp [step, hc, hv2, fv]
      · simp [step, hc, hv, fv]
    · by_cases hc : c = 13
      · have hv2 : valid 1 50 tx = false := by cases hq : valid 1 50 tx with
          | false => rfl
          | true => exact absurd ⟨hc, hq⟩ hne
        simp [step, hc, hv2, After, like]
      · simp [step, hc, hv, After, like]
  · obtain ⟨hv, rfl⟩ := upto_some (lo := 1) (hi := 50) h2
    have hc : c ≠ 13 := digit_ne13 hv c (by simp)
    refine ⟨vt', va, _, _, _, _, ?_, h3, k, ?_⟩
    · simp [step, hc, hv, fv, fidx]
    · simp [step, hc, hv, After, like]
theorem step_manyCr {n : Nat} (h : PM w pb nx tk vt tx num cnt va ar) (hl : like (.manyCr n) tx num cnt ar) (c : UInt8) : Calls Try.prog 47 #[.pointer (some ⟨pb, 0, none⟩), .int .u8 (c.toNat : Int)] w (StepRes (.manyCr n) c w pb nx tk vt va) := by
  obtain ⟨rfl, rfl, rfl, rfl⟩ := hl
  refine (counted_calls h _).mono ?_
  rintro e w1 ⟨rfl, hp, ho⟩
  by_cases hc : c = 10
  · refine ⟨vt, va, _, _, _, _, ?_, hp, kept_pb _ _ ho, ?_⟩
    · rw [show (10 : Int) = ((10 : UInt8).toNat : Int) from rfl, onlyV_yes hc]; simp [step, hc, fv, fidx]
    · simp [step, hc, After, like]
  · refine ⟨vt, va, _, _, _, _, ?_, hp, kept_pb _ _ ho, ?_⟩
    · rw [show (10 : Int) = ((10 : UInt8).toNat : Int) from rfl, onlyV_no hc]; simp [step, hc, fv]
    · simp [step, hc, After, like]
theorem step_dollar {left : Nat} {args : List Bytes} (h : PM w pb nx tk vt tx num cnt va ar) (hl : like (.dollar left args) tx num cnt ar) (c : UInt8) : Calls Try.prog 50 #[.pointer (some ⟨pb, 0, none⟩), .int .u8 (c.toNat : Int)] w (StepRes (.dollar left args) c w pb nx tk vt va) := by
  refine (dollar_calls _ _ _).mono ?_
  rintro e w1 ⟨rfl, rfl⟩
  obtain ⟨rfl, rfl, rfl⟩ := hl
  by_cases hc : c = 36
  · refine ⟨vt, va, _, _, _, _, ?_, h, Kept.refl _ _, ?_⟩
    · rw [show (36 : Int) = ((36 : UInt8).toNat : Int) from rfl, onlyV_yes hc]; simp [step, hc, fv, fidx]
    · simp [step, hc, After, like]
  · refine ⟨vt, va, _, _, _, _, ?_, h, Kept.refl _ _, ?_⟩
    · rw [show (36 : Int) = ((36 : UInt8).toNat : Int) from rfl, onlyV_no hc]; simp [step, hc, fv]
    · simp [step, hc, After, like]
theorem step_len {left : Nat} {args : List Bytes} {ds : Bytes} (hok : Ok (.len left args ds)) (h : PM w pb nx tk vt tx num cnt va ar) (hl : like (.len left args ds) tx num cnt ar) (c : UInt8) : Calls Try.prog 52 #[.pointer (some ⟨pb, 0, none⟩), .int .u8 (c.toNat : Int)] w (StepRes (.len left args ds) c w pb nx tk vt va) := by
  obtain ⟨rfl, rfl, rfl, hn⟩ := hl
  have hok2 : tx = [] ∨ valid 0 1000 tx = true := hok.2
  refine (length_calls h c (valid_len2 (by omega) hok2)).mono ?_
  rintro e w1 ⟨vt', k, ⟨h1, h2, rfl, h3⟩ | ⟨h1, h2, rfl, h3⟩ | ⟨h1, n, h2, rfl, h3⟩⟩
  · have hv : valid 0 1000 tx = true := hok2.resolve_left h1
    refine ⟨vt', va, _, _, _, _, ?_, h3, k, ?_⟩
    · simp [step, h2, hv, fv, fidx]
    · simp [step, h2, hv, After, like, hn h1]
  · have hv := upto_none (lo := 0) (hi := 1000) (by omega) h2
    have hne : ¬ (c = 13 ∧ valid 0 1000 tx = true) := fun ⟨e, hv2⟩ => by
      rcases h1 with rfl | h1
      · exact absurd hv2 (by decide)
      · exact h1 e
    refine ⟨vt', va, _, _, _, _, ?_, h3, k, ?_⟩
    · by_cases hc : c = 13
      · have hv2 : valid 0 1000 tx = false := by cases hq : valid 0 1000 tx with
          | false => rfl
          | true => exact absurd ⟨hc, hq⟩ hne
        simp [step, hc, hv2, fv]
      · simp [step, hc, hv, fv]
    · by_cases hc : c = 13
      · have hv2 : valid 0 1000 tx = false := by cases hq : valid 0 1000 tx with
          | false => rfl
          | true => exact absurd ⟨hc, hq⟩ hne
        simp [step, hc, hv2, After, like]
      · simp [step, hc, hv, After, like]
  · obtain ⟨hv, rfl⟩ := upto_some (lo := 0) (hi := 1000) h2
    have hc : c ≠ 13 := digit_ne13 hv c (by simp)
    refine ⟨vt', va, _, _, _, _, ?_, h3, k, ?_⟩
    · simp [step, hc, hv, fv, fidx]
    · simp [step, hc, hv, After, like]
theorem step_lenCr {left n : Nat} {args : List Bytes} (h : PM w pb nx tk vt tx num cnt va ar) (hl : like (.lenCr left args n) tx num cnt ar) (c : UInt8) : Calls Try.prog 54 #[.pointer (some ⟨pb, 0, none⟩), .int .u8 (c.toNat : Int)] w (StepRes (.lenCr left args n) c w pb nx tk vt va) := by
  refine (measured_calls _ _ _).mono ?_
  rintro e w1 ⟨rfl, rfl⟩
  obtain ⟨rfl, rfl, rfl, rfl⟩ := hl
  by_cases hc : c = 10
  · refine ⟨vt, va, _, _, _, _, ?_, h, Kept.refl _ _, ?_⟩
    · rw [show (10 : Int) = ((10 : UInt8).toNat : Int) from rfl, onlyV_yes hc]; simp [step, hc, fv, fidx]
    · simp [step, hc, After, like]
  · refine ⟨vt, va, _, _, _, _, ?_, h, Kept.refl _ _, ?_⟩
    · rw [show (10 : Int) = ((10 : UInt8).toNat : Int) from rfl, onlyV_no hc]; simp [step, hc, fv]
    · simp [step, hc, After, like]
theorem step_body {left n : Nat} {args : List Bytes} {bs : Bytes} (hok : Ok (.body left args n bs)) (h : PM w pb nx tk vt tx num cnt va ar) (hl : like (.body left args n bs) tx num cnt ar) (c : UInt8) : Calls Try.prog 55 #[.pointer (some ⟨pb, 0, none⟩), .int .u8 (c.toNat : Int)] w (StepRes (.body left args n bs) c w pb nx tk vt va) := by
  obtain ⟨rfl, rfl, rfl, rfl⟩ := hl
  obtain ⟨_, h1, h2⟩ := (hok : Fit left ar ∧ n ≤ 1000 ∧ tx.length ≤ n)
  refine (argument_calls h c (by omega) rfl).mono ?_
  rintro e w1 ⟨vt', k, ⟨h3, rfl, h4⟩ | ⟨h3, rfl, h4⟩⟩
  · have hn : ¬ tx.length < n := by omega
    by_cases hc : c = 13
    · refine ⟨vt', va, _, _, _, _, ?_, h4, k, ?_⟩
      · rw [show (13 : Int) = ((13 : UInt8).toNat : Int) from rfl, onlyV_yes hc]; simp [step, hc, hn, fv, fidx]
      · simp [step, hc, hn, After, like]
    · refine ⟨vt', va, _, _, _, _, ?_, h4, k, ?_⟩
      · rw [show (13 : Int) = ((13 : UInt8).toNat : Int) from rfl, onlyV_no hc]; simp [step, hc, hn, fv]
      · simp [step, hc, hn, After, like]
  · have hn : tx.length < n := by omega
    refine ⟨vt', va, _, _, _, _, ?_, h4, k, ?_⟩
    · simp [step, hn, fv, fidx]
    · simp [step, hn, After, like]
theorem step_bodyCr {left : Nat} {args : List Bytes} {bs : Bytes} (hok : Ok (.bodyCr left args bs)) (h : PM w pb nx tk vt tx num cnt va ar) (hl : like (.bodyCr left args bs) tx num cnt ar) (c : UInt8) : Calls Try.prog 56 #[.pointer (some ⟨pb, 0, none⟩), .int .u8 (c.toNat : Int)] w (StepRes (.bodyCr left args bs) c w pb nx tk vt va) := by
  obtain ⟨rfl, rfl, rfl⟩ := hl
  obtain ⟨⟨h1, h2, h3⟩, hb⟩ := (hok : Fit left ar ∧ tx.length ≤ 1000)
  refine (closed_calls h c (by omega) rfl).mono ?_
  rintro e w1 ⟨vt', va', k, h4, rfl⟩
  have hlen : (ar ++ [tx]).length = ar.length + 1 := by simp
  by_cases hc : c = 10
  · by_cases hle : left ≤ 1
    · obtain rfl : left = 1 := by omega
      refine ⟨vt', va', _, _, _, _, ?_, h4, k, ?_⟩
      · rw [show (10 : Int) = ((10 : UInt8).toNat : Int) from rfl, onlyV_yes hc]
        unfold lessV
        rw [if_neg (by omega)]
        simp [step, hc, fv, fidx]
      · simp [step, hc, After]; omega
    · refine ⟨vt', va', _, _, _, _, ?_, h4, k, ?_⟩
      · rw [show (10 : Int) = ((10 : UInt8).toNat : Int) from rfl, onlyV_yes hc]
        unfold lessV
        rw [if_pos (by omega)]
        simp [step, hc, hle, fv, fidx]
      · simp [step, hc, hle, After, like]; omega
  · refine ⟨vt', va', _, _, _, _, ?_, h4, k, ?_⟩
    · rw [show (10 : Int) = ((10 : UInt8).toNat : Int) from rfl, onlyV_no hc]; simp [step, hc, fv]
    · simp [step, hc, After, like]
theorem step_calls {s : St} (hb : s ≠ .bad) (hok : Ok s) (h : PM w pb nx tk vt tx num cnt va ar) (hl : like s tx num cnt ar) (c : UInt8) : Calls Try.prog (fidx s) #[.pointer (some ⟨pb, 0, none⟩), .int .u8 (c.toNat : Int)] w (StepRes s c w pb nx tk vt va) := by
  cases s with
  | star => exact step_star h hl c
  | many ds => exact step_many hok h hl c
  | manyCr n => exact step_manyCr h hl c
  | dollar left args => exact step_dollar h hl c
  | len left args ds => exact step_len hok h hl c
  | lenCr left args n => exact step_lenCr h hl c
  | body left args n bs => exact step_body hok h hl c
  | bodyCr left args bs => exact step_bodyCr hok h hl c
  | bad => exact absurd rfl hb
theorem fv_eq {s : St} (h : s ≠ .bad) : fv s = fnv (fidx s) := by
  cases s <;> first | rfl | exact absurd rfl h
end
end Go.Proofs.Ytgjedhdnnfdcgaa.Rp
