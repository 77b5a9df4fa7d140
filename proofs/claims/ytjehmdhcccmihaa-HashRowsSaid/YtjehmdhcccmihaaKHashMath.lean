/-
  Plain mathematics of chapter 3: FNV-1a's sum, the key of parts, and the way back. Nothing of the program.
-/
import Derived.RowKit
namespace Go.Proofs.Ytjehmdhcccmihaa
open Go.RowKit
namespace Hs

/-- two to the 64 -/
def M64 : Nat := 18446744073709551616
/-- FNV-1a's first number -/
def base : Nat := 14695981039346656037
/-- one byte more -/
def step (a : Nat) (c : UInt8) : Nat := ((a ^^^ c.toNat) * 1099511628211) % M64
/-- FNV-1a of a row of bytes -/
def sum (l : List UInt8) : Nat := l.foldl step base

theorem M64_pos : 0 < M64 := by unfold M64; omega
theorem step_lt (a : Nat) (c : UInt8) : step a c < M64 := Nat.mod_lt _ M64_pos
theorem foldl_lt (l : List UInt8) : ∀ a, a < M64 → l.foldl step a < M64 := by
  induction l with
  | nil => intro a h; exact h
  | cons c l ih => intro a _; exact ih _ (step_lt a c)
theorem base_lt : base < M64 := by unfold base M64; omega
theorem sum_lt (l : List UInt8) : sum l < M64 := foldl_lt l _ base_lt
theorem foldl_snoc {A B : Type} (f : A → B → A) (a : A) (l : List B) (c : B) : (l ++ [c]).foldl f a = f (l.foldl f a) c := by simp
theorem sum_snoc (l : List UInt8) (c : UInt8) : sum (l ++ [c]) = step (sum l) c := by
  unfold sum
  exact foldl_snoc step base l c
theorem sum_nil : sum [] = base := by unfold sum; simp
theorem byte_a : (97 : UInt8).toNat = 97 := rfl
theorem sum_a : sum [97] = 12638187200555641996 := by
  have e : sum [97] = step base 97 := rfl
  rw [e]; unfold step base M64; rw [byte_a]; simp

theorem mul_inj {x y : Nat} (hx : x < M64) (hy : y < M64) (h : (x * 1099511628211) % M64 = (y * 1099511628211) % M64) : x = y := by
  have e : ∀ z, z < M64 → ((z * 1099511628211) % M64 * 14886173955864302971) % M64 = z := by
    intro z hz
    rw [Nat.mod_mul_mod, Nat.mul_assoc, Nat.mul_mod, show 1099511628211 * 14886173955864302971 % M64 = 1 by decide, Nat.mul_one, Nat.mod_mod, Nat.mod_eq_of_lt hz]
  rw [← e x hx, ← e y hy, h]
theorem xor_lt {a : Nat} (ha : a < M64) (c : UInt8) : a ^^^ c.toNat < M64 := by
  have h : M64 = 2 ^ 64 := by decide
  rw [h] at ha ⊢
  exact Nat.xor_lt_two_pow ha (Nat.lt_trans c.toNat_lt (by decide))
theorem step_inj {a b : Nat} {c : UInt8} (ha : a < M64) (hb : b < M64) (h : step a c = step b c) : a = b := by
  have e := mul_inj (xor_lt ha c) (xor_lt hb c) h
  have e2 := congrArg (· ^^^ c.toNat) e
  simpa [Nat.xor_assoc] using e2
theorem step_byte {a : Nat} {c d : UInt8} (ha : a < M64) (h : step a c = step a d) : c = d := by
  have e := mul_inj (xor_lt ha c) (xor_lt ha d) h
  have e2 := congrArg (a ^^^ ·) e
  simp only [← Nat.xor_assoc, Nat.xor_self, Nat.zero_xor] at e2
  exact UInt8.toNat_inj.1 e2
theorem foldl_inj (l : List UInt8) : ∀ a b, a < M64 → b < M64 → l.foldl step a = l.foldl step b → a = b := by
  induction l with
  | nil => intro a b _ _ h; exact h
  | cons c l ih => intro a b ha hb h; exact step_inj ha hb (ih _ _ (step_lt a c) (step_lt b c) h)
/-- with one byte another one the sum is another one -/
theorem sum_other (p q : List UInt8) (c d : UInt8) (h : sum (p ++ c :: q) = sum (p ++ d :: q)) : c = d := by
  unfold sum at h
  rw [List.foldl_append, List.foldl_append] at h
  exact step_byte (sum_lt p) (foldl_inj q _ _ (step_lt _ _) (step_lt _ _) h)

/-- a mark is laid ahead of it -/
def mk (c : UInt8) : Bool := c == 92 || c == 58
def keyB (c : UInt8) : List UInt8 := if mk c = true then [92, c] else [c]
def esc (p : List UInt8) : List UInt8 := p.flatMap keyB
/-- the key of parts -/
def key (ps : List (List UInt8)) : List UInt8 := ps.flatMap fun p => esc p ++ [58]

theorem esc_nil : esc [] = [] := rfl
theorem esc_snoc (p : List UInt8) (c : UInt8) : esc (p ++ [c]) = esc p ++ keyB c := by simp [esc]
theorem key_nil : key [] = [] := rfl
theorem key_cons (p : List UInt8) (ps : List (List UInt8)) : key (p :: ps) = esc p ++ 58 :: key ps := by simp [key]
theorem key_snoc (ps : List (List UInt8)) (p : List UInt8) : key (ps ++ [p]) = key ps ++ esc p ++ [58] := by simp [key]
theorem key_append (ps qs : List (List UInt8)) : key (ps ++ qs) = key ps ++ key qs := by simp [key]

/-- the way back, byte by byte: the part that is begun, the parts so far, what is left -/
def scan : List UInt8 → List (List UInt8) → List UInt8 → Option (List (List UInt8))
  | p, out, [] => if p.isEmpty then some out else none
  | p, out, [c] => if c = 58 then some (out ++ [p]) else none
  | p, out, c :: d :: l => if c = 58 then scan [] (out ++ [p]) (d :: l) else if c = 92 then (if mk d = true then scan (p ++ [d]) out l else none) else scan (p ++ [c]) out (d :: l)
/-- the same, where any byte may stand behind a mark, and nothing asks for the end -/
def loose : List UInt8 → List (List UInt8) → List UInt8 → Option (List (List UInt8))
  | _, out, [] => some out
  | p, out, [c] => if c = 58 then some (out ++ [p]) else if c = 92 then none else some out
  | p, out, c :: d :: l => if c = 58 then loose [] (out ++ [p]) (d :: l) else if c = 92 then loose (p ++ [d]) out l else loose (p ++ [c]) out (d :: l)

theorem scan_end (p : List UInt8) (out : List (List UInt8)) (l : List UInt8) : scan p out (58 :: l) = scan [] (out ++ [p]) l := by
  cases l with
  | nil => rfl
  | cons d l => rfl
theorem scan_mark (p : List UInt8) (out : List (List UInt8)) (d : UInt8) (l : List UInt8) (h : mk d = true) : scan p out (92 :: d :: l) = scan (p ++ [d]) out l := by
  show (if mk d = true then _ else _) = _
  rw [if_pos h]
theorem scan_bad (p : List UInt8) (out : List (List UInt8)) (d : UInt8) (l : List UInt8) (h : mk d = false) : scan p out (92 :: d :: l) = none := by
  show (if mk d = true then _ else _) = _
  rw [if_neg (by rw [h]; decide)]
theorem scan_last (p : List UInt8) (out : List (List UInt8)) : scan p out [92] = none := rfl
theorem scan_byte (p : List UInt8) (out : List (List UInt8)) (c : UInt8) (l : List UInt8) (h : mk c = false) : scan p out (c :: l) = scan (p ++ [c]) out l := by
  have h1 : ¬ c = 58 := by rintro rfl; exact absurd h (by decide)
  have h2 : ¬ c = 92 := by rintro rfl; exact absurd h (by decide)
  cases l with
  | nil => simp [scan, h1]
  | cons d l => simp [scan, h1, h2]
theorem loose_end (p : List UInt8) (out : List (List UInt8)) (l : List UInt8) : loose p out (58 :: l) = loose [] (out ++ [p]) l := by
  cases l with
  | nil => rfl
  | cons d l => rfl
theorem loose_mark (p : List UInt8) (out : List (List UInt8)) (d : UInt8) (l : List UInt8) : loose p out (92 :: d :: l) = loose (p ++ [d]) out l := rfl
theorem loose_last (p : List UInt8) (out : List (List UInt8)) : loose p out [92] = none := rfl
theorem loose_byte (p : List UInt8) (out : List (List UInt8)) (c : UInt8) (l : List UInt8) (h1 : ¬ c = 58) (h2 : ¬ c = 92) : loose p out (c :: l) = loose (p ++ [c]) out l := by
  cases l with
  | nil => simp [loose, h1, h2]
  | cons d l => simp [loose, h1, h2]

theorem scan_esc (q : List UInt8) : ∀ (p : List UInt8) (out : List (List UInt8)) (l : List UInt8), scan p out (esc q ++ l) = scan (p ++ q) out l := by
  induction q with
  | nil => intro p out l; simp [esc]
  | cons c q ih =>
    intro p out l
    have e : esc (c :: q) ++ l = keyB c ++ (esc q ++ l) := by simp [esc]
    rw [e]
    unfold keyB
    by_cases h : mk c = true
    · rw [if_pos h]
      show scan p out (92 :: c :: (esc q ++ l)) = _
      rw [scan_mark p out c _ h, ih]; simp
    · have h' : mk c = false := by simpa using h
      rw [if_neg h]
      show scan p out (c :: (esc q ++ l)) = _
      rw [scan_byte p out c _ h', ih]; simp
theorem scan_key (ps : List (List UInt8)) : ∀ out : List (List UInt8), scan [] out (key ps) = some (out ++ ps) := by
  induction ps with
  | nil => intro out; simp [key, scan]
  | cons p ps ih => intro out; rw [key_cons, scan_esc, scan_end, ih]; simp
theorem loose_esc (q : List UInt8) : ∀ (p : List UInt8) (out : List (List UInt8)) (l : List UInt8), loose p out (esc q ++ l) = loose (p ++ q) out l := by
  induction q with
  | nil => intro p out l; simp [esc]
  | cons c q ih =>
    intro p out l
    have e : esc (c :: q) ++ l = keyB c ++ (esc q ++ l) := by simp [esc]
    rw [e]
    unfold keyB
    by_cases h : mk c = true
    · rw [if_pos h]
      show loose p out (92 :: c :: (esc q ++ l)) = _
      rw [loose_mark, ih]; simp
    · have h' : mk c = false := by simpa using h
      have h1 : ¬ c = 58 := by rintro rfl; exact absurd h' (by decide)
      have h2 : ¬ c = 92 := by rintro rfl; exact absurd h' (by decide)
      rw [if_neg h]
      show loose p out (c :: (esc q ++ l)) = _
      rw [loose_byte p out c _ h1 h2, ih]; simp
theorem loose_key (ps : List (List UInt8)) : ∀ out : List (List UInt8), loose [] out (key ps) = some (out ++ ps) := by
  induction ps with
  | nil => intro out; simp [key, loose]
  | cons p ps ih => intro out; rw [key_cons, loose_esc, loose_end, ih]; simp

theorem scan_sound : ∀ (n : Nat) (l p : List UInt8) (out o : List (List UInt8)), l.length ≤ n → scan p out l = some o → key o = key out ++ esc p ++ l := by
  intro n
  induction n with
  | zero =>
    intro l p out o hn h
    obtain rfl : l = [] := List.eq_nil_of_length_eq_zero (by omega)
    unfold scan at h
    split at h
    · next hp => cases h; rw [List.isEmpty_iff.1 hp]; simp [esc]
    · cases h
  | succ n ih =>
    intro l p out o hn h
    match l with
    | [] =>
      unfold scan at h
      split at h
      · next hp => cases h; rw [List.isEmpty_iff.1 hp]; simp [esc]
      · cases h
    | c :: l =>
      have hl : l.length ≤ n := by simpa using hn
      by_cases h1 : c = 58
      · subst h1
        rw [scan_end] at h
        rw [ih l [] _ o hl h, key_snoc]; simp [esc]
      · by_cases h2 : c = 92
        · subst h2
          match l with
          | [] => rw [scan_last] at h; cases h
          | d :: l =>
            by_cases h3 : mk d = true
            · rw [scan_mark _ _ _ _ h3] at h
              rw [ih l _ _ o (by simp at hl; omega) h, esc_snoc]
              unfold keyB
              rw [if_pos h3]; simp
            · rw [scan_bad _ _ _ _ (by simpa using h3)] at h; cases h
        · have h3 : mk c = false := by unfold mk; simp [h1, h2]
          rw [scan_byte _ _ _ _ h3] at h
          rw [ih l _ _ o hl h, esc_snoc]
          unfold keyB
          rw [if_neg (by rw [h3]; decide)]; simp

/-- the parts of which a text is the key -/
def parts (l : List UInt8) : Option (List (List UInt8)) := scan [] [] l
theorem parts_key (ps : List (List UInt8)) : parts (key ps) = some ps := by unfold parts; rw [scan_key]; simp
theorem key_parts {l : List UInt8} {ps : List (List UInt8)} (h : parts l = some ps) : key ps = l := by
  have := scan_sound l.length l [] [] ps (Nat.le_refl _) h
  simpa [key, esc] using this
theorem key_inj {ps qs : List (List UInt8)} (h : key ps = key qs) : ps = qs := by
  have := parts_key ps
  rw [h, parts_key] at this
  exact (Option.some.inj this).symm
theorem loose_some {l : List UInt8} {o : List (List UInt8)} (h : loose [] [] l = some o) : parts l = if key o = l then some o else none := by
  split
  · next hk => rw [← hk]; exact parts_key o
  · next hk =>
    cases hp : parts l with
    | none => rfl
    | some ps =>
      have e := key_parts hp
      rw [← e, loose_key] at h
      have : ps = o := by simpa using h
      rw [this] at e
      exact absurd e hk
theorem loose_none {l : List UInt8} (h : loose [] [] l = none) : parts l = none := by
  cases hp : parts l with
  | none => rfl
  | some ps =>
    rw [← key_parts hp, loose_key] at h
    cases h

/-- how many bytes parts have, each with its end -/
def long (ps : List (List UInt8)) : Nat := (ps.map fun p => 1 + p.length).sum
theorem long_snoc (ps : List (List UInt8)) (p : List UInt8) : long (ps ++ [p]) = long ps + (1 + p.length) := by simp [long]
theorem long_append (ps qs : List (List UInt8)) : long (ps ++ qs) = long ps + long qs := by simp [long]
theorem keyB_len (c : UInt8) : (keyB c).length ≤ 2 := by unfold keyB; split <;> simp
theorem esc_len (p : List UInt8) : (esc p).length ≤ 2 * p.length := by
  induction p with
  | nil => simp [esc]
  | cons c p ih =>
    have : esc (c :: p) = keyB c ++ esc p := by simp [esc]
    rw [this]
    have := keyB_len c
    simp; omega
theorem key_len (ps : List (List UInt8)) : (key ps).length ≤ 2 * long ps := by
  induction ps with
  | nil => simp [key]
  | cons p ps ih =>
    rw [key_cons]
    have := esc_len p
    have e : long (p :: ps) = 1 + p.length + long ps := by simp [long]
    simp; omega

end Hs
end Go.Proofs.Ytjehmdhcccmihaa
