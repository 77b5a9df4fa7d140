/-
  The mathematics of runes: a rune's bytes, and that no line's end stands within one.
-/
import Derived.Test.YtflmolhkbpicbaaDoorKGMth
import Derived.Lib.RuneCountTail
import Derived.Lib.QuoteLoop
import Derived.Lib.Strings
import Derived.Lib.IndexMore
namespace Go.Proofs.YtflmolhkbpicbaaDoor.Ry
open Go.Lib

set_option maxRecDepth 100000 in
theorem get_of (s : ByteArray) (i : Nat) (h : i < s.size) : s.get! i = s[i] := by
  obtain ⟨d⟩ := s
  show d[i]! = d[i]
  exact getElem!_pos d i h
set_option maxRecDepth 100000 in
theorem dn_low (n b0 b1 b2 b3 : Nat) (h : b0 < 128) : decodeN n b0 b1 b2 b3 = (b0, 1) := by unfold decodeN; rw [if_pos h]
set_option maxRecDepth 100000 in
theorem dn_high (n b0 b1 b2 b3 : Nat) (h : 128 ≤ b0) (hn : 1 ≤ n) : 128 ≤ (decodeN n b0 b1 b2 b3).1 ∧ 1 ≤ (decodeN n b0 b1 b2 b3).2 ∧ (decodeN n b0 b1 b2 b3).2 ≤ n ∧ (decodeN n b0 b1 b2 b3).2 ≤ 4 ∧ (2 ≤ (decodeN n b0 b1 b2 b3).2 → 128 ≤ b1) ∧ (3 ≤ (decodeN n b0 b1 b2 b3).2 → 128 ≤ b2) ∧ (4 ≤ (decodeN n b0 b1 b2 b3).2 → 128 ≤ b3) ∧ (decodeN n b0 b1 b2 b3).1 ≤ 1114111 := by
  unfold decodeN
  repeat' split
  all_goals (simp only; omega)
set_option maxRecDepth 100000 in
/-- a place's rune -/
theorem rune_at (s : ByteArray) (i : Nat) (hi : i < s.size) :
    ((s[i].toNat < 128 ∧ Utf8.decode s i = (s[i].toNat, 1)) ∨ (128 ≤ (Utf8.decode s i).1 ∧ (Utf8.decode s i).1 ≤ 1114111 ∧ 1 ≤ (Utf8.decode s i).2 ∧ i + (Utf8.decode s i).2 ≤ s.size ∧ ∀ j (hj : i + j < s.size), j < (Utf8.decode s i).2 → 128 ≤ (s[i + j]'hj).toNat)) := by
  have e0 : s.get! i = s[i] := get_of s i hi
  by_cases h : s[i].toNat < 128
  · left
    refine ⟨h, ?_⟩
    rw [decode_at, e0, dn_low _ _ _ _ _ h]
  · right
    have hd := dn_high (s.size - i) (s.get! i).toNat (s.get! (i + 1)).toNat (s.get! (i + 2)).toNat (s.get! (i + 3)).toNat (by rw [e0]; omega) (by omega)
    rw [← decode_at] at hd
    obtain ⟨h1, h2, h3, h4, h5, h6, h7, h8⟩ := hd
    refine ⟨h1, h8, h2, by omega, fun j hj hk => ?_⟩
    have ej : s.get! (i + j) = s[i + j] := get_of s (i + j) hj
    match j, hk with
    | 0, _ => exact Nat.le_of_not_lt h
    | 1, hk => rw [← ej]; exact h5 (by omega)
    | 2, hk => rw [← ej]; exact h6 (by omega)
    | 3, hk => rw [← ej]; exact h7 (by omega)
    | k + 4, hk => omega
set_option maxRecDepth 100000 in
theorem rune_le (s : ByteArray) (i : Nat) (hi : i < s.size) : 1 ≤ (Utf8.decode s i).2 ∧ i + (Utf8.decode s i).2 ≤ s.size ∧ (Utf8.decode s i).1 ≤ 1114111 := by
  rcases rune_at s i hi with ⟨h, e⟩ | ⟨h1, h2, h3, h4, _⟩
  · rw [e]; exact ⟨Nat.le_refl _, by simp; omega, by simp; omega⟩
  · exact ⟨h3, h4, h2⟩

/-- a byte that ends no line -/
def okB (c : UInt8) : Bool := decide (c ≠ 13) && decide (c ≠ 10)
set_option maxRecDepth 100000 in
theorem lineB_ok {c : UInt8} (h : okB c = true) : lineB c = c := by
  unfold okB at h; unfold lineB
  simp only [Bool.and_eq_true, decide_eq_true_eq] at h
  rw [if_neg (by simp [h])]
set_option maxRecDepth 100000 in
theorem lineB_no {c : UInt8} (h : okB c = false) : lineB c = 32 := by
  unfold okB at h; unfold lineB
  rw [if_pos]
  by_cases h1 : c = 13
  · exact Or.inl h1
  · right
    simpa [h1] using h
set_option maxRecDepth 100000 in
theorem lineR_ok {l : Bytes} (h : l.all okB = true) : lineR l = l := by
  unfold lineR
  induction l with
  | nil => rfl
  | cons c t ih =>
    simp only [List.all_cons, Bool.and_eq_true] at h
    rw [List.map_cons, lineB_ok h.1, ih h.2]
set_option maxRecDepth 100000 in
theorem okB_high {c : UInt8} (h : 128 ≤ c.toNat) : okB c = true := by
  unfold okB
  simp only [Bool.and_eq_true, decide_eq_true_eq]
  constructor
  · intro e; rw [e] at h; simp at h
  · intro e; rw [e] at h; simp at h
/-- is the rune a line's end? -/
def endR (r : Nat) : Bool := decide (r = 13) || decide (r = 10)
set_option maxRecDepth 100000 in
theorem byte_of (s : ByteArray) (i : Nat) (hi : i < s.size) : s.data.toList[i]'(by rw [← size_eq]; exact hi) = s[i] := by
  obtain ⟨d⟩ := s
  simp [ByteArray.getElem_eq_getElem_data]
set_option maxRecDepth 100000 in
theorem take_byte (s : ByteArray) (i : Nat) (hi : i < s.size) : s.data.toList.take (i + 1) = s.data.toList.take i ++ [s[i]] := by
  rw [List.take_succ_eq_append_getElem (by rw [← size_eq]; exact hi), byte_of s i hi]
set_option maxRecDepth 100000 in
/-- a rune that ends a line is one byte -/
theorem rune_end (s : ByteArray) (i : Nat) (hi : i < s.size) (h : endR (Utf8.decode s i).1 = true) : (Utf8.decode s i).2 = 1 ∧ okB s[i] = false := by
  rcases rune_at s i hi with ⟨_, e⟩ | ⟨h1, _⟩
  · rw [e] at h ⊢
    refine ⟨rfl, ?_⟩
    unfold endR at h
    unfold okB
    simp only [Bool.or_eq_true, decide_eq_true_eq] at h
    rcases h with h | h
    · have : s[i] = 13 := UInt8.toNat_inj.1 (by simpa using h)
      rw [this]; rfl
    · have : s[i] = 10 := UInt8.toNat_inj.1 (by simpa using h)
      rw [this]; rfl
  · unfold endR at h
    simp only [Bool.or_eq_true, decide_eq_true_eq] at h
    omega
set_option maxRecDepth 100000 in
/-- of another rune no byte ends a line -/
theorem rune_free (s : ByteArray) (i : Nat) (hi : i < s.size) (h : endR (Utf8.decode s i).1 = false) : ∀ j (hj : i + j < s.size), j < (Utf8.decode s i).2 → okB (s[i + j]'hj) = true := by
  intro j hj hk
  rcases rune_at s i hi with ⟨h0, e⟩ | ⟨_, _, _, _, h5⟩
  · rw [e] at h hk
    obtain rfl : j = 0 := by simp at hk; omega
    unfold endR at h
    unfold okB
    simp only [Bool.or_eq_false_iff, decide_eq_false_iff_not] at h
    simp only [Bool.and_eq_true, decide_eq_true_eq, Nat.add_zero]
    constructor
    · intro e; apply h.1; rw [e]; rfl
    · intro e; apply h.2; rw [e]; rfl
  · exact okB_high (h5 j hj hk)
set_option maxRecDepth 100000 in
theorem take_add_free (s : ByteArray) (i : Nat) : ∀ k, i + k ≤ s.size → (∀ j (hj : i + j < s.size), j < k → okB (s[i + j]'hj) = true) → lineR (s.data.toList.take (i + k)) = lineR (s.data.toList.take i) ++ (s.data.toList.drop i).take k
  | 0, _, _ => by simp
  | k + 1, h, hf => by
    have ih := take_add_free s i k (by omega) (fun j hj hk => hf j hj (by omega))
    have hik : i + k < s.size := by omega
    have e : s.data.toList.take (i + (k + 1)) = s.data.toList.take (i + k) ++ [s[i + k]] := take_byte s (i + k) hik
    rw [e]
    unfold lineR at ih ⊢
    rw [List.map_append, ih, List.append_assoc]
    congr 1
    rw [List.map_cons, List.map_nil, lineB_ok (hf k hik (by omega))]
    have hl : k < (s.data.toList.drop i).length := by rw [List.length_drop, ← size_eq]; omega
    rw [List.take_succ_eq_append_getElem hl, List.getElem_drop]
    congr 2
    try exact (byte_of s (i + k) hik).symm
set_option maxRecDepth 100000 in
theorem take_end (s : ByteArray) (i : Nat) (hi : i < s.size) (h : okB s[i] = false) : lineR (s.data.toList.take (i + 1)) = lineR (s.data.toList.take i) ++ [32] := by
  rw [take_byte s i hi]
  unfold lineR
  rw [List.map_append, List.map_cons, List.map_nil, lineB_no h]
end Go.Proofs.YtflmolhkbpicbaaDoor.Ry
/-
  The mathematics of a line as reply reads it: cut at the first end, or what is there of it.
-/
namespace Go.Proofs.YtflmolhkbpicbaaDoor.Ry
open Dg (isD dec txt)

/-- what is ahead of the first end, and what is behind it -/
def cutR : Bytes → Option (Bytes × Bytes)
  | [] => none
  | c :: s => if c = 13 ∧ s.head? = some 10 then some ([], s.tail) else (cutR s).map fun p => (c :: p.1, p.2)
set_option maxRecDepth 100000 in
theorem cutR_no {c : UInt8} {s : Bytes} (h : ¬ (c = 13 ∧ s.head? = some 10)) : cutR (c :: s) = (cutR s).map fun p => (c :: p.1, p.2) := by
  rw [cutR, if_neg h]
set_option maxRecDepth 100000 in
theorem cutR_yes (r : Bytes) : cutR (13 :: 10 :: r) = some ([], r) := by
  rw [cutR, if_pos ⟨rfl, rfl⟩]; rfl
set_option maxRecDepth 100000 in
theorem index_ge0 (s : Bytes) : -1 ≤ Lib.index s [13, 10] := Lib.index_ge s _
set_option maxRecDepth 100000 in
theorem pre_crlf (c : UInt8) (s : Bytes) : ([13, 10] : Bytes).isPrefixOf (c :: s) = decide (c = 13 ∧ s.head? = some 10) := by
  cases s with
  | nil => simp [List.isPrefixOf]
  | cons d t =>
    by_cases h1 : c = 13
    · by_cases h2 : d = 10
      · subst h1 h2; rfl
      · subst h1
        simp [List.isPrefixOf, h2]
        exact fun h => h2 h.symm
    · simp [List.isPrefixOf, h1]
      intro h; exact absurd h.symm h1
set_option maxRecDepth 100000 in
theorem index_cut (s : Bytes) : (∀ p, cutR s = some p → Lib.index s [13, 10] = p.1.length ∧ s = p.1 ++ 13 :: 10 :: p.2) ∧ (cutR s = none → Lib.index s [13, 10] = -1) := by
  induction s with
  | nil => exact ⟨fun p h => by simp [cutR] at h, fun _ => by simp [Lib.index]⟩
  | cons c s ih =>
    unfold Lib.index cutR
    rw [pre_crlf]
    by_cases h : c = 13 ∧ s.head? = some 10
    · rw [if_pos h]
      simp only [h, and_self, decide_true, if_true]
      refine ⟨fun p hp => ?_, fun hp => by simp at hp⟩
      simp only [Option.some.injEq] at hp
      subst hp
      refine ⟨rfl, ?_⟩
      cases s with
      | nil => simp at h
      | cons d t => simp at h; simp [h]
    · rw [if_neg h]
      simp only [h, decide_false, Bool.false_eq_true, if_false]
      cases hc : cutR s with
      | none =>
        refine ⟨fun p hp => by simp at hp, fun _ => ?_⟩
        rw [ih.2 hc]; rfl
      | some q =>
        refine ⟨fun p hp => ?_, fun hp => by simp at hp⟩
        simp only [Option.map_some, Option.some.injEq] at hp
        subst hp
        obtain ⟨e1, e2⟩ := ih.1 q hc
        rw [e1]
        have : ((q.1.length : Int) == -1) = false := by simp
        rw [this]
        refine ⟨by simp, ?_⟩
        conv => lhs; rw [e2]
        rfl
set_option maxRecDepth 100000 in
theorem cut_some {s l r : Bytes} (h : cutR s = some (l, r)) : Lib.cut s [13, 10] = (l, r, true) := by
  obtain ⟨e1, e2⟩ := (index_cut s).1 _ h
  unfold Lib.cut
  rw [e1]
  simp only [Int.natCast_nonneg, if_true, Int.toNat_natCast]
  have ha : s.take l.length = l := by rw [e2]; simp
  have hb : s.drop (l.length + 2) = r := by rw [e2]; simp
  rw [ha]
  show (l, s.drop (l.length + 2), true) = _
  rw [hb]
set_option maxRecDepth 100000 in
theorem cut_none {s : Bytes} (h : cutR s = none) : Lib.cut s [13, 10] = (s, [], false) := by
  unfold Lib.cut
  rw [(index_cut s).2 h, if_neg (by omega)]
set_option maxRecDepth 100000 in
theorem cut_at {s l r : Bytes} (h : cutR s = some (l, r)) : s = l ++ crlf ++ r := by
  rw [((index_cut s).1 _ h).2]; simp [crlf]

/-- without a 0d at its end -/
def trimR : Bytes → Bytes
  | [] => []
  | [c] => if c = 13 then [] else [c]
  | c :: d :: s => c :: trimR (d :: s)
def endedR : Bytes → Bool
  | [] => false
  | [c] => decide (c = 13)
  | _ :: d :: s => endedR (d :: s)
set_option maxRecDepth 100000 in
theorem suffix_13 (s : Bytes) : Lib.hasSuffix s [13] = endedR s := by
  unfold Lib.hasSuffix
  induction s with
  | nil => rfl
  | cons c t ih =>
    cases t with
    | nil =>
      by_cases h : c = 13
      · subst h; rfl
      · have h' : ¬ ((13 : UInt8) = c) := fun e => h e.symm
        simp [endedR, h, h', List.isSuffixOf, List.isPrefixOf]
    | cons d t =>
      rw [show endedR (c :: d :: t) = endedR (d :: t) from rfl, ← ih]
      simp only [List.isSuffixOf, List.reverse_cons]
      cases h : (t.reverse ++ [d]) with
      | nil => simp at h
      | cons x y => simp [List.isPrefixOf]
set_option maxRecDepth 100000 in
theorem trim_13 (s : Bytes) : Lib.trimSuffix s [13] = trimR s := by
  unfold Lib.trimSuffix
  rw [suffix_13]
  induction s with
  | nil => rfl
  | cons c t ih =>
    cases t with
    | nil =>
      by_cases h : c = 13
      · simp [endedR, trimR, h]
      · simp [endedR, trimR, h]
    | cons d t =>
      rw [show endedR (c :: d :: t) = endedR (d :: t) from rfl, show trimR (c :: d :: t) = c :: trimR (d :: t) from rfl, ← ih]
      split
      · simp
      · rfl
set_option maxRecDepth 100000 in
theorem trim_cons (c : UInt8) {s : Bytes} (h : s ≠ []) : trimR (c :: s) = c :: trimR s := by
  cases s with
  | nil => exact absurd rfl h
  | cons d t => rfl
set_option maxRecDepth 100000 in
theorem okB_iff {c : UInt8} : okB c = true ↔ c ≠ 13 ∧ c ≠ 10 := by
  unfold okB; simp
set_option maxRecDepth 100000 in
theorem all_okB {l : Bytes} : l.all okB = true ↔ ∀ c ∈ l, c ≠ 13 ∧ c ≠ 10 := by
  simp only [List.all_eq_true, okB_iff]

/-- a line, as the code asks for it -/
def lineP (M : Bytes → Bool → Bool) (s : Bytes) : Rd Bytes := match cutR s with
  | some p => if M p.1 true then .ok p.1 p.2 else .err 9
  | none => if M (trimR s) (endedR s) then .err 8 else .err 9
def preR (acc : Bytes) : Rd Bytes → Rd Bytes
  | .ok l r => .ok (acc ++ l) r
  | .err e => .err e
set_option maxRecDepth 100000 in
theorem text_cut (s : Bytes) : ∀ acc, textR acc s = preR acc (lineP (fun l _ => l.all okB) s) := by
  induction s with
  | nil => intro acc; simp [textR, lineP, cutR, trimR, preR]
  | cons c s ih =>
    intro acc
    unfold textR lineP
    by_cases h10 : c = 10
    · rw [if_pos h10]
      subst h10
      rw [cutR_no (by simp)]
      cases cutR s with
      | none =>
        have : (trimR (10 :: s)).all okB = false := by
          cases s with
          | nil => rfl
          | cons d t => rw [trim_cons _ (by simp)]; rfl
        simp only [Option.map_none, this]; rfl
      | some p => rfl
    · rw [if_neg h10]
      by_cases h13 : c = 13
      · rw [if_pos h13]
        subst h13
        cases s with
        | nil => rfl
        | cons d r =>
          by_cases hd : d = 10
          · subst hd
            simp only [if_true]
            rw [cutR_yes]
            simp [preR]
          · simp only [if_neg hd]
            rw [cutR_no (by simp [hd])]
            cases cutR (d :: r) with
            | none => rfl
            | some p => rfl
      · rw [if_neg h13, ih (acc ++ [c])]
        unfold lineP
        have hc : okB c = true := okB_iff.2 ⟨h13, h10⟩
        rw [cutR_no (fun h => h13 h.1)]
        cases hcs : cutR s with
        | none =>
          have : (trimR (c :: s)).all okB = (trimR s).all okB := by
            cases s with
            | nil => simp [trimR, h13, hc]
            | cons d t => rw [trim_cons _ (by simp), List.all_cons, hc, Bool.true_and]
          simp only [Option.map_none, this]
          by_cases hq : List.all (trimR s) okB = true
          · rw [if_pos hq]; rfl
          · rw [if_neg hq]; rfl
        | some p =>
          simp only [Option.map_some, List.all_cons, hc, Bool.true_and]
          by_cases hq : List.all p.1 okB = true
          · rw [if_pos hq, if_pos hq]; simp [preR]
          · rw [if_neg hq, if_neg hq]; rfl
/-- the number that a line is, between two -/
def uptoB (lo hi : Int) (s : Bytes) : Bool := match parseR s with
  | none => false
  | some n => decide (lo ≤ n) && decide (n ≤ hi)
def begunB (lo : Int) (s : Bytes) : Bool := decide (s = []) || (decide (s = [45]) && decide (lo < 0))
set_option maxRecDepth 100000 in
theorem may_or (lo hi : Int) (s : Bytes) : mayR lo hi s = (begunB lo s || uptoB lo hi s) := rfl
set_option maxRecDepth 100000 in
theorem upto_nil (lo hi : Int) : uptoB lo hi [] = false := by
  unfold uptoB
  cases h : parseR [] with
  | none => rfl
  | some n => exact absurd (parse_some h).1.symm (txt_ne n)
set_option maxRecDepth 100000 in
theorem upto_45 (lo hi : Int) : uptoB lo hi [45] = false := by
  unfold uptoB
  cases h : parseR [45] with
  | none => rfl
  | some n => exact absurd (parse_some h).1.symm (txt_not45 n)
set_option maxRecDepth 100000 in
theorem upto_ok {lo hi : Int} {s : Bytes} (h : uptoB lo hi s = true) : ∀ c ∈ s, c ≠ 13 ∧ c ≠ 10 := may_bytes (lo := lo) (hi := hi) (by rw [may_or, h, Bool.or_true])
set_option maxRecDepth 100000 in
theorem upto_13 {lo hi : Int} {s : Bytes} (h : (13 : UInt8) ∈ s) : uptoB lo hi s = false := by
  cases hu : uptoB lo hi s with
  | false => rfl
  | true => exact absurd rfl (upto_ok hu 13 h).1
set_option maxRecDepth 100000 in
theorem begun_13 {lo : Int} {s : Bytes} (h : (13 : UInt8) ∈ s) : begunB lo s = false := by
  unfold begunB
  have h1 : s ≠ [] := by intro e; rw [e] at h; simp at h
  have h2 : s ≠ [45] := by intro e; rw [e] at h; simp at h
  simp [h1, h2]
set_option maxRecDepth 100000 in
theorem cut_pre (P s : Bytes) (h : ∀ c ∈ P, c ≠ 13) : cutR (P ++ s) = (cutR s).map fun p => (P ++ p.1, p.2) := by
  induction P with
  | nil => simp
  | cons c P ih =>
    have hc := h c (by simp)
    rw [List.cons_append, cutR_no (fun e => hc e.1), ih (fun x hx => h x (by simp [hx]))]
    cases cutR s <;> simp
set_option maxRecDepth 100000 in
theorem cut_no (s : Bytes) (h : ∀ c ∈ s, c ≠ 13) : cutR s = none := by
  have := cut_pre s [] h
  simpa [cutR] using this
set_option maxRecDepth 100000 in
theorem trim_pre (P : Bytes) {s : Bytes} (h : s ≠ []) : trimR (P ++ s) = P ++ trimR s := by
  induction P with
  | nil => rfl
  | cons c P ih => rw [List.cons_append, trim_cons _ (by simp [h]), ih]; rfl
set_option maxRecDepth 100000 in
theorem ended_pre (P : Bytes) {s : Bytes} (h : s ≠ []) : endedR (P ++ s) = endedR s := by
  induction P with
  | nil => rfl
  | cons c P ih =>
    rw [List.cons_append, ← ih]
    cases hq : P ++ s with
    | nil => simp [h] at hq
    | cons d t => rfl
set_option maxRecDepth 100000 in
theorem trim_no (s : Bytes) (h : ∀ c ∈ s, c ≠ 13) : trimR s = s ∧ endedR s = false := by
  induction s with
  | nil => exact ⟨rfl, rfl⟩
  | cons c t ih =>
    have hc := h c (by simp)
    cases t with
    | nil => simp [trimR, endedR, hc]
    | cons d u =>
      have := ih (fun x hx => h x (by simp [hx]))
      exact ⟨by rw [trim_cons _ (by simp), this.1], this.2⟩
def numP (lo hi : Int) (l : Bytes) (b : Bool) : Bool := uptoB lo hi l || begunB lo l && !b
def numV (R : Rd Bytes) : Rd Int := match R with
  | .ok l r => .ok ((parseR l).getD 0) r
  | .err e => .err e
set_option maxRecDepth 100000 in
theorem num_cut (lo hi : Int) (s : Bytes) : numR lo hi s = numV (lineP (numP lo hi) s) := by
  unfold numR
  rw [text_cut s []]
  rcases pre_cases s with ⟨hp, hno⟩ | ⟨t, ht⟩
  · rw [hp]
    unfold lineP
    rw [cut_no s hno]
    simp only [(trim_no s hno).1, (trim_no s hno).2, numP, Bool.not_false, Bool.and_true, Nat.lt_irrefl, false_and, or_false]
    rw [show (uptoB lo hi s || begunB lo s) = mayR lo hi s by rw [may_or, Bool.or_comm]]
    cases hm : mayR lo hi s
    · rfl
    · have : s.all okB = true := all_okB.2 (may_bytes hm)
      rw [if_neg (by simp), this]; rfl
  · obtain ⟨P, hP⟩ : ∃ P, pre s = P := ⟨_, rfl⟩
    have hn : ∀ c ∈ P, c ≠ 13 := by rw [← hP]; exact pre_all s
    rw [hP] at ht ⊢
    have hlt : P.length < s.length := by rw [ht]; simp
    have hcond : (mayR lo hi P = false ∨ (P.length < s.length ∧ (P = [] ∨ P = [45]))) ↔ uptoB lo hi P = false := by
      constructor
      · rintro (h | ⟨_, h | h⟩)
        · rw [may_or] at h; simp only [Bool.or_eq_false_iff] at h; exact h.2
        · rw [h]; exact upto_nil lo hi
        · rw [h]; exact upto_45 lo hi
      · intro h
        by_cases hb : begunB lo P = true
        · right
          refine ⟨hlt, ?_⟩
          unfold begunB at hb
          simp only [Bool.or_eq_true, decide_eq_true_eq, Bool.and_eq_true] at hb
          exact hb.imp id (fun x => x.1)
        · left
          rw [may_or, h]; simpa using hb
    cases hu : uptoB lo hi P with
    | false =>
      rw [if_pos (hcond.2 hu)]
      unfold lineP
      rw [ht, cut_pre P _ hn]
      cases t with
      | nil =>
        rw [trim_pre P (by simp), ended_pre P (by simp)]
        simp [cutR, trimR, endedR, numP, hu, numV]
      | cons d r =>
        by_cases hd : d = 10
        · subst hd
          simp [cutR, numP, hu, numV]
        · have hc : cutR (13 :: d :: r) = (cutR (d :: r)).map fun p => (13 :: p.1, p.2) := by
            exact cutR_no (by simp [hd])
          rw [hc]
          cases cutR (d :: r) with
          | none =>
            rw [trim_pre P (by simp), trim_cons _ (by simp)]
            simp [numP, upto_13, begun_13, numV]
          | some p => simp [numP, upto_13, begun_13, numV]
    | true =>
      rw [if_neg (fun h => by rw [hcond.1 h] at hu; cases hu)]
      have hPo : P.all okB = true := all_okB.2 (upto_ok hu)
      unfold lineP
      rw [ht, cut_pre P _ hn]
      cases t with
      | nil =>
        rw [trim_pre P (by simp), ended_pre P (by simp)]
        simp only [cutR, List.head?_nil, reduceCtorEq, and_false, if_false, Option.map_none, trimR, if_true, List.append_nil, hPo, numP, hu, Bool.true_or]
        rfl
      | cons d r =>
        by_cases hd : d = 10
        · subst hd
          simp only [cutR, List.head?_cons, and_self, if_true, Option.map_some, List.append_nil, hPo, numP, hu, Bool.true_or, List.tail_cons]
          simp [preR, numV]
        · have hc : cutR (13 :: d :: r) = (cutR (d :: r)).map fun p => (13 :: p.1, p.2) := by
            exact cutR_no (by simp [hd])
          rw [hc]
          have hb : okB 13 = false := rfl
          cases cutR (d :: r) with
          | none =>
            rw [trim_pre P (by simp), trim_cons _ (by simp)]
            simp [numP, upto_13, begun_13, numV, hb, preR]
          | some p => simp [numP, upto_13, begun_13, numV, hb, preR]
set_option maxRecDepth 100000 in
/-- so many bytes, as the code asks for them -/
theorem bytes_cut (n : Nat) (s : Bytes) : bytesR n s = if s.length < n then .err 8 else if Lib.hasPrefix (s.drop n) [13, 10] then .ok (s.take n) ((s.drop n).drop 2) else if Lib.hasPrefix [13, 10] (s.drop n) then .err 8 else .err 9 := by
  unfold bytesR Lib.hasPrefix
  by_cases h1 : s.length < n
  · rw [if_pos h1, if_pos (by omega)]
  · rw [if_neg h1]
    by_cases h2 : s.length ≤ n
    · rw [if_pos h2]
      have : s.drop n = [] := List.drop_eq_nil_of_le h2
      rw [this]
      rfl
    · rw [if_neg h2]
      cases hd : s.drop n with
      | nil => rw [List.drop_eq_nil_iff] at hd; omega
      | cons c q =>
        by_cases hc : c = 13
        · subst hc
          simp only [ne_eq, not_true_eq_false, if_false]
          cases q with
          | nil => rfl
          | cons d r =>
            by_cases h10 : d = 10
            · subst h10; rfl
            · have h10' : ¬ ((10 : UInt8) = d) := fun e => h10 e.symm
              simp [List.isPrefixOf, h10, h10']
        · have hc' : ¬ ((13 : UInt8) = c) := fun e => hc e.symm
          simp [List.isPrefixOf, hc, hc']
end Go.Proofs.YtflmolhkbpicbaaDoor.Ry
