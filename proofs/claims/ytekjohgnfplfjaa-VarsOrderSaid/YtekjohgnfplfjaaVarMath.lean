/-
  Numbers that end, as a list by rising keys: what each call makes of it.
-/
import Derived.Test.YtekjohgnfplfjaaOwn
import Derived.Sort.Walk0
namespace Go.Proofs.Ytekjohgnfplfjaa.Va
open Go.RowKit

/-- a key, its number, its end (-1: none) -/
abbrev Vr := ByteArray × Int × Int
abbrev VL := List Vr
def lt (a b : ByteArray) : Bool := Op.bytesLess a.toList b.toList
theorem lt_eq (a b : ByteArray) : lt a b = decide (a.data.toList < b.data.toList) := by
  unfold lt
  rw [bytesLess_eq, Lib.toList_data, Lib.toList_data]
theorem lt_trans {a b c : ByteArray} (h : lt a b = true) (k : lt b c = true) : lt a c = true := by
  rw [lt_eq] at *
  simp only [decide_eq_true_eq] at *
  exact List.lt_trans h k
theorem lt_irrefl (a : ByteArray) : lt a a = false := by
  rw [lt_eq]
  simp [List.lt_irrefl]
theorem lt_asymm {a b : ByteArray} (h : lt a b = true) : lt b a = false := by
  cases h2 : lt b a with
  | false => rfl
  | true => rw [← lt_irrefl a]; exact (lt_trans h h2).symm
theorem lt_ne {a b : ByteArray} (h : lt a b = true) : ¬ a = b := fun e => by rw [e, lt_irrefl] at h; cases h
theorem ba_ext {a b : ByteArray} (h : a.data.toList = b.data.toList) : a = b := by
  cases a; cases b
  simp only at h
  congr 1
  exact Array.ext' h
theorem lt_total {a b : ByteArray} (h : lt a b = false) (hn : ¬ a = b) : lt b a = true := by
  rw [lt_eq] at *
  simp only [decide_eq_true_eq, decide_eq_false_iff_not] at *
  have h1 : b.data.toList ≤ a.data.toList := List.not_lt.1 h
  rcases Classical.em (b.data.toList < a.data.toList) with h2 | h2
  · exact h2
  · exact absurd (ba_ext (List.le_antisymm (List.not_lt.1 h2) h1)) hn

def clamp (t : Int) : Int := max 0 (min t 9007199254740992)
def later (t d : Int) : Int := clamp (clamp t + max d 0)
def isLive (now : Int) (x : Vr) : Bool := decide (x.2.2 < 0) || decide (clamp now < x.2.2)
def live (L : VL) (now : Int) : VL := L.filter (isLive now)
def fnd (L : VL) (key : ByteArray) (now : Int) : Option Vr := (live L now).find? fun x => decide (x.1 = key)
def has (L : VL) (key : ByteArray) (now : Int) : Bool := (fnd L key now).isSome
def getv (L : VL) (key : ByteArray) (now : Int) : Int := ((fnd L key now).map (·.2.1)).getD 0
def endOf (L : VL) (key : ByteArray) (now : Int) : Int := ((fnd L key now).map (·.2.2)).getD (-1)
def wo (L : VL) (key : ByteArray) : VL := L.filter fun x => decide (¬ x.1 = key)
def ins : VL → Vr → VL
  | [], x => [x]
  | y :: r, x => if lt x.1 y.1 = true then x :: y :: r else y :: ins r x
def wi (L : VL) (x : Vr) : VL := ins (wo L x.1) x
def full (room : Nat) (L : VL) (key : ByteArray) (now : Int) : Bool := !has L key now && decide (room ≤ (live L now).length)
def kept (L : VL) (key : ByteArray) (now : Int) : VL := if has L key now = true then L else live L now
def inR (x : Int) : Bool := decide (-9223372036854775808 ≤ x ∧ x < 9223372036854775808)
def set (room : Nat) (L : VL) (key : ByteArray) (n now : Int) : VL × Int := if full room L key now = true then (L, 5) else (wi (kept L key now) (key, n, -1), 0)
def add (room : Nat) (L : VL) (key : ByteArray) (n now : Int) : VL × Int × Int :=
  if inR (getv L key now + n) = false then (L, 0, 6) else if full room L key now = true then (L, 0, 5) else (wi (kept L key now) (key, getv L key now + n, endOf L key now), getv L key now + n, 0)
def del (L : VL) (key : ByteArray) (now : Int) : VL := if has L key now = true then wo L key else L
def exp (L : VL) (key : ByteArray) (last now : Int) : VL := if has L key now = true then wi L (key, getv L key now, later now last) else L
def left (L : VL) (key : ByteArray) (now : Int) : Int := if has L key now = true then (if endOf L key now < 0 then -1 else endOf L key now - clamp now) else 0
def clipR (room : Int) : Nat := (max 0 (min room 10000)).toNat

def Rising (L : VL) : Prop := L.Pairwise fun x y => lt x.1 y.1 = true
/-- what is held of what is kept -/
structure Good (room : Nat) (L : VL) : Prop where
  most : room ≤ 10000
  len : L.length ≤ room
  rise : Rising L

theorem Rising.filter {L : VL} (h : Rising L) (p : Vr → Bool) : Rising (L.filter p) := List.Pairwise.filter p h
theorem Good.live_len {room : Nat} {L : VL} (h : Good room L) (now : Int) : (live L now).length ≤ room := Nat.le_trans (List.length_filter_le _ _) h.len
theorem mem_ins {x y : Vr} : ∀ {L : VL}, y ∈ ins L x ↔ y = x ∨ y ∈ L
  | [] => by simp [ins]
  | z :: r => by
    unfold ins
    by_cases h : lt x.1 z.1 = true
    · rw [if_pos h]; simp
    · rw [if_neg h, List.mem_cons, mem_ins, List.mem_cons]
      constructor
      · rintro (h | h | h)
        · exact .inr (.inl h)
        · exact .inl h
        · exact .inr (.inr h)
      · rintro (h | h | h)
        · exact .inr (.inl h)
        · exact .inl h
        · exact .inr (.inr h)
theorem ins_len (x : Vr) : ∀ L : VL, (ins L x).length = L.length + 1
  | [] => rfl
  | z :: r => by
    unfold ins
    by_cases h : lt x.1 z.1 = true
    · rw [if_pos h]; rfl
    · rw [if_neg h, List.length_cons, ins_len x r, List.length_cons]
theorem Rising.ins {x : Vr} : ∀ {L : VL}, Rising L → (∀ y ∈ L, ¬ y.1 = x.1) → Rising (ins L x)
  | [], _, _ => List.pairwise_singleton _ _
  | z :: r, h, hn => by
    have h1 := List.pairwise_cons.1 h
    unfold Va.ins
    by_cases hl : lt x.1 z.1 = true
    · rw [if_pos hl]
      refine List.pairwise_cons.2 ⟨fun y hy => ?_, h⟩
      rcases List.mem_cons.1 hy with rfl | hy
      · exact hl
      · exact lt_trans hl (h1.1 y hy)
    · rw [if_neg hl]
      refine List.pairwise_cons.2 ⟨fun y hy => ?_, Rising.ins h1.2 (fun y hy => hn y (List.mem_cons_of_mem _ hy))⟩
      rcases mem_ins.1 hy with rfl | hy
      · exact lt_total (by simpa using hl) (fun e => hn z (by simp) e.symm)
      · exact h1.1 y hy
theorem Rising.eq_of_key {L : VL} (h : Rising L) {x y : Vr} (hx : x ∈ L) (hy : y ∈ L) (e : x.1 = y.1) : x = y := by
  induction L with
  | nil => cases hx
  | cons z r ih =>
    have h1 := List.pairwise_cons.1 h
    rcases List.mem_cons.1 hx with rfl | hx' <;> rcases List.mem_cons.1 hy with rfl | hy'
    · rfl
    · exact absurd e (lt_ne (h1.1 y hy'))
    · exact absurd e.symm (lt_ne (h1.1 x hx'))
    · exact ih h1.2 hx' hy'
theorem mem_wo {L : VL} {key : ByteArray} {x : Vr} : x ∈ wo L key ↔ x ∈ L ∧ ¬ x.1 = key := by simp [wo]
theorem mem_wi {L : VL} {x y : Vr} : y ∈ wi L x ↔ y = x ∨ (y ∈ L ∧ ¬ y.1 = x.1) := by unfold wi; rw [mem_ins, mem_wo]
theorem Rising.wi {L : VL} (h : Rising L) (x : Vr) : Rising (wi L x) := (h.filter _).ins fun y hy => (mem_wo.1 hy).2
theorem mem_live {L : VL} {now : Int} {x : Vr} : x ∈ live L now ↔ x ∈ L ∧ isLive now x = true := by simp [live]
theorem fnd_some {L : VL} {key : ByteArray} {now : Int} {x : Vr} (h : fnd L key now = some x) : x ∈ L ∧ isLive now x = true ∧ x.1 = key := by
  have h1 := List.mem_of_find?_eq_some h
  have h2 := List.find?_some h
  exact ⟨(mem_live.1 h1).1, (mem_live.1 h1).2, by simpa using h2⟩
theorem fnd_of {L : VL} (hr : Rising L) {key : ByteArray} {now : Int} {x : Vr} (h1 : x ∈ L) (h2 : isLive now x = true) (h3 : x.1 = key) : fnd L key now = some x := by
  cases h : fnd L key now with
  | none =>
    have := List.find?_eq_none.1 h x (mem_live.2 ⟨h1, h2⟩)
    simp [h3] at this
  | some y =>
    have hy := fnd_some h
    rw [hr.eq_of_key hy.1 h1 (hy.2.2.trans h3.symm)]
theorem fnd_none {L : VL} {key : ByteArray} {now : Int} : fnd L key now = none ↔ ∀ x ∈ L, isLive now x = true → ¬ x.1 = key := by
  unfold fnd
  rw [List.find?_eq_none]
  constructor
  · intro h x hx hl e
    exact (by simpa [e] using h x (mem_live.2 ⟨hx, hl⟩))
  · intro h x hx
    simpa using h x (mem_live.1 hx).1 (mem_live.1 hx).2
theorem has_iff {L : VL} {key : ByteArray} {now : Int} : has L key now = true ↔ ∃ x ∈ L, isLive now x = true ∧ x.1 = key := by
  unfold has
  rw [Option.isSome_iff_exists]
  constructor
  · rintro ⟨x, h⟩
    exact ⟨x, (fnd_some h).1, (fnd_some h).2⟩
  · rintro ⟨x, h1, h2, h3⟩
    cases h : fnd L key now with
    | none => exact absurd h3 (fnd_none.1 h x h1 h2)
    | some y => exact ⟨y, rfl⟩
theorem wi_len {L : VL} (x : Vr) (hr : Rising L) : (wi L x).length ≤ L.length + 1 ∧ ((∃ y ∈ L, y.1 = x.1) → (wi L x).length ≤ L.length) := by
  unfold wi
  rw [ins_len]
  refine ⟨by have := List.length_filter_le (fun y : Vr => decide (¬ y.1 = x.1)) L; unfold wo; omega, fun ⟨y, hy, e⟩ => ?_⟩
  have : (wo L x.1).length < L.length := by
    unfold wo
    refine List.length_filter_lt_length_iff_exists.2 ⟨y, hy, ?_⟩
    simp [e]
  omega
theorem Good.kept {room : Nat} {L : VL} (h : Good room L) (key : ByteArray) (now : Int) : Good room (kept L key now) := by
  unfold Va.kept
  by_cases hh : has L key now = true
  · rw [if_pos hh]; exact h
  · rw [if_neg hh]; exact ⟨h.most, h.live_len now, h.rise.filter _⟩
theorem Good.put {room : Nat} {L : VL} (h : Good room L) {key : ByteArray} {now : Int} (hf : ¬ full room L key now = true) (n e : Int) : Good room (wi (Va.kept L key now) (key, n, e)) := by
  have hk := h.kept key now
  refine ⟨h.most, ?_, hk.rise.wi _⟩
  have hw := wi_len (key, n, e) hk.rise
  unfold full at hf
  by_cases hh : has L key now = true
  · have : ∃ y ∈ Va.kept L key now, y.1 = key := by
      obtain ⟨x, h1, _, h3⟩ := has_iff.1 hh
      refine ⟨x, ?_, h3⟩
      unfold Va.kept
      rw [if_pos hh]
      exact h1
    exact Nat.le_trans (hw.2 this) hk.len
  · have hlt : (live L now).length < room := by simpa [hh] using hf
    have e1 : Va.kept L key now = live L now := by unfold Va.kept; rw [if_neg hh]
    have := hw.1
    rw [e1] at this ⊢
    omega
theorem Good.set {room : Nat} {L : VL} (h : Good room L) (key : ByteArray) (n now : Int) : Good room (set room L key n now).1 := by
  unfold Va.set
  by_cases hf : full room L key now = true
  · rw [if_pos hf]; exact h
  · rw [if_neg hf]; exact h.put hf n (-1)
theorem Good.add {room : Nat} {L : VL} (h : Good room L) (key : ByteArray) (n now : Int) : Good room (add room L key n now).1 := by
  unfold Va.add
  by_cases ho : inR (getv L key now + n) = false
  · rw [if_pos ho]; exact h
  · rw [if_neg ho]
    by_cases hf : full room L key now = true
    · rw [if_pos hf]; exact h
    · rw [if_neg hf]; exact h.put hf _ _
theorem Good.del {room : Nat} {L : VL} (h : Good room L) (key : ByteArray) (now : Int) : Good room (del L key now) := by
  unfold Va.del
  by_cases hh : has L key now = true
  · rw [if_pos hh]; exact ⟨h.most, Nat.le_trans (List.length_filter_le _ _) h.len, h.rise.filter _⟩
  · rw [if_neg hh]; exact h
theorem Good.exp {room : Nat} {L : VL} (h : Good room L) (key : ByteArray) (last now : Int) : Good room (exp L key last now) := by
  unfold Va.exp
  by_cases hh : has L key now = true
  · rw [if_pos hh]
    obtain ⟨x, h1, _, h3⟩ := has_iff.1 hh
    exact ⟨h.most, Nat.le_trans ((wi_len (key, getv L key now, later now last) h.rise).2 ⟨x, h1, h3⟩) h.len, h.rise.wi _⟩
  · rw [if_neg hh]; exact h
theorem Good.nil {room : Nat} (h : room ≤ 10000) : Good room [] := ⟨h, Nat.zero_le _, List.Pairwise.nil⟩
theorem clipR_le (room : Int) : clipR room ≤ 10000 := by unfold clipR; omega
end Go.Proofs.Ytekjohgnfplfjaa.Va
