/-
  The mathematics of a ledger: dues by rising numbers; the order of their times; what is due, what is left, which is the first.
-/
import Derived.Test.YtplinlgafgfepaaOwn
namespace Go.Proofs.Ytplinlgafgfepaa.Ld

/-- kind, limit, period, burst, cap, open -/
abbrev Pl := Int × Int × Int × Int × Int × Bool
/-- key, policy, cost -/
abbrev Lim := ByteArray × Pl × Int
/-- number, till, and what lies with it -/
abbrev Du (α : Type) := Nat × Nat × α
abbrev LL (α : Type) := List (Du α)
variable {α β : Type}

def clip (n : Int) : Nat := if n < 0 then 0 else if 9007199254740992 < n then 9007199254740992 else n.toNat
theorem clip_le (n : Int) : clip n ≤ 9007199254740992 := by unfold clip; split <;> (try split) <;> omega
theorem clip_mid {n : Int} (h : 0 ≤ n) (k : n ≤ 9007199254740992) : (clip n : Int) = n := by
  unfold clip
  rw [if_neg (by omega), if_neg (by omega)]
  omega

def Lt (a b : Du α) : Prop := a.2.1 < b.2.1 ∨ a.2.1 = b.2.1 ∧ a.1 < b.1
instance (a b : Du α) : Decidable (Lt a b) := by unfold Lt; infer_instance
theorem Lt.irrefl (a : Du α) : ¬ Lt a a := by unfold Lt; omega
theorem Lt.trans {a b c : Du α} (h : Lt a b) (k : Lt b c) : Lt a c := by unfold Lt at *; omega
theorem Lt.asymm {a b : Du α} (h : Lt a b) : ¬ Lt b a := by unfold Lt at *; omega
theorem Lt.total {a b : Du α} (h : a.1 ≠ b.1) : Lt a b ∨ Lt b a := by unfold Lt; omega

structure Good (last : Nat) (L : LL α) : Prop where
  rise : L.Pairwise (·.1 < ·.1)
  fits : ∀ x ∈ L, 1 ≤ x.1 ∧ x.1 ≤ last ∧ x.2.1 ≤ 9007199254740992
  few : L.length ≤ 1000

def insU (x : Du α) : LL α → LL α
  | [] => [x]
  | y :: l => if Lt x y then x :: y :: l else y :: insU x l
def srt : LL α → LL α
  | [] => []
  | x :: l => insU x (srt l)
theorem insU_perm (x : Du α) (l : LL α) : (insU x l).Perm (x :: l) := by
  induction l with
  | nil => exact .refl _
  | cons y l ih =>
    unfold insU
    split
    · exact .refl _
    · exact (ih.cons y).trans (.swap x y l)
theorem srt_perm (l : LL α) : (srt l).Perm l := by
  induction l with
  | nil => exact .refl _
  | cons x l ih => exact (insU_perm x (srt l)).trans (ih.cons x)
theorem mem_srt {l : LL α} {x : Du α} : x ∈ srt l ↔ x ∈ l := (srt_perm l).mem_iff
theorem insU_sorted {x : Du α} {l : LL α} (h : l.Pairwise Lt) (hd : ∀ y ∈ l, x.1 ≠ y.1) : (insU x l).Pairwise Lt := by
  induction l with
  | nil => exact List.pairwise_singleton _ _
  | cons y l ih =>
    rw [List.pairwise_cons] at h
    unfold insU
    split
    · rename_i hxy
      rw [List.pairwise_cons, List.pairwise_cons]
      refine ⟨fun z hz => ?_, h⟩
      rcases List.mem_cons.1 hz with rfl | hz
      · exact hxy
      · exact hxy.trans (h.1 z hz)
    · rename_i hxy
      have hyx : Lt y x := (Lt.total (hd y (by simp))).resolve_left hxy
      rw [List.pairwise_cons]
      refine ⟨fun z hz => ?_, ih h.2 (fun z hz => hd z (by simp [hz]))⟩
      rcases List.mem_cons.1 ((insU_perm x l).mem_iff.1 hz) with rfl | hz
      · exact hyx
      · exact h.1 z hz
theorem srt_sorted {l : LL α} (h : l.Pairwise (·.1 ≠ ·.1)) : (srt l).Pairwise Lt := by
  induction l with
  | nil => exact .nil
  | cons x l ih =>
    rw [List.pairwise_cons] at h
    exact insU_sorted (ih h.2) (fun y hy => h.1 y (mem_srt.1 hy))
theorem Good.apart {last : Nat} {L : LL α} (h : Good last L) : L.Pairwise (·.1 ≠ ·.1) := h.rise.imp fun h => Nat.ne_of_lt h
theorem sorted_unique {a b : LL α} (ha : a.Pairwise Lt) (hb : b.Pairwise Lt) (h : ∀ x, x ∈ a ↔ x ∈ b) : a = b := by
  induction a generalizing b with
  | nil =>
    cases b with
    | nil => rfl
    | cons y b => exact absurd ((h y).2 (by simp)) (by simp)
  | cons x a ih =>
    cases b with
    | nil => exact absurd ((h x).1 (by simp)) (by simp)
    | cons y b =>
      rw [List.pairwise_cons] at ha hb
      have e : x = y := by
        rcases List.mem_cons.1 ((h x).1 (by simp)) with e | hx
        · exact e
        · rcases List.mem_cons.1 ((h y).2 (by simp)) with e | hy
          · exact e.symm
          · exact absurd (ha.1 y hy) (hb.1 x hx).asymm
      subst e
      rw [ih ha.2 hb.2 fun z => ?_]
      constructor
      · intro hz
        rcases List.mem_cons.1 ((h z).1 (by simp [hz])) with e | h2
        · subst e; exact absurd (ha.1 z hz) (Lt.irrefl z)
        · exact h2
      · intro hz
        rcases List.mem_cons.1 ((h z).2 (by simp [hz])) with e | h2
        · subst e; exact absurd (hb.1 z hz) (Lt.irrefl z)
        · exact h2

def getO (L : LL α) (id : Int) : Option (Du α) := L.find? fun x => decide ((x.1 : Int) = id)
def rem (L : LL α) (id : Int) : LL α := L.filter fun x => decide ((x.1 : Int) ≠ id)
def due (L : LL α) (t : Nat) : LL α := (srt L).filter fun x => decide (x.2.1 ≤ t)
def left (L : LL α) (t : Nat) : LL α := L.filter fun x => decide (t < x.2.1)
def nxt (L : LL α) : Option (Du α) := (srt L).head?
def add (L : LL α) (last : Nat) (till : Int) (ls : α) : LL α := if 1000 ≤ L.length then L else L ++ [(last + 1, clip till, ls)]
def addN (L : LL α) (last : Nat) : Nat := if 1000 ≤ L.length then last else last + 1
def addI (L : LL α) (last : Nat) : Int := if 1000 ≤ L.length then 0 else (last + 1 : Nat)
def addE (L : LL α) : Int := if 1000 ≤ L.length then 5 else 0

theorem mem_due {L : LL α} {t : Nat} {x : Du α} : x ∈ due L t ↔ x ∈ L ∧ x.2.1 ≤ t := by simp [due, mem_srt]
theorem mem_left {L : LL α} {t : Nat} {x : Du α} : x ∈ left L t ↔ x ∈ L ∧ t < x.2.1 := by simp [left]
theorem mem_rem {L : LL α} {id : Int} {x : Du α} : x ∈ rem L id ↔ x ∈ L ∧ (x.1 : Int) ≠ id := by simp [rem]

variable {last : Nat} {L : LL α}
theorem Good.nil (last : Nat) : Good last ([] : LL α) := ⟨.nil, fun _ h => by simp at h, by simp⟩
theorem Good.sub {p : Du α → Bool} (h : Good last L) : Good last (L.filter p) :=
  ⟨h.rise.filter _, fun x hx => h.fits x (List.mem_filter.1 hx).1, Nat.le_trans (List.length_filter_le _ _) h.few⟩
theorem Good.rem (h : Good last L) (id : Int) : Good last (rem L id) := h.sub
theorem Good.left (h : Good last L) (t : Nat) : Good last (left L t) := h.sub
theorem Good.add (h : Good last L) (till : Int) (ls : α) : Good (addN L last) (add L last till ls) := by
  unfold Ld.add addN
  split
  · exact h
  · refine ⟨?_, ?_, ?_⟩
    · rw [List.pairwise_append]
      refine ⟨h.rise, List.pairwise_singleton _ _, fun a ha b hb => ?_⟩
      rw [List.mem_singleton] at hb
      subst hb
      have := (h.fits a ha).2.1
      show a.1 < last + 1
      omega
    · intro x hx
      rcases List.mem_append.1 hx with hx | hx
      · have := h.fits x hx; omega
      · rw [List.mem_singleton] at hx
        subst hx
        have := clip_le till
        refine ⟨?_, ?_, ?_⟩ <;> simp <;> omega
    · simp; omega
theorem due_sorted (h : Good last L) (t : Nat) : (due L t).Pairwise Lt := (srt_sorted h.apart).filter _
theorem due_length (t : Nat) : (due L t).length + (left L t).length = L.length := by
  have h1 : (due L t).length = (L.filter fun x => decide (x.2.1 ≤ t)).length := ((srt_perm L).filter _).length_eq
  rw [h1]
  unfold left
  clear h1
  induction L with
  | nil => rfl
  | cons x l ih =>
    rw [List.filter_cons, List.filter_cons]
    by_cases hx : x.2.1 ≤ t
    · rw [if_pos (by simpa using hx), if_neg (by simpa using hx)]
      simp only [List.length_cons]
      omega
    · rw [if_neg (by simpa using hx), if_pos (by simpa using hx)]
      simp only [List.length_cons]
      omega
theorem left_left {t u : Nat} (h : t ≤ u) : left (left L t) u = left L u := by
  unfold left
  rw [List.filter_filter]
  congr 1
  funext x
  by_cases hx : u < x.2.1
  · have : t < x.2.1 := by omega
    simp [hx, this]
  · simp [hx]
theorem due_due (h : Good last L) {t u : Nat} (htu : t ≤ u) : due L t ++ due (left L t) u = due L u := by
  refine sorted_unique ?_ (due_sorted h u) fun x => ?_
  · rw [List.pairwise_append]
    refine ⟨due_sorted h t, due_sorted (h.left t) u, fun a ha b hb => ?_⟩
    have h1 := (mem_due.1 ha).2
    have h2 := (mem_left.1 (mem_due.1 hb).1).2
    exact .inl (by omega)
  · rw [List.mem_append, mem_due, mem_due, mem_due, mem_left]
    constructor
    · rintro (⟨h1, h2⟩ | ⟨⟨h1, h2⟩, h3⟩)
      · exact ⟨h1, by omega⟩
      · exact ⟨h1, h3⟩
    · rintro ⟨h1, h2⟩
      by_cases h3 : x.2.1 ≤ t
      · exact .inl ⟨h1, h3⟩
      · exact .inr ⟨⟨h1, by omega⟩, h2⟩
/-- numbers tell dues apart -/
theorem Good.same (h : Good last L) {x y : Du α} (hx : x ∈ L) (hy : y ∈ L) (e : x.1 = y.1) : x = y := by
  have hr := h.rise
  clear h
  induction L with
  | nil => simp at hx
  | cons z l ih =>
    rw [List.pairwise_cons] at hr
    rcases List.mem_cons.1 hx with e1 | h1
    · rcases List.mem_cons.1 hy with e2 | h2
      · rw [e1, e2]
      · have := hr.1 y h2; rw [← e1] at this; omega
    · rcases List.mem_cons.1 hy with e2 | h2
      · have := hr.1 x h1; rw [← e2] at this; omega
      · exact ih h1 h2 hr.2
theorem getO_some (h : Good last L) {x : Du α} (hx : x ∈ L) : getO L x.1 = some x := by
  unfold getO
  cases hf : L.find? (fun y => decide ((y.1 : Int) = x.1)) with
  | none => exact absurd (List.find?_eq_none.1 hf x hx) (by simp)
  | some y =>
    have h1 := List.mem_of_find?_eq_some hf
    have h2 := List.find?_some hf
    rw [decide_eq_true_iff] at h2
    rw [h.same h1 hx (by omega)]
theorem getO_mem {id : Int} {x : Du α} (h : getO L id = some x) : x ∈ L ∧ (x.1 : Int) = id := by
  unfold getO at h
  exact ⟨List.mem_of_find?_eq_some h, by simpa using List.find?_some h⟩
theorem getO_none {id : Int} : getO L id = none ↔ ∀ x ∈ L, (x.1 : Int) ≠ id := by
  unfold getO
  rw [List.find?_eq_none]
  constructor
  · intro h x hx; simpa using h x hx
  · intro h x hx; simpa using h x hx
theorem rem_none {id : Int} (h : getO L id = none) : rem L id = L := by
  rw [getO_none] at h
  unfold rem
  exact List.filter_eq_self.2 fun x hx => by simpa using h x hx
theorem getO_rem {id : Int} : getO (rem L id) id = none := by
  rw [getO_none]
  intro x hx
  exact (mem_rem.1 hx).2
theorem nxt_none : nxt L = none ↔ L = [] := by
  unfold nxt
  rw [List.head?_eq_none_iff]
  constructor
  · intro h
    have := (srt_perm L).length_eq
    rw [h] at this
    exact List.eq_nil_of_length_eq_zero this.symm
  · intro h; subst h; rfl
theorem nxt_some (h : Good last L) {x : Du α} : nxt L = some x ↔ x ∈ L ∧ ∀ y ∈ L, y ≠ x → Lt x y := by
  have hs := srt_sorted h.apart
  have hm := fun y => mem_srt (l := L) (x := y)
  unfold nxt
  cases hq : srt L with
  | nil =>
    rw [hq] at hm
    simp only [List.head?_nil]
    constructor
    · intro h; exact absurd h (by simp)
    · rintro ⟨h1, _⟩; exact absurd ((hm x).2 h1) (by simp)
  | cons z l =>
    rw [hq] at hm hs
    rw [List.pairwise_cons] at hs
    simp only [List.head?_cons, Option.some.injEq]
    constructor
    · rintro rfl
      refine ⟨(hm z).1 (by simp), fun y hy hne => ?_⟩
      rcases List.mem_cons.1 ((hm y).2 hy) with e | hy
      · exact absurd e hne
      · exact hs.1 y hy
    · rintro ⟨h1, h2⟩
      rcases List.mem_cons.1 ((hm x).2 h1) with e | hx
      · exact e.symm
      · exact Classical.byContradiction fun hne => (h2 z ((hm z).1 (by simp)) hne).asymm (hs.1 x hx)
/-- the first one goes first -/
theorem due_cons (h : Good last L) {x : Du α} (hx : nxt L = some x) {t : Nat} (ht : x.2.1 ≤ t) : due L t = x :: due (rem L x.1) t ∧ left (rem L x.1) t = left L t := by
  obtain ⟨h1, h2⟩ := (nxt_some h).1 hx
  constructor
  · refine sorted_unique (due_sorted h t) ?_ fun y => ?_
    · rw [List.pairwise_cons]
      refine ⟨fun y hy => ?_, due_sorted (h.rem _) t⟩
      obtain ⟨h3, h4⟩ := mem_rem.1 (mem_due.1 hy).1
      exact h2 y h3 (fun e => h4 (by rw [e]))
    · rw [List.mem_cons, mem_due, mem_due, mem_rem]
      constructor
      · rintro ⟨h3, h4⟩
        by_cases e : y = x
        · exact .inl e
        · exact .inr ⟨⟨h3, fun e2 => e (h.same h3 h1 (by omega))⟩, h4⟩
      · rintro (rfl | ⟨⟨h3, _⟩, h4⟩)
        · exact ⟨h1, ht⟩
        · exact ⟨h3, h4⟩
  · unfold left rem
    rw [List.filter_filter]
    refine List.filter_congr fun y hy => ?_
    by_cases e : (y.1 : Int) = x.1
    · have := h.same hy h1 (by omega)
      subst this
      have : ¬ t < y.2.1 := by omega
      simp [this]
    · simp [e]
theorem due_none (h : Good last L) {t : Nat} (hx : ∀ x, nxt L = some x → t < x.2.1) : due L t = [] ∧ left L t = L := by
  have key : ∀ y ∈ L, t < y.2.1 := by
    intro y hy
    cases hq : nxt L with
    | none => rw [nxt_none.1 hq] at hy; simp at hy
    | some x =>
      have h1 := hx x hq
      obtain ⟨_, h3⟩ := (nxt_some h).1 hq
      by_cases e : y = x
      · rw [e]; exact h1
      · have := h3 y hy e
        unfold Lt at this
        omega
  constructor
  · rw [List.eq_nil_iff_forall_not_mem]
    intro y hy
    obtain ⟨h1, h2⟩ := mem_due.1 hy
    have := key y h1
    omega
  · exact List.filter_eq_self.2 fun y hy => by simpa using key y hy
theorem left_all (h : Good last L) {t : Nat} (ht : 9007199254740992 ≤ t) : left L t = [] := by
  rw [List.eq_nil_iff_forall_not_mem]
  intro y hy
  obtain ⟨h1, h2⟩ := mem_left.1 hy
  have := (h.fits y h1).2.2
  omega

/-- what lies with it, changed -/
def mapD (f : α → β) (d : Du α) : Du β := (d.1, d.2.1, f d.2.2)
def mapP (f : α → β) (L : LL α) : LL β := L.map (mapD f)
variable {f : α → β}
theorem mapP_length : (mapP f L).length = L.length := List.length_map _
theorem mapP_insU {x : Du α} {l : LL α} : insU (mapD f x) (mapP f l) = mapP f (insU x l) := by
  induction l with
  | nil => rfl
  | cons y l ih =>
    unfold mapP at *
    rw [List.map_cons]
    unfold insU
    by_cases h : Lt x y
    · have h2 : Lt (mapD f x) (mapD f y) := h
      rw [if_pos h, if_pos h2, List.map_cons, List.map_cons]
    · have h2 : ¬ Lt (mapD f x) (mapD f y) := h
      rw [if_neg h, if_neg h2, List.map_cons, ih]
theorem mapP_srt {l : LL α} : srt (mapP f l) = mapP f (srt l) := by
  induction l with
  | nil => rfl
  | cons x l ih =>
    show insU (mapD f x) (srt (mapP f l)) = mapP f (insU x (srt l))
    rw [ih, mapP_insU]
theorem mapP_filter {p : Du α → Bool} {q : Du β → Bool} (h : ∀ x, q (mapD f x) = p x) {l : LL α} : (mapP f l).filter q = mapP f (l.filter p) := by
  unfold mapP
  rw [List.filter_map]
  congr 1
  exact List.filter_congr fun x _ => h x
theorem mapP_rem {id : Int} : rem (mapP f L) id = mapP f (rem L id) := mapP_filter fun _ => rfl
theorem mapP_left {t : Nat} : left (mapP f L) t = mapP f (left L t) := mapP_filter fun _ => rfl
theorem mapP_due {t : Nat} : due (mapP f L) t = mapP f (due L t) := by
  unfold due
  rw [mapP_srt]
  exact mapP_filter fun _ => rfl
theorem mapP_nxt : nxt (mapP f L) = (nxt L).map (mapD f) := by
  unfold nxt
  rw [mapP_srt]
  unfold mapP
  rw [List.head?_map]
theorem mapP_getO {id : Int} : getO (mapP f L) id = (getO L id).map (mapD f) := by
  unfold getO mapP
  rw [List.find?_map]
  rfl
theorem mapP_add {till : Int} {x : α} : add (mapP f L) last till (f x) = mapP f (add L last till x) := by
  unfold add
  rw [mapP_length]
  split
  · rfl
  · unfold mapP
    rw [List.map_append]
    rfl
theorem mapP_addN : addN (mapP f L) last = addN L last := by unfold addN; rw [mapP_length]
theorem mapP_addI : addI (mapP f L) last = addI L last := by unfold addI; rw [mapP_length]
theorem mapP_addE : addE (mapP f L) = addE L := by unfold addE; rw [mapP_length]
theorem Good.mapP (h : Good last L) : Good last (mapP f L) := by
  refine ⟨?_, ?_, ?_⟩
  · unfold Ld.mapP
    rw [List.pairwise_map]
    exact h.rise
  · intro x hx
    obtain ⟨y, hy, rfl⟩ := List.mem_map.1 hx
    exact h.fits y hy
  · rw [mapP_length]; exact h.few
end Go.Proofs.Ytplinlgafgfepaa.Ld
