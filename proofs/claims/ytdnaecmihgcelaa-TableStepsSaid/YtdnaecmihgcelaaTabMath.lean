/-
  The table's plain mathematics: links (Ring), places (Seats), a place made free (Hole).
-/
import Derived.Test.YtdnaecmihgcelaaHashMath
namespace Go.Proofs.Ytdnaecmihgcelaa.Tb

def upd {α : Type} (f : Nat → α) (i : Nat) (v : α) : Nat → α := fun j => if j = i then v else f j
theorem upd_same {α : Type} (f : Nat → α) (i : Nat) (v : α) : upd f i v i = v := by simp [upd]
theorem upd_ne {α : Type} (f : Nat → α) {i j : Nat} (v : α) (h : j ≠ i) : upd f i v j = f j := by simp [upd, h]

/-! LINKS -/
def Ring (f g : Nat → Nat) (a : Nat) : List Nat → Nat → Prop
  | [], b => f a = b ∧ g b = a
  | x :: l, b => (f a = x ∧ g x = a) ∧ Ring f g x l b

theorem Ring.split {f g : Nat → Nat} {x : Nat} {l2 : List Nat} {b : Nat} : ∀ {l1 : List Nat} {a : Nat}, Ring f g a (l1 ++ x :: l2) b ↔ Ring f g a l1 x ∧ Ring f g x l2 b
  | [], a => by simp [Ring]
  | y :: l1, a => by
    have ih := Ring.split (f := f) (g := g) (x := x) (l2 := l2) (b := b) (l1 := l1) (a := y)
    simp only [List.cons_append, Ring, ih, and_assoc]

theorem Ring.last {f g : Nat → Nat} {b : Nat} : ∀ {l : List Nat} {a : Nat}, Ring f g a l b → f (g b) = b
  | [], a, h => by obtain ⟨h1, h2⟩ := h; rw [h2, h1]
  | _ :: _, _, h => h.2.last
theorem Ring.first {f g : Nat → Nat} {b : Nat} : ∀ {l : List Nat} {a : Nat}, Ring f g a l b → g (f a) = a
  | [], a, h => by obtain ⟨h1, h2⟩ := h; rw [h1, h2]
  | _ :: _, _, h => by obtain ⟨⟨h1, h2⟩, _⟩ := h; rw [h1, h2]
theorem Ring.mid {f g : Nat → Nat} {a b x : Nat} {l1 l2 : List Nat} (h : Ring f g a (l1 ++ x :: l2) b) : f (g x) = x ∧ g (f x) = x :=
  ⟨(Ring.split.1 h).1.last, (Ring.split.1 h).2.first⟩

theorem Ring.frame {f g f' g' : Nat → Nat} {b : Nat} : ∀ {l : List Nat} {a : Nat}, Ring f g a l b → (∀ x ∈ a :: l, f' x = f x) → (∀ x ∈ l ++ [b], g' x = g x) → Ring f' g' a l b
  | [], a, h, hf, hg => ⟨by rw [hf a (by simp)]; exact h.1, by rw [hg b (by simp)]; exact h.2⟩
  | y :: l, a, h, hf, hg => ⟨⟨by rw [hf a (by simp)]; exact h.1.1, by rw [hg y (by simp)]; exact h.1.2⟩,
      h.2.frame (fun x hx => hf x (List.mem_cons_of_mem _ hx)) (fun x hx => hg x (by simp only [List.cons_append]; exact List.mem_cons_of_mem _ hx))⟩

theorem Ring.leave {f g : Nat → Nat} {i b : Nat} {l2 : List Nat} : ∀ {l1 : List Nat} {a : Nat}, Ring f g a (l1 ++ i :: l2) b → (a :: (l1 ++ i :: l2)).Nodup → ((l1 ++ i :: l2) ++ [b]).Nodup →
    Ring (upd f (g i) (f i)) (upd g (f i) (g i)) a (l1 ++ l2) b
  | [], a, h, n1, n2 => by
    obtain ⟨⟨h1, h2⟩, h3⟩ := h
    rw [h2]
    cases l2 with
    | nil =>
      obtain ⟨h4, h5⟩ := h3
      rw [h4]
      exact ⟨upd_same _ _ _, upd_same _ _ _⟩
    | cons x l2 =>
      obtain ⟨⟨h4, h5⟩, h6⟩ := h3
      rw [h4]
      refine ⟨⟨upd_same _ _ _, upd_same _ _ _⟩, h6.frame (fun y hy => upd_ne _ _ ?_) (fun y hy => upd_ne _ _ ?_)⟩
      · rintro rfl
        simp only [List.nil_append, List.nodup_cons, List.mem_cons] at n1
        simp only [List.mem_cons] at hy
        exact n1.1 (.inr hy)
      · rintro rfl
        simp only [List.nil_append, List.cons_append, List.nodup_cons] at n2
        exact n2.2.1 hy
  | y :: l1, a, h, n1, n2 => by
    obtain ⟨⟨h1, h2⟩, h3⟩ := h
    have hm := Ring.mid h3
    have n1' : (y :: (l1 ++ i :: l2)).Nodup := (List.nodup_cons.1 n1).2
    have n2' : ((l1 ++ i :: l2) ++ [b]).Nodup := by
      simp only [List.cons_append, List.nodup_cons] at n2
      simpa only [List.append_assoc, List.cons_append] using n2.2
    have ih := Ring.leave h3 n1' n2'
    have hyi : y ≠ i := fun e => (List.nodup_cons.1 n1').1 (by rw [e]; simp)
    have hai : a ≠ i := fun e => (List.nodup_cons.1 n1).1 (by rw [e]; simp)
    refine ⟨⟨?_, ?_⟩, ih⟩
    · rw [upd_ne _ _ (fun e => ?_), h1]
      rw [← e, h1] at hm
      exact hyi hm.1
    · rw [upd_ne _ _ (fun e => ?_), h2]
      rw [← e, h2] at hm
      exact hai hm.2

theorem Ring.join {f g : Nat → Nat} {i b : Nat} : ∀ {l : List Nat} {a : Nat}, Ring f g a l b → i ∉ a :: l → i ≠ b → (l ++ [b]).Nodup →
    Ring (upd (upd f (g b) i) i b) (upd (upd g i (g b)) b i) a (l ++ [i]) b
  | [], a, h, n1, n2, _ => by
    obtain ⟨h1, h2⟩ := h
    have hai : a ≠ i := fun e => n1 (by simp [e])
    rw [h2]
    refine ⟨⟨?_, ?_⟩, ?_, ?_⟩
    · rw [upd_ne _ _ hai, upd_same]
    · rw [upd_ne _ _ n2, upd_same]
    · rw [upd_same]
    · rw [upd_same]
  | x :: l, a, h, n1, n2, n3 => by
    obtain ⟨⟨h1, h2⟩, h3⟩ := h
    have hai : a ≠ i := fun e => n1 (by simp [e])
    have hxi : x ≠ i := fun e => n1 (by simp [e])
    have hl := h3.last
    simp only [List.cons_append, List.nodup_cons, List.mem_append, List.mem_singleton, not_or] at n3
    refine ⟨⟨?_, ?_⟩, Ring.join h3 (fun hc => n1 (List.mem_cons_of_mem _ hc)) n2 n3.2⟩
    · rw [upd_ne _ _ hai, upd_ne _ _ (fun e => ?_), h1]
      rw [← e, h1] at hl
      exact n3.1.2 hl
    · rw [upd_ne _ _ n3.1.2, upd_ne _ _ hxi, h2]

theorem Ring.swap {f g : Nat → Nat} {m k b : Nat} {l2 : List Nat} : ∀ {l1 : List Nat} {a : Nat}, Ring f g a (l1 ++ m :: l2) b → (a :: (l1 ++ m :: l2)).Nodup → ((l1 ++ m :: l2) ++ [b]).Nodup → k ∉ a :: (l1 ++ m :: l2) → k ≠ b →
    Ring (upd (upd (upd f k (f m)) (g m) k) k (f m)) (upd (upd (upd g k (g m)) k (g m)) (f m) k) a (l1 ++ k :: l2) b
  | [], a, h, n1, n2, hk, hkb => by
    obtain ⟨⟨h1, h2⟩, h3⟩ := h
    have hka : a ≠ k := fun e => hk (by simp [e])
    rw [h2]
    cases l2 with
    | nil =>
      obtain ⟨h4, h5⟩ := h3
      rw [h4]
      refine ⟨⟨?_, ?_⟩, ?_, ?_⟩
      · rw [upd_ne _ _ hka, upd_same]
      · rw [upd_ne _ _ hkb, upd_same]
      · rw [upd_same]
      · rw [upd_same]
    | cons x l2 =>
      obtain ⟨⟨h4, h5⟩, h6⟩ := h3
      have hkx : k ≠ x := fun e => hk (by simp [e])
      rw [h4]
      refine ⟨⟨?_, ?_⟩, ⟨?_, ?_⟩, h6.frame (fun y hy => ?_) (fun y hy => ?_)⟩
      · rw [upd_ne _ _ hka, upd_same]
      · rw [upd_ne _ _ hkx, upd_same]
      · rw [upd_same]
      · rw [upd_same]
      · have e1 : y ≠ k := by
          rintro rfl
          exact hk (by simp only [List.nil_append, List.mem_cons] at hy ⊢; exact .inr (.inr hy))
        have e2 : y ≠ a := by
          rintro rfl
          simp only [List.nil_append, List.nodup_cons, List.mem_cons] at n1
          simp only [List.mem_cons] at hy
          exact n1.1 (.inr hy)
        rw [upd_ne _ _ e1, upd_ne _ _ e2, upd_ne _ _ e1]
      · have e1 : y ≠ k := by
          rintro rfl
          simp only [List.mem_append, List.mem_singleton] at hy
          exact hy.elim (fun hy => hk (by simp [hy])) hkb
        have e2 : y ≠ x := by
          rintro rfl
          simp only [List.nil_append, List.cons_append, List.nodup_cons] at n2
          exact n2.2.1 hy
        rw [upd_ne _ _ e2, upd_ne _ _ e1, upd_ne _ _ e1]
  | y :: l1, a, h, n1, n2, hk, hkb => by
    obtain ⟨⟨h1, h2⟩, h3⟩ := h
    have hm := Ring.mid h3
    have n1' : (y :: (l1 ++ m :: l2)).Nodup := (List.nodup_cons.1 n1).2
    have n2' : ((l1 ++ m :: l2) ++ [b]).Nodup := by
      simp only [List.cons_append, List.nodup_cons] at n2
      simpa only [List.append_assoc, List.cons_append] using n2.2
    have ih := Ring.swap h3 n1' n2' (fun hc => hk (List.mem_cons_of_mem _ hc)) hkb
    have hym : y ≠ m := fun e => (List.nodup_cons.1 n1').1 (by rw [e]; simp)
    have ham : a ≠ m := fun e => (List.nodup_cons.1 n1).1 (by rw [e]; simp)
    have hka : a ≠ k := fun e => hk (by simp [e])
    have hky : y ≠ k := fun e => hk (by simp [e])
    refine ⟨⟨?_, ?_⟩, ih⟩
    · rw [upd_ne _ _ hka, upd_ne _ _ (fun e => ?_), upd_ne _ _ hka, h1]
      rw [← e, h1] at hm
      exact hym hm.1
    · rw [upd_ne _ _ (fun e => ?_), upd_ne _ _ hky, upd_ne _ _ hky, h2]
      rw [← e, h2] at hm
      exact ham hm.2

/-! PLACES IN A CIRCLE -/
def go (M h d : Nat) : Nat := if h + d < M then h + d else h + d - M
def dist (M h p : Nat) : Nat := if h ≤ p then p - h else p + M - h
theorem go_or (M h d : Nat) : (h + d < M ∧ go M h d = h + d) ∨ (M ≤ h + d ∧ go M h d = h + d - M) := by
  unfold go
  by_cases h1 : h + d < M
  · rw [if_pos h1]; exact .inl ⟨h1, rfl⟩
  · rw [if_neg h1]; exact .inr ⟨by omega, rfl⟩
theorem dist_or (M h p : Nat) : (h ≤ p ∧ dist M h p = p - h) ∨ (p < h ∧ dist M h p = p + M - h) := by
  unfold dist
  by_cases h1 : h ≤ p
  · rw [if_pos h1]; exact .inl ⟨h1, rfl⟩
  · rw [if_neg h1]; exact .inr ⟨by omega, rfl⟩
theorem go_lt {M h d : Nat} (hh : h < M) (hd : d ≤ M) : go M h d < M := by have := go_or M h d; omega
theorem dist_lt {M h p : Nat} (hh : h < M) (hp : p < M) : dist M h p < M := by have := dist_or M h p; omega
theorem go_zero {M h : Nat} (hh : h < M) : go M h 0 = h := by have := go_or M h 0; omega
theorem go_dist {M h p : Nat} (hh : h < M) (hp : p < M) : go M h (dist M h p) = p := by have := go_or M h (dist M h p); have := dist_or M h p; omega
theorem dist_go {M h d : Nat} (hh : h < M) (hd : d < M) : dist M h (go M h d) = d := by have := dist_or M h (go M h d); have := go_or M h d; omega
theorem go_go {M h d e : Nat} (_hh : h < M) (hd : d + e < M) : go M (go M h d) e = go M h (d + e) := by
  have := go_or M (go M h d) e; have := go_or M h d; have := go_or M h (d + e); omega
theorem go_inj {M h d e : Nat} (_hh : h < M) (hd : d < M) (he : e < M) (h1 : go M h d = go M h e) : d = e := by
  have := go_or M h d; have := go_or M h e; omega
theorem dist_split {M h p d : Nat} (hh : h < M) (hp : p < M) (hd : d ≤ dist M h p) : dist M (go M h d) p = dist M h p - d := by
  have := dist_or M (go M h d) p; have := dist_or M h p; have := go_or M h d; omega
theorem dist_self (M p : Nat) : dist M p p = 0 := by have := dist_or M p p; omega
theorem dist_one {M p : Nat} (hp : p < M) (hM : 2 ≤ M) : dist M p (go M p 1) = 1 := dist_go hp (by omega)
theorem dist_pos {M h p : Nat} (hh : h < M) (_hp : p < M) (hne : h ≠ p) : 0 < dist M h p := by have := dist_or M h p; omega
theorem dist_next {M f q : Nat} (hf : f < M) (hq : q < M) (hne : f ≠ q) : dist M (go M f 1) q = dist M f q - 1 := dist_split hf hq (dist_pos hf hq hne)
theorem dist_succ {M h f : Nat} (hh : h < M) (hf : f < M) (hd : dist M h f + 1 < M) : dist M h (go M f 1) = dist M h f + 1 := by
  have := dist_or M h f; have := dist_or M h (go M f 1); have := go_or M f 1; omega
theorem dist_back {M h hole f : Nat} (hh : h < M) (ho : hole < M) (hf : f < M) (hd : dist M hole f ≤ dist M h f) : go M h (dist M h f - dist M hole f) = hole := by
  have := dist_or M hole f; have := dist_or M h f; have := go_or M h (dist M h f - dist M hole f); omega

structure Seats (M : Nat) (hm P : Nat → Nat) (occ : Nat → Prop) : Prop where
  home : ∀ i, occ i → hm i < M
  pos : ∀ i, occ i → i ≠ 0
  mem : ∀ p, p < M → P p ≠ 0 → occ (P p)
  has : ∀ i, occ i → ∃ p, p < M ∧ P p = i
  one : ∀ p q, p < M → q < M → P p = P q → P p ≠ 0 → p = q
  way : ∀ p, p < M → P p ≠ 0 → ∀ d, d < dist M (hm (P p)) p → P (go M (hm (P p)) d) ≠ 0

theorem pigeon : ∀ (n M : Nat) (f : Nat → Nat), (∀ p, p < M → f p ≠ 0 ∧ f p ≤ n) → (∀ p q, p < M → q < M → f p = f q → p = q) → M ≤ n
  | 0, M, f, h, _ => by
    rcases Nat.eq_zero_or_pos M with h0 | h0
    · omega
    · have := h 0 h0; omega
  | n + 1, 0, f, _, _ => by omega
  | n + 1, M + 1, f, h, hi => by
    by_cases hx : ∃ p, p < M + 1 ∧ f p = n + 1
    · obtain ⟨p0, hp0, he⟩ := hx
      have := pigeon n M (fun p => if p = p0 then f M else f p) (fun p hp => by
        show (if p = p0 then f M else f p) ≠ 0 ∧ (if p = p0 then f M else f p) ≤ n
        split
        · rename_i e
          have h1 := h M (by omega)
          have : f M ≠ n + 1 := fun e2 => by have := hi M p0 (by omega) hp0 (by omega); omega
          omega
        · rename_i e
          have h1 := h p (by omega)
          have : f p ≠ n + 1 := fun e2 => e (hi p p0 (by omega) hp0 (by omega))
          omega) (fun p q hp hq he2 => by
        replace he2 : (if p = p0 then f M else f p) = (if q = p0 then f M else f q) := he2
        split at he2 <;> split at he2
        · omega
        · have := hi M q (by omega) (by omega) he2; omega
        · have := hi p M (by omega) (by omega) he2; omega
        · exact hi p q (by omega) (by omega) he2)
      omega
    · have := pigeon n (M + 1) f (fun p hp => ⟨(h p hp).1, by
        have h1 := (h p hp).2
        have : f p ≠ n + 1 := fun e => hx ⟨p, hp, e⟩
        omega⟩) hi
      omega

theorem Seats.free {M n : Nat} {hm P : Nat → Nat} {occ : Nat → Prop} (h : Seats M hm P occ) (ho : ∀ i, occ i → i ≤ n) (hn : n < M) : ∃ q, q < M ∧ P q = 0 := by
  refine Classical.byContradiction fun hc => ?_
  have hz : ∀ p, p < M → P p ≠ 0 := fun p hp e => hc ⟨p, hp, e⟩
  have := pigeon n M P (fun p hp => ⟨hz p hp, ho _ (h.mem p hp (hz p hp))⟩) (fun p q hp hq e => h.one p q hp hq e (hz p hp))
  omega

def Found (M : Nat) (P : Nat → Nat) (Mt : Nat → Prop) (h p : Nat) : Prop :=
  ∃ d, d < M ∧ p = go M h d ∧ (P p = 0 ∨ Mt (P p)) ∧ ∀ e, e < d → P (go M h e) ≠ 0 ∧ ¬ Mt (P (go M h e))

theorem Found.lt {M : Nat} {P : Nat → Nat} {Mt : Nat → Prop} {h p : Nat} (hf : Found M P Mt h p) (hh : h < M) : p < M := by
  obtain ⟨d, hd, rfl, _⟩ := hf
  exact go_lt hh (by omega)

theorem Found.exists_ {M : Nat} (P : Nat → Nat) (Mt : Nat → Prop) {h q : Nat} (hh : h < M) (hq : q < M) (hz : P q = 0) : ∃ p, Found M P Mt h p := by
  have key : ∀ g d, d + g = dist M h q → (∀ e, e < d → P (go M h e) ≠ 0 ∧ ¬ Mt (P (go M h e))) → ∃ p, Found M P Mt h p := by
    intro g
    induction g with
    | zero =>
      intro d hd hb
      have hl := dist_lt hh hq
      have e1 : d = dist M h q := by omega
      refine ⟨_, d, by omega, rfl, .inl ?_, hb⟩
      rw [e1, go_dist hh hq]
      exact hz
    | succ g ih =>
      intro d hd hb
      have hl := dist_lt hh hq
      by_cases h1 : P (go M h d) = 0 ∨ Mt (P (go M h d))
      · exact ⟨_, d, by omega, rfl, h1, hb⟩
      · refine ih (d + 1) (by omega) (fun e he => ?_)
        by_cases h2 : e = d
        · rw [h2]; exact ⟨fun h => h1 (.inl h), fun h => h1 (.inr h)⟩
        · exact hb e (by omega)
  exact key (dist M h q) 0 (Nat.zero_add _) (fun e he => absurd he (Nat.not_lt_zero e))
theorem Found.unique {M : Nat} {P : Nat → Nat} {Mt : Nat → Prop} {h p r : Nat} (h1 : Found M P Mt h p) (h2 : Found M P Mt h r) : p = r := by
  obtain ⟨d, hd, rfl, ho, hb⟩ := h1
  obtain ⟨e, he, rfl, ho2, hb2⟩ := h2
  have : d = e := by
    rcases Nat.lt_trichotomy d e with h3 | h3 | h3
    · have := hb2 d h3
      exact absurd ho (fun h => h.elim this.1 this.2)
    · exact h3
    · have := hb e h3
      exact absurd ho2 (fun h => h.elim this.1 this.2)
  rw [this]

theorem Seats.hit {M : Nat} {hm P : Nat → Nat} {occ : Nat → Prop} (s : Seats M hm P occ) {Mt : Nat → Prop} {i p : Nat} (hi : occ i) (hM : Mt i) (ho : ∀ j, occ j → Mt j → j = i) (hf : Found M P Mt (hm i) p) : P p = i := by
  obtain ⟨p0, hp0, rfl⟩ := s.has i hi
  have hh := s.home _ hi
  have hnz := s.pos _ hi
  obtain ⟨d, hd, rfl, hor, hbef⟩ := hf
  have hgd := go_dist hh hp0
  have hp : go M (hm (P p0)) d < M := go_lt hh (by omega)
  by_cases h1 : dist M (hm (P p0)) p0 < d
  · have := (hbef _ h1).2
    rw [hgd] at this
    exact absurd hM this
  · by_cases h2 : d = dist M (hm (P p0)) p0
    · rw [h2, hgd]
    · have hz := s.way p0 hp0 hnz d (by omega)
      exact ho _ (s.mem _ hp hz) (hor.resolve_left hz)

theorem Seats.miss {M : Nat} {hm P : Nat → Nat} {occ : Nat → Prop} (s : Seats M hm P occ) {Mt : Nat → Prop} {h p : Nat} (hh : h < M) (ho : ∀ j, occ j → ¬ Mt j) (hf : Found M P Mt h p) : P p = 0 := by
  have hp := hf.lt hh
  obtain ⟨d, hd, rfl, hor, hbef⟩ := hf
  refine Classical.byContradiction fun hz => ?_
  exact ho _ (s.mem _ hp hz) (hor.resolve_left hz)

theorem Seats.seat {M : Nat} {hm P : Nat → Nat} {occ : Nat → Prop} (s : Seats M hm P occ) {Mt : Nat → Prop} {i p : Nat} (hi : ¬ occ i) (hz : i ≠ 0) (hh : hm i < M) (hf : Found M P Mt (hm i) p) (hp0 : P p = 0) :
    Seats M hm (upd P p i) (fun j => occ j ∨ j = i) := by
  have hp := hf.lt hh
  obtain ⟨d, hd, e, hor, hbef⟩ := hf
  have hni : ∀ q, q < M → P q ≠ 0 → P q ≠ i := fun q hq h0 h1 => hi (h1 ▸ s.mem q hq h0)
  refine ⟨?_, ?_, ?_, ?_, ?_, ?_⟩
  · rintro j (hj | rfl)
    · exact s.home j hj
    · exact hh
  · rintro j (hj | rfl)
    · exact s.pos j hj
    · exact hz
  · intro q hq h0
    by_cases hqp : q = p
    · right; rw [hqp, upd_same]
    · left; rw [upd_ne _ _ hqp] at h0 ⊢; exact s.mem q hq h0
  · rintro j (hj | rfl)
    · obtain ⟨q, hq, rfl⟩ := s.has j hj
      have hqp : q ≠ p := fun e => s.pos _ hj (by rw [e]; exact hp0)
      exact ⟨q, hq, upd_ne _ _ hqp⟩
    · exact ⟨p, hp, upd_same _ _ _⟩
  · intro q r hq hr he h0
    by_cases hqp : q = p <;> by_cases hrp : r = p
    · rw [hqp, hrp]
    · subst hqp
      rw [upd_same, upd_ne _ _ hrp] at he
      exact absurd he.symm (hni r hr (by rw [← he]; exact hz))
    · subst hrp
      rw [upd_same, upd_ne _ _ hqp] at he
      exact absurd he (hni q hq (by rw [he]; exact hz))
    · rw [upd_ne _ _ hqp, upd_ne _ _ hrp] at he
      rw [upd_ne _ _ hqp] at h0
      exact s.one q r hq hr he h0
  · intro q hq h0 k hk
    have up : ∀ x, P x ≠ 0 → upd P p i x ≠ 0 := fun x hx => by
      by_cases hxp : x = p
      · rw [hxp, upd_same]; exact hz
      · rw [upd_ne _ _ hxp]; exact hx
    by_cases hqp : q = p
    · rw [hqp, upd_same] at hk ⊢
      have hd2 : dist M (hm i) p = d := by rw [e, dist_go hh hd]
      exact up _ (hbef k (by omega)).1
    · rw [upd_ne _ _ hqp] at h0 hk ⊢
      exact up _ (s.way q hq h0 k hk)

theorem Seats.relabel {M : Nat} {hm hm' P : Nat → Nat} {occ : Nat → Prop} (s : Seats M hm P occ) {m k p : Nat} (hp : p < M) (hPm : P p = m) (hm0 : occ m) (hk : ¬ occ k) (hz : k ≠ 0) (e1 : hm' k = hm m) (e2 : ∀ j, occ j → hm' j = hm j) :
    Seats M hm' (upd P p k) (fun j => (occ j ∧ j ≠ m) ∨ j = k) := by
  have hnk : ∀ q, q < M → P q ≠ 0 → P q ≠ k := fun q hq h0 h1 => hk (h1 ▸ s.mem q hq h0)
  have hmz := s.pos _ hm0
  have up : ∀ x, P x ≠ 0 → upd P p k x ≠ 0 := fun x hx => by
    by_cases hxp : x = p
    · rw [hxp, upd_same]; exact hz
    · rw [upd_ne _ _ hxp]; exact hx
  refine ⟨?_, ?_, ?_, ?_, ?_, ?_⟩
  · rintro j (⟨hj, _⟩ | rfl)
    · rw [e2 j hj]; exact s.home j hj
    · rw [e1]; exact s.home m hm0
  · rintro j (⟨hj, _⟩ | rfl)
    · exact s.pos j hj
    · exact hz
  · intro q hq h0
    by_cases hqp : q = p
    · right; rw [hqp, upd_same]
    · left; rw [upd_ne _ _ hqp] at h0 ⊢
      exact ⟨s.mem q hq h0, fun e => hqp (s.one q p hq hp (by rw [hPm, e]) h0)⟩
  · rintro j (⟨hj, hne⟩ | rfl)
    · obtain ⟨q, hq, rfl⟩ := s.has j hj
      have hqp : q ≠ p := fun e => hne (by rw [e]; exact hPm)
      exact ⟨q, hq, upd_ne _ _ hqp⟩
    · exact ⟨p, hp, upd_same _ _ _⟩
  · intro q r hq hr he h0
    by_cases hqp : q = p <;> by_cases hrp : r = p
    · rw [hqp, hrp]
    · subst hqp
      rw [upd_same, upd_ne _ _ hrp] at he
      exact absurd he.symm (hnk r hr (by rw [← he]; exact hz))
    · subst hrp
      rw [upd_same, upd_ne _ _ hqp] at he
      exact absurd he (hnk q hq (by rw [he]; exact hz))
    · rw [upd_ne _ _ hqp, upd_ne _ _ hrp] at he
      rw [upd_ne _ _ hqp] at h0
      exact s.one q r hq hr he h0
  · intro q hq h0 x hx
    by_cases hqp : q = p
    · rw [hqp, upd_same, e1, ← hPm] at hx ⊢
      exact up _ (s.way p hp (by rw [hPm]; exact hmz) x hx)
    · rw [upd_ne _ _ hqp] at h0 hx ⊢
      rw [e2 _ (s.mem q hq h0)] at hx ⊢
      exact up _ (s.way q hq h0 x hx)

structure Hole (M : Nat) (hm P : Nat → Nat) (occ : Nat → Prop) (i hole f q : Nat) : Prop where
  two : 2 ≤ M
  lt : hole < M
  flt : f < M
  ne : f ≠ hole
  qlt : q < M
  qz : P q = 0
  qne : q ≠ hole
  home : ∀ j, occ j → hm j < M
  pos : ∀ j, occ j → j ≠ 0
  mem : ∀ p, p < M → upd P hole 0 p ≠ 0 → occ (upd P hole 0 p) ∧ upd P hole 0 p ≠ i
  has : ∀ j, occ j → j ≠ i → ∃ p, p < M ∧ upd P hole 0 p = j
  one : ∀ p q, p < M → q < M → upd P hole 0 p = upd P hole 0 q → upd P hole 0 p ≠ 0 → p = q
  way : ∀ p, p < M → upd P hole 0 p ≠ 0 → ∀ d, d < dist M (hm (upd P hole 0 p)) p → upd P hole 0 (go M (hm (upd P hole 0 p)) d) ≠ 0 ∨ go M (hm (upd P hole 0 p)) d = hole
  done : ∀ p, p < M → upd P hole 0 p ≠ 0 → dist M hole p < dist M hole f → ∀ d, d < dist M (hm (upd P hole 0 p)) p → go M (hm (upd P hole 0 p)) d ≠ hole
  full : ∀ e, 0 < e → e < dist M hole f → upd P hole 0 (go M hole e) ≠ 0

theorem Seats.hole {M n : Nat} {hm P : Nat → Nat} {occ : Nat → Prop} (s : Seats M hm P occ) (ho : ∀ i, occ i → i ≤ n) (hn : n < M) (h2 : 2 ≤ M) {i p : Nat} (hp : p < M) (hPi : P p = i) (hi : occ i) : ∃ q, Hole M hm P occ i p (go M p 1) q := by
  obtain ⟨q, hq, hqz⟩ := s.free ho hn
  have hiz := s.pos i hi
  have hd1 := dist_one hp h2
  have hx : ∀ x, upd P p 0 x ≠ 0 → x ≠ p ∧ upd P p 0 x = P x := fun x hx => by
    by_cases e : x = p
    · rw [e, upd_same] at hx; exact absurd rfl hx
    · exact ⟨e, upd_ne _ _ e⟩
  refine ⟨q, h2, hp, go_lt hp (by omega), fun e => ?_, hq, hqz, fun e => ?_, s.home, s.pos, ?_, ?_, ?_, ?_, ?_, ?_⟩
  · rw [e, dist_self] at hd1; omega
  · rw [e, hPi] at hqz; exact hiz hqz
  · intro x hxl h0
    obtain ⟨h1, h3⟩ := hx x h0
    rw [h3] at h0 ⊢
    exact ⟨s.mem x hxl h0, fun e => h1 (s.one x p hxl hp (by rw [hPi, e]) h0)⟩
  · intro j hj hne
    obtain ⟨x, hxl, rfl⟩ := s.has j hj
    exact ⟨x, hxl, upd_ne _ _ (fun e => hne (by rw [e]; exact hPi))⟩
  · intro x y hxl hyl he h0
    obtain ⟨h1, h3⟩ := hx x h0
    obtain ⟨h4, h5⟩ := hx y (by rw [← he]; exact h0)
    rw [h3] at h0
    rw [h3, h5] at he
    exact s.one x y hxl hyl he h0
  · intro x hxl h0 d hd
    obtain ⟨h1, h3⟩ := hx x h0
    rw [h3] at h0 hd ⊢
    have := s.way x hxl h0 d hd
    by_cases e : go M (hm (P x)) d = p
    · exact .inr e
    · left; rw [upd_ne _ _ e]; exact this
  · intro x hxl h0 hlt
    rw [hd1] at hlt
    have hz : dist M p x = 0 := by omega
    have hg := go_dist hp hxl
    rw [hz, go_zero hp] at hg
    exact absurd hg.symm (hx x h0).1
  · intro e h0 h1
    rw [hd1] at h1
    omega

theorem Hole.exit {M : Nat} {hm P : Nat → Nat} {occ : Nat → Prop} {i hole f q : Nat} (h : Hole M hm P occ i hole f q) (hf : P f = 0) : Seats M hm (upd P hole 0) (fun j => occ j ∧ j ≠ i) := by
  have hf' : upd P hole 0 f = 0 := by rw [upd_ne _ _ h.ne]; exact hf
  refine ⟨fun j hj => h.home j hj.1, fun j hj => h.pos j hj.1, h.mem, fun j hj => h.has j hj.1 hj.2, h.one, ?_⟩
  intro p hp h0 d hd
  rcases h.way p hp h0 d hd with h1 | h1
  · exact h1
  · have hh := h.home _ (h.mem p hp h0).1
    have hds := dist_split hh hp (Nat.le_of_lt hd)
    rw [h1] at hds
    have hj : ¬ dist M hole p < dist M hole f := fun hlt => h.done p hp h0 hlt d hd h1
    have hDl := dist_lt hh hp
    have hg : go M hole (dist M hole f) = f := go_dist h.lt h.flt
    by_cases hlt : d + dist M hole f < dist M (hm (upd P hole 0 p)) p
    · rcases h.way p hp h0 _ hlt with h2 | h2
      · rw [← go_go hh (by omega), h1, hg] at h2
        exact absurd hf' h2
      · rw [← go_go hh (by omega), h1, hg] at h2
        exact absurd h2 h.ne
    · have he : dist M hole f = dist M hole p := by omega
      rw [he, go_dist h.lt hp] at hg
      rw [hg] at h0
      exact absurd hf' h0

theorem Hole.stay {M : Nat} {hm P : Nat → Nat} {occ : Nat → Prop} {i hole f q : Nat} (h : Hole M hm P occ i hole f q) (hf : P f ≠ 0) (hlt : dist M (hm (P f)) f < dist M hole f) : Hole M hm P occ i hole (go M f 1) q := by
  have hf' : upd P hole 0 f = P f := upd_ne _ _ h.ne
  have hg : go M hole (dist M hole f) = f := go_dist h.lt h.flt
  have hq' : upd P hole 0 q = 0 := by rw [upd_ne _ _ h.qne]; exact h.qz
  have hgq : go M hole (dist M hole q) = q := go_dist h.lt h.qlt
  have hql := dist_lt h.lt h.qlt
  have hq0 := dist_pos h.lt h.qlt (Ne.symm h.qne)
  have hne : dist M hole f ≠ dist M hole q := fun e => by
    rw [e, hgq] at hg
    exact hf (hg ▸ h.qz)
  have hlt2 : dist M hole f < dist M hole q := by
    refine Nat.lt_of_le_of_ne (Nat.le_of_not_lt fun hc => ?_) hne
    have := h.full _ hq0 hc
    rw [hgq] at this
    exact this hq'
  have hs := dist_succ h.lt h.flt (by omega)
  refine ⟨h.two, h.lt, go_lt h.flt (by have := h.two; omega), fun e => ?_, h.qlt, h.qz, h.qne, h.home, h.pos, h.mem, h.has, h.one, h.way, ?_, ?_⟩
  · rw [e, dist_self] at hs; omega
  · intro p hp h0 hl d hd hc
    rw [hs] at hl
    by_cases hl2 : dist M hole p < dist M hole f
    · exact h.done p hp h0 hl2 d hd hc
    · have he : dist M hole p = dist M hole f := by omega
      rw [← he, go_dist h.lt hp] at hg
      subst hg
      rw [hf'] at hd hc
      have hh := h.home _ (h.mem p hp h0).1
      rw [hf'] at hh
      have := dist_split hh hp (Nat.le_of_lt hd)
      rw [hc] at this
      omega
  · intro e h0 hl
    rw [hs] at hl
    by_cases hl2 : e < dist M hole f
    · exact h.full e h0 hl2
    · have : e = dist M hole f := by omega
      rw [this, hg, hf']
      exact hf

theorem Hole.move {M : Nat} {hm P : Nat → Nat} {occ : Nat → Prop} {i hole f q : Nat} (h : Hole M hm P occ i hole f q) (hf : P f ≠ 0) (hge : dist M hole f ≤ dist M (hm (P f)) f) : Hole M hm (upd P hole (P f)) occ i f (go M f 1) q := by
  have hf' : upd P hole 0 f = P f := upd_ne _ _ h.ne
  have hd1 := dist_one h.flt h.two
  have hfq : q ≠ f := fun e => hf (e ▸ h.qz)
  have hh : hm (P f) < M := by have := h.home _ (h.mem f h.flt (by rw [hf']; exact hf)).1; rw [hf'] at this; exact this
  have hback := dist_back hh h.lt h.flt hge
  -- the content now
  have c1 : ∀ x, x ≠ f → x ≠ hole → upd (upd P hole (P f)) f 0 x = upd P hole 0 x := fun x h1 h2 => by rw [upd_ne _ _ h1, upd_ne _ _ h2, upd_ne _ _ h2]
  have c2 : upd (upd P hole (P f)) f 0 hole = P f := by rw [upd_ne _ _ (Ne.symm h.ne), upd_same]
  have c3 : upd (upd P hole (P f)) f 0 f = 0 := upd_same _ _ _
  have c4 : ∀ x, upd P hole 0 x ≠ 0 → upd (upd P hole (P f)) f 0 x ≠ 0 ∨ x = f := fun x hx => by
    by_cases e : x = f
    · exact .inr e
    · have e2 : x ≠ hole := fun e2 => by rw [e2, upd_same] at hx; exact hx rfl
      left; rw [c1 x e e2]; exact hx
  refine ⟨h.two, h.flt, go_lt h.flt (by have := h.two; omega), fun e => ?_, h.qlt, ?_, hfq, h.home, h.pos, ?_, ?_, ?_, ?_, ?_, ?_⟩
  · rw [e, dist_self] at hd1; omega
  · rw [upd_ne _ _ h.qne]; exact h.qz
  · intro p hp h0
    by_cases e : p = hole
    · rw [e, c2]
      have := h.mem f h.flt (by rw [hf']; exact hf)
      rw [hf'] at this
      exact this
    · have e2 : p ≠ f := fun e2 => by rw [e2, c3] at h0; exact h0 rfl
      rw [c1 p e2 e] at h0 ⊢
      exact h.mem p hp h0
  · intro j hj hne
    obtain ⟨p, hp, rfl⟩ := h.has j hj hne
    by_cases e : p = f
    · exact ⟨hole, h.lt, by rw [c2, e, hf']⟩
    · have e2 : p ≠ hole := fun e2 => h.pos _ hj (by rw [e2, upd_same])
      exact ⟨p, hp, c1 p e e2⟩
  · intro p r hp hr he h0
    have key : ∀ x, x < M → upd (upd P hole (P f)) f 0 x ≠ 0 → ∃ y, y < M ∧ upd P hole 0 y = upd (upd P hole (P f)) f 0 x ∧ (y = f ∧ x = hole ∨ y = x ∧ x ≠ f ∧ x ≠ hole) := fun x hx hx0 => by
      by_cases e : x = hole
      · exact ⟨f, h.flt, by rw [e, c2, hf'], .inl ⟨rfl, e⟩⟩
      · have e2 : x ≠ f := fun e2 => by rw [e2, c3] at hx0; exact hx0 rfl
        exact ⟨x, hx, (c1 x e2 e).symm, .inr ⟨rfl, e2, e⟩⟩
    obtain ⟨y, hy, hy1, hy2⟩ := key p hp h0
    obtain ⟨z, hz, hz1, hz2⟩ := key r hr (by rw [← he]; exact h0)
    have := h.one y z hy hz (by rw [hy1, hz1, he]) (by rw [hy1]; exact h0)
    subst this
    rcases hy2 with ⟨a, b⟩ | ⟨a, b, c⟩ <;> rcases hz2 with ⟨a', b'⟩ | ⟨a', b', c'⟩
    · rw [b, b']
    · exact absurd (a'.symm.trans a) b'
    · exact absurd (a.symm.trans a') b
    · rw [← a, ← a']
  · intro p hp h0 d hd
    by_cases e : p = hole
    · rw [e, c2] at hd ⊢
      have hD : dist M (hm (P f)) hole = dist M (hm (P f)) f - dist M hole f := by
        have := dist_go hh (d := dist M (hm (P f)) f - dist M hole f) (by have := dist_lt hh h.flt; omega)
        rw [hback] at this
        exact this
      have hlt := dist_lt hh h.flt
      have hw := h.way f h.flt (by rw [hf']; exact hf) d (by rw [hf']; omega)
      rw [hf'] at hw
      rcases hw with hw | hw
      · exact c4 _ hw
      · have := go_inj hh (d := d) (e := dist M (hm (P f)) f - dist M hole f) (by omega) (by omega) (by rw [hw, hback])
        omega
    · have e2 : p ≠ f := fun e2 => by rw [e2, c3] at h0; exact h0 rfl
      rw [c1 p e2 e] at h0 hd ⊢
      rcases h.way p hp h0 d hd with hw | hw
      · exact c4 _ hw
      · left; rw [hw, c2]; exact hf
  · intro p hp h0 hlt
    rw [hd1] at hlt
    have hz : dist M f p = 0 := by omega
    have hg := go_dist h.flt hp
    rw [hz, go_zero h.flt] at hg
    rw [← hg, c3] at h0
    exact absurd rfl h0
  · intro e h0 h1
    rw [hd1] at h1
    omega

theorem Hole.less {M : Nat} {hm P : Nat → Nat} {occ : Nat → Prop} {i hole f q : Nat} (h : Hole M hm P occ i hole f q) (hf : P f ≠ 0) : dist M (go M f 1) q < dist M f q := by
  have hne : f ≠ q := fun e => hf (e ▸ h.qz)
  have := dist_next h.flt h.qlt hne
  have := dist_pos h.flt h.qlt hne
  omega

end Go.Proofs.Ytdnaecmihgcelaa.Tb
