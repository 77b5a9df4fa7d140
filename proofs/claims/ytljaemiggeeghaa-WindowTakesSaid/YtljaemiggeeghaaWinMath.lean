/-
  Plain mathematics of acts: what is right stays right; what is not gone stays; what is logged in two is logged at once.
-/
import Derived.Test.YtljaemiggeeghaaWinKnown
namespace Go.Proofs.Ytljaemiggeeghaa
open Go.RowKit
namespace Wn

/-- none of the entries is gone at the state's own time -/
def Fr (p : Pol) (s : St) : Prop := ∀ e ∈ s.log, s.tm - e.1 < p.period

theorem rem_all {per tm : Int} {l : List (Int × Int)} (h : ∀ e ∈ l, tm - e.1 < per) : rem per tm l = l := by
  cases l with
  | nil => rfl
  | cons e l =>
    unfold rem
    rw [List.dropWhile_cons]
    have := h e (List.mem_cons_self ..)
    simp [this]
theorem rem_mem {per tm : Int} {l : List (Int × Int)} (hs : l.Pairwise fun a b => a.1 ≤ b.1) : ∀ e ∈ rem per tm l, tm - e.1 < per := by
  induction l with
  | nil => intro e he; simp [rem] at he
  | cons x l ih =>
    rw [List.pairwise_cons] at hs
    intro e he
    unfold rem at he
    rw [List.dropWhile_cons] at he
    by_cases hx : tm - x.1 < per
    · simp only [hx, decide_true, Bool.not_true, Bool.false_eq_true, if_false] at he
      rcases List.mem_cons.1 he with rfl | he
      · exact hx
      · have := hs.1 e he; omega
    · simp only [hx, decide_false, Bool.not_false, if_true] at he
      exact ih hs.2 e he

theorem adv_eq {p : Pol} {s : St} (h : Ok p s) (now : Int) : adv p s now = adv0 p s now := by unfold adv; rw [if_pos (ok_right h)]
theorem adv_fr {p : Pol} {s : St} (h : Ok p s) (now : Int) : Fr p (adv p s now) := by
  rw [adv_eq h]; exact rem_mem h.sorted
theorem adv_same {p : Pol} {s : St} (h : Ok p s) (hf : Fr p s) {now : Int} (hn : clamp now ≤ s.tm) : adv p s now = s := by
  have ht : advTm s now = s.tm := by unfold advTm; omega
  rw [adv_eq h, adv0, ht, rem_all hf]
  have := h.level
  cases s; simp_all
theorem clamp_id {t : Int} (h : 0 ≤ t) (h2 : t ≤ 9007199254740992) : clamp t = t := clamp_in (by omega) (by omega)
theorem adv_self {p : Pol} {s : St} (h : Ok p s) (hf : Fr p s) : adv p s s.tm = s := adv_same h hf (by rw [clamp_id h.tm0 h.tm1]; omega)

theorem put_cases (p : Pol) (tm : Int) (l : List (Int × Int)) (c : Int) : (∃ k e, l = k ++ [e] ∧ (e.1 = tm ∨ (l.length : Int) = p.cap) ∧ put p tm l c = k ++ [(tm, e.2 + c)]) ∨ (put p tm l c = l ++ [(tm, c)] ∧ (l = [] ∨ ¬ (l.length : Int) = p.cap)) := by
  rcases List.eq_nil_or_concat l with h | ⟨k, e, h⟩
  · subst h; exact .inr ⟨rfl, .inl rfl⟩
  · rw [List.concat_eq_append] at h
    subst h
    by_cases hc : e.1 = tm ∨ ((k.length : Int) + 1) = p.cap
    · exact .inl ⟨k, e, rfl, by simpa using hc, put_in hc⟩
    · refine .inr ⟨put_new hc, .inr ?_⟩
      simp only [List.length_append, List.length_singleton]
      intro h; exact hc (.inr (by omega))
theorem put_tot (p : Pol) (tm : Int) (l : List (Int × Int)) (c : Int) : tot (put p tm l c) = tot l + c := by
  rcases put_cases p tm l c with ⟨k, e, h, _, hp⟩ | ⟨hp, _⟩
  · rw [hp, h, tot_append, tot_append, tot_cons, tot_cons, tot_nil]; simp; omega
  · rw [hp, tot_append, tot_cons, tot_nil]; simp
theorem put_len (p : Pol) (tm : Int) (l : List (Int × Int)) (c : Int) (h : (l.length : Int) ≤ p.cap) (h1 : 1 ≤ p.cap) : ((put p tm l c).length : Int) ≤ p.cap := by
  rcases put_cases p tm l c with ⟨k, e, hl, _, hp⟩ | ⟨hp, hl⟩
  · rw [hp]; rw [hl] at h; simpa using h
  · rw [hp]
    rcases hl with hl | hl
    · subst hl; simpa using h1
    · simp only [List.length_append, List.length_singleton]; omega
theorem put_mem {p : Pol} {tm c : Int} {l : List (Int × Int)} {e : Int × Int} (h : e ∈ put p tm l c) : e ∈ l ∨ (e.1 = tm ∧ (e.2 = c ∨ ∃ x ∈ l, e.2 = x.2 + c)) := by
  rcases put_cases p tm l c with ⟨k, x, hl, _, hp⟩ | ⟨hp, hl⟩
  · rw [hp] at h
    rcases List.mem_append.1 h with h | h
    · exact .inl (by rw [hl]; exact List.mem_append_left _ h)
    · obtain rfl := List.mem_singleton.1 h
      exact .inr ⟨rfl, .inr ⟨x, by rw [hl]; simp, rfl⟩⟩
  · rw [hp] at h
    rcases List.mem_append.1 h with h | h
    · exact .inl h
    · obtain rfl := List.mem_singleton.1 h
      exact .inr ⟨rfl, .inl rfl⟩
theorem put_sorted {p : Pol} {tm c : Int} {l : List (Int × Int)} (hs : l.Pairwise fun a b => a.1 ≤ b.1) (ht : ∀ e ∈ l, e.1 ≤ tm) : (put p tm l c).Pairwise fun a b => a.1 ≤ b.1 := by
  rcases put_cases p tm l c with ⟨k, x, hl, _, hp⟩ | ⟨hp, hl⟩
  · rw [hp]
    subst hl
    rw [List.pairwise_append] at hs ⊢
    refine ⟨hs.1, List.pairwise_singleton _ _, fun a ha b hb => ?_⟩
    obtain rfl := List.mem_singleton.1 hb
    exact ht a (List.mem_append_left _ ha)
  · rw [hp, List.pairwise_append]
    refine ⟨hs, List.pairwise_singleton _ _, fun a ha b hb => ?_⟩
    obtain rfl := List.mem_singleton.1 hb
    exact ht a ha

theorem mem_tot {l : List (Int × Int)} (h : ∀ e ∈ l, 1 ≤ e.2) {x : Int × Int} (hx : x ∈ l) : x.2 ≤ tot l := by
  obtain ⟨a, b, rfl⟩ := List.append_of_mem hx
  rw [tot_append, tot_cons]
  have h1 := tot_nonneg a fun e he => h e (List.mem_append_left _ he)
  have h2 := tot_nonneg b fun e he => h e (List.mem_append_right _ (List.mem_cons_of_mem _ he))
  omega

theorem ok_put {p : Pol} {s : St} (h : Ok p s) {c d : Int} (h1 : 1 ≤ c) (h2 : s.held - d + tot s.log + c ≤ p.limit) (h3 : 0 ≤ s.held - d) : Ok p { s with held := s.held - d, log := put p s.tm s.log c } := by
  have h0 := h.tot0
  refine ⟨h.chk, h.tm0, h.tm1, h3, by show s.held - d ≤ p.limit; omega, h.level, put_len _ _ _ _ h.len h.cap.1, fun e he => ?_, ?_, put_sorted h.sorted fun e he => (h.ent e he).2.1⟩
  · rcases put_mem he with hm | ⟨ht, hc | ⟨x, hx, hc⟩⟩
    · exact h.ent e hm
    · have := h.tm0
      show 0 ≤ e.1 ∧ e.1 ≤ s.tm ∧ _
      omega
    · have := h.tm0
      have := h.ent x hx
      have := mem_tot h.costs hx
      show 0 ≤ e.1 ∧ e.1 ≤ s.tm ∧ _
      omega
  · show s.held - d + tot (put p s.tm s.log c) ≤ p.limit
    rw [put_tot]; omega
theorem fr_put {p : Pol} {s : St} (h : Ok p s) (hf : Fr p s) (c d : Int) : Fr p { s with held := s.held - d, log := put p s.tm s.log c } := fun e he => by
  rcases put_mem he with hm | ⟨ht, _⟩
  · exact hf e hm
  · have := h.per
    show s.tm - e.1 < p.period
    omega
theorem ok_held {p : Pol} {s : St} (h : Ok p s) {d : Int} (h2 : s.held + d + tot s.log ≤ p.limit) (h3 : 0 ≤ s.held + d) : Ok p { s with held := s.held + d } := by
  have h0 := h.tot0
  exact ⟨h.chk, h.tm0, h.tm1, h3, by show s.held + d ≤ p.limit; omega, h.level, h.len, h.ent, by show s.held + d + tot s.log ≤ p.limit; omega, h.sorted⟩
theorem fr_held {p : Pol} {s : St} (hf : Fr p s) (d : Int) : Fr p { s with held := d } := hf

/-- acts of a state that is right and fresh, at its own time -/
theorem dn_ok {p : Pol} {t : St} (h : Ok p t) (hf : Fr p t) {k cost : Int} (hw : wi cost 1 (grt p t k) = true) : Ok p (dn p t k cost) ∧ Fr p (dn p t k cost) := by
  have hk := grt_kind hw
  have hw := wi_yes hw
  have h0 := h.tot0
  have h1 := h.sum
  have h2 := h.held0
  rcases hk with rfl | rfl | rfl | rfl
  · simp only [grt, room] at hw
    simp at hw
    rw [dn_1]
    have a := ok_put h (c := cost) (d := 0) hw.1 (by omega) (by omega)
    have b := fr_put h hf cost 0
    rw [Int.sub_zero] at a b
    exact ⟨a, b⟩
  · simp only [grt, room] at hw
    simp at hw
    rw [dn_2]
    exact ⟨ok_held h (by omega) (by omega), fr_held hf _⟩
  · simp only [grt] at hw
    simp at hw
    rw [dn_3]
    have := ok_held h (d := -cost) (by omega) (by omega)
    exact ⟨this, fr_held hf _⟩
  · simp only [grt] at hw
    simp at hw
    rw [dn_4]
    exact ⟨ok_put h hw.1 (by omega) (by omega), fr_put h hf _ _⟩

theorem act_yes {p : Pol} {s : St} (h : Ok p s) {k now cost : Int} (hw : wi cost 1 (grt p (adv p s now) k) = true) : act p s k now cost = (dn p (adv p s now) k cost, true) := by
  unfold act; rw [if_pos (ok_right h), if_pos hw]
theorem act_no {p : Pol} {s : St} (h : Ok p s) {k now cost : Int} (hw : ¬ wi cost 1 (grt p (adv p s now) k) = true) : act p s k now cost = (s, false) := by
  unfold act; rw [if_pos (ok_right h), if_neg hw]
theorem act_ok {p : Pol} {s : St} (h : Ok p s) (k now cost : Int) : Ok p (act p s k now cost).1 := by
  by_cases hw : wi cost 1 (grt p (adv p s now) k) = true
  · rw [act_yes h hw]; exact (dn_ok (h.adv now) (adv_fr h now) hw).1
  · rw [act_no h hw]; exact h

theorem ok_new {p : Pol} (h : chk p = true) (now : Int) : Ok p (new p now) := by
  have g := (chk_spec h).2.2
  unfold new
  rw [if_pos h]
  exact ⟨h, clamp_ge _, clamp_le _, Int.le_refl _, by show (0 : Int) ≤ p.limit; omega, rfl, by show ((0 : Nat) : Int) ≤ p.cap; omega, by simp, by show (0 : Int) + tot [] ≤ p.limit; rw [tot_nil]; omega, .nil⟩
theorem chk_ofP {a b c : Int} (h1 : 0 ≤ a ∧ a < 65536) (h2 : 0 ≤ b ∧ b < 65536) : chk (ofP a b c) = true := by
  have e1 : (0 : Int) ≤ a := h1.1
  refine chk_of rfl rfl (wi_of ?_ ?_) (wi_of ?_ ?_) (wi_of ?_ ?_)
  all_goals (show _ ≤ (_ : Int))
  all_goals (simp only [ofP]; omega)

/-- acts, one behind the other -/
def run (p : Pol) (s : St) (l : List (Int × Int × Int)) : St := l.foldl (fun s a => (act p s a.1 a.2.1 a.2.2).1) s
theorem run_take (p : Pol) (s : St) (l : List (Int × Int × Int)) (k : Nat) (h : k < l.length) : run p s (l.take (k + 1)) = (act p (run p s (l.take k)) l[k].1 l[k].2.1 l[k].2.2).1 := by
  unfold run
  rw [List.take_succ_eq_append_getElem h, List.foldl_append]
  rfl
theorem run_ok {p : Pol} {s : St} (h : Ok p s) (l : List (Int × Int × Int)) : Ok p (run p s l) := by
  induction l generalizing s with
  | nil => exact h
  | cons a l ih => exact ih (act_ok h a.1 a.2.1 a.2.2)

/-- what is logged in two, at the same time, is logged at once -/
theorem put_put (p : Pol) (tm : Int) (l : List (Int × Int)) (x y : Int) : put p tm (put p tm l x) y = put p tm l (x + y) := by
  rcases List.eq_nil_or_concat l with h | ⟨k, e, h⟩
  · subst h
    show put p tm ([] ++ [(tm, x)]) y = _
    rw [put_in (e := (tm, _)) (.inl rfl)]; rfl
  · rw [List.concat_eq_append] at h
    subst h
    by_cases hc : e.1 = tm ∨ ((k.length : Int) + 1) = p.cap
    · rw [put_in hc, put_in (e := (tm, _)) (.inl rfl), put_in hc]
      simp [Int.add_assoc]
    · rw [put_new hc, put_in (e := (tm, _)) (.inl rfl), put_new hc]

end Wn
end Go.Proofs.Ytljaemiggeeghaa
