/-
  Plain mathematics of the envelope: in each time there is no more taken than there may be; so in less than a period never more than twice that.
-/
import Derived.Test.YtikfjdpkjifcdaaCtrMore
namespace Go.Proofs.Ytikfjdpkjifcdaa
open Go.RowKit
namespace Wn

theorem grt_le {p : Pol} {s : St} (h : Ok p s) (k : Int) : grt p s k ≤ p.limit := by
  have h1 := h.lim
  have h2 := h.held0
  have h3 := h.held1
  have h4 := h.lev0
  unfold grt room
  split
  · omega
  · split <;> omega
/-- what a row of takings, each of a time and a cost, has in the time k -/
def cnt (p : Pol) (k : Int) (l : List (Int × Int)) : Int := tot (l.filter fun e => decide (tim p e.1 = k))
theorem cnt_nil (p : Pol) (k : Int) : cnt p k [] = 0 := rfl
theorem cnt_cons (p : Pol) (k : Int) (e : Int × Int) (l : List (Int × Int)) : cnt p k (e :: l) = (if tim p e.1 = k then e.2 else 0) + cnt p k l := by
  unfold cnt
  by_cases h : tim p e.1 = k <;> simp [h, tot]
theorem cnt_append (p : Pol) (k : Int) (a l : List (Int × Int)) : cnt p k (a ++ l) = cnt p k a + cnt p k l := by unfold cnt; rw [List.filter_append, tot_append]
theorem cnt_one (p : Pol) (k : Int) (e : Int × Int) : cnt p k [e] = if tim p e.1 = k then e.2 else 0 := by rw [cnt_cons, cnt_nil, Int.add_zero]
theorem cnt_none {p : Pol} {k : Int} {l : List (Int × Int)} (h : ∀ e ∈ l, tim p e.1 ≠ k) : cnt p k l = 0 := by
  unfold cnt
  rw [List.filter_eq_nil_iff.2 (fun e he => by have := h e he; simpa using this)]; rfl
theorem cnt_nonneg {p : Pol} {k : Int} {l : List (Int × Int)} (h : ∀ e ∈ l, 1 ≤ e.2) : 0 ≤ cnt p k l := tot_nonneg _ fun e he => h e (List.mem_filter.1 he).1
/-- all that is taken in two times -/
theorem tot_two {p : Pol} {q : Int} {l : List (Int × Int)} (h : ∀ e ∈ l, tim p e.1 = q ∨ tim p e.1 = q + 1) : tot l = cnt p q l + cnt p (q + 1) l := by
  induction l with
  | nil => rfl
  | cons e l ih =>
    have i1 := ih fun x hx => h x (List.mem_cons_of_mem _ hx)
    rw [tot_cons, cnt_cons, cnt_cons, i1]
    rcases h e (List.mem_cons_self ..) with h1 | h1
    · rw [if_pos h1, if_neg (by omega)]; omega
    · rw [if_neg (by omega), if_pos h1]; omega
theorem tot_one {p : Pol} {q : Int} {l : List (Int × Int)} (h : ∀ e ∈ l, tim p e.1 = q) : tot l = cnt p q l := by
  unfold cnt
  rw [List.filter_eq_self.2 (fun e he => by have := h e he; simpa using this)]
theorem cnt_span {p : Pol} {q : Int} {l : List (Int × Int)} (hc : ∀ e ∈ l, 1 ≤ e.2) (i j : Nat) : cnt p q ((l.take j).drop i) ≤ cnt p q l := by
  have e1 : cnt p q l = cnt p q (l.take j) + cnt p q (l.drop j) := by rw [← cnt_append, List.take_append_drop]
  have e2 : cnt p q (l.take j) = cnt p q ((l.take j).take i) + cnt p q ((l.take j).drop i) := by rw [← cnt_append, List.take_append_drop]
  have n1 : 0 ≤ cnt p q (l.drop j) := cnt_nonneg fun e he => hc e (List.mem_of_mem_drop he)
  have n2 : 0 ≤ cnt p q ((l.take j).take i) := cnt_nonneg fun e he => hc e (List.mem_of_mem_take (List.mem_of_mem_take he))
  omega

/-- the count is what was taken in the state's own time -/
def Rem (p : Pol) (s : St) (G : List (Int × Int)) : Prop := cnt p (tim p s.tm) G ≤ s.level ∧ ∀ e ∈ G, e.1 ≤ s.tm
theorem rem_new (p : Pol) (now : Int) : Rem p (new p now) [] := by
  refine ⟨?_, by simp⟩
  rw [cnt_nil]; unfold new; split <;> exact Int.le_refl _
/-- a taking that had room -/
theorem rem_take {p : Pol} {s : St} (h : Ok p s) {G : List (Int × Int)} (hr : Rem p s G) {n c : Int} (ha : (act p s 1 n c).2 = true) :
    Rem p (act p s 1 n c).1 (G ++ [((act p s 1 n c).1.tm, c)]) ∧ 1 ≤ c := by
  by_cases hw : wi c 1 (grt p (adv p s n) 1) = true
  · have hc := (wi_yes hw).1
    rw [act_yes h hw, dn_1]
    have htm : s.tm ≤ (adv p s n).tm := by rw [adv_tm h]; exact advTm_ge s n
    have hle := tim_mono (p := p) h.per.1 htm
    have hlev : (adv p s n).level = if tim p (adv p s n).tm = tim p s.tm then s.level else 0 := by rw [adv_eq h]; rfl
    refine ⟨⟨?_, fun e he => ?_⟩, hc⟩
    · show cnt p (tim p (adv p s n).tm) (G ++ [((adv p s n).tm, c)]) ≤ (adv p s n).level + c
      rw [cnt_append, cnt_one, if_pos rfl, hlev]
      by_cases hq : tim p (adv p s n).tm = tim p s.tm
      · rw [if_pos hq, hq]
        have := hr.1
        show _ + c ≤ _
        omega
      · rw [if_neg hq, cnt_none (fun e he => by
          have h1 := tim_mono (p := p) h.per.1 (hr.2 e he)
          omega)]
        show 0 + c ≤ 0 + c
        omega
    · rcases List.mem_append.1 he with hm | hm
      · have := hr.2 e hm; show e.1 ≤ (adv p s n).tm; omega
      · obtain rfl := List.mem_singleton.1 hm
        exact Int.le_refl _
  · rw [act_no h hw] at ha; exact absurd ha (by simp)
theorem rem_not {p : Pol} {s : St} (h : Ok p s) {n c : Int} (ha : (act p s 1 n c).2 = false) : (act p s 1 n c).1 = s := by
  by_cases hw : wi c 1 (grt p (adv p s n) 1) = true
  · rw [act_yes h hw] at ha; exact absurd ha (by simp)
  · rw [act_no h hw]

/-- the takings of a run: in order, and in each time no more than there may be -/
structure Env (p : Pol) (G : List (Int × Int)) : Prop where
  sorted : G.Pairwise fun a b => a.1 ≤ b.1
  cost : ∀ e ∈ G, 1 ≤ e.2 ∧ e.2 ≤ 1048576
  low : ∀ e ∈ G, 0 ≤ e.1
  sum : ∀ k, cnt p k G ≤ p.limit
theorem env_nil {p : Pol} (h : 0 ≤ p.limit) : Env p [] := ⟨.nil, by simp, by simp, fun k => by rw [cnt_nil]; exact h⟩
theorem env_snoc {p : Pol} {s : St} (h : Ok p s) {G : List (Int × Int)} {c : Int} (he : Env p G) (hr : Rem p s (G ++ [(s.tm, c)])) (hc : 1 ≤ c) (hc2 : c ≤ 1048576) : Env p (G ++ [(s.tm, c)]) := by
  refine ⟨?_, fun e hm => ?_, fun e hm => ?_, fun k => ?_⟩
  · rw [List.pairwise_append]
    refine ⟨he.sorted, List.pairwise_singleton _ _, fun a ha b hb => ?_⟩
    obtain rfl := List.mem_singleton.1 hb
    exact hr.2 a (List.mem_append_left _ ha)
  · rcases List.mem_append.1 hm with hm | hm
    · exact he.cost e hm
    · obtain rfl := List.mem_singleton.1 hm; exact ⟨hc, hc2⟩
  · rcases List.mem_append.1 hm with hm | hm
    · exact he.low e hm
    · obtain rfl := List.mem_singleton.1 hm; exact h.tm0
  · by_cases hk : k = tim p s.tm
    · subst hk
      have h1 := hr.1
      have h2 := h.lev1
      have h3 := h.held0
      omega
    · rw [cnt_append, cnt_one, if_neg (fun e => hk e.symm)]
      have := he.sum k
      omega
theorem mem_span {G : List (Int × Int)} {i j : Nat} {e : Int × Int} (h : e ∈ (G.take (j + 1)).drop i) (hj : j < G.length) : ∃ m, ∃ hm : m < G.length, i ≤ m ∧ m ≤ j ∧ e = G[m] := by
  obtain ⟨n, hn, rfl⟩ := List.mem_iff_getElem.1 h
  rw [List.length_drop, List.length_take] at hn
  refine ⟨i + n, by omega, by omega, by omega, ?_⟩
  rw [List.getElem_drop, List.getElem_take]
theorem span_times {p : Pol} (hp : 1 ≤ p.period) {G : List (Int × Int)} (he : Env p G) {i j : Nat} (hj : j < G.length) (hij : i ≤ j) {e : Int × Int} (h : e ∈ (G.take (j + 1)).drop i) : tim p G[i].1 ≤ tim p e.1 ∧ tim p e.1 ≤ tim p G[j].1 := by
  obtain ⟨m, hm, h1, h2, rfl⟩ := mem_span h hj
  have hs := List.pairwise_iff_getElem.1 he.sorted
  have a : G[i].1 ≤ G[m].1 := by
    by_cases h0 : i = m
    · subst h0; exact Int.le_refl _
    · exact hs i m (by omega) hm (by omega)
  have b : G[m].1 ≤ G[j].1 := by
    by_cases h0 : m = j
    · subst h0; exact Int.le_refl _
    · exact hs m j hm hj (by omega)
  exact ⟨tim_mono hp a, tim_mono hp b⟩
/-- in one time -/
theorem env_same {p : Pol} (hp : 1 ≤ p.period) {G : List (Int × Int)} (he : Env p G) {i j : Nat} (hj : j < G.length) (hij : i ≤ j) (hq : tim p G[j].1 = tim p G[i].1) : tot ((G.take (j + 1)).drop i) ≤ p.limit := by
  rw [tot_one (p := p) (q := tim p G[i].1) (fun e hm => by have := span_times hp he hj hij hm; omega)]
  have := cnt_span (p := p) (q := tim p G[i].1) (fun e hm => (he.cost e hm).1) i (j + 1)
  have := he.sum (tim p G[i].1)
  omega
/-- in less than a period -/
theorem env_twice {p : Pol} (hp : 1 ≤ p.period) {G : List (Int × Int)} (he : Env p G) {i j : Nat} (hj : j < G.length) (hij : i ≤ j) (hq : G[j].1 - G[i].1 < p.period) : tot ((G.take (j + 1)).drop i) ≤ 2 * p.limit := by
  have hnext : tim p G[j].1 ≤ tim p G[i].1 + 1 := by
    have h1 := tim_lo (p := p) G[j].1 hp
    have h2 := tim_hi (p := p) G[i].1 hp
    have h3 := tim_next p G[i].1
    apply Decidable.byContradiction
    intro hc
    have := Int.mul_le_mul_of_nonneg_right (show tim p G[i].1 + 1 + 1 ≤ tim p G[j].1 by omega) (show 0 ≤ p.period by omega)
    rw [Int.add_mul, Int.one_mul] at this
    omega
  rw [tot_two (p := p) (q := tim p G[i].1) (fun e hm => by have := span_times hp he hj hij hm; omega)]
  have a := cnt_span (p := p) (q := tim p G[i].1) (fun e hm => (he.cost e hm).1) i (j + 1)
  have b := cnt_span (p := p) (q := tim p G[i].1 + 1) (fun e hm => (he.cost e hm).1) i (j + 1)
  have c := he.sum (tim p G[i].1)
  have d := he.sum (tim p G[i].1 + 1)
  omega
theorem tot_span (G : List (Int × Int)) {i j : Nat} (h : i ≤ j) (hj : j < G.length) : tot ((G.take (j + 1)).drop i) = tot ((G.take j).drop i) + G[j].2 := by
  rw [List.take_succ_eq_append_getElem hj, List.drop_append_of_le_length (by rw [List.length_take]; omega), tot_append, tot_cons, tot_nil]; omega
theorem tot_bounds {l : List (Int × Int)} (h : ∀ e ∈ l, 1 ≤ e.2 ∧ e.2 ≤ 1048576) : 0 ≤ tot l ∧ tot l ≤ l.length * 1048576 := by
  induction l with
  | nil => simp [tot]
  | cons e l ih =>
    have := ih fun x hx => h x (List.mem_cons_of_mem _ hx)
    have := h e (List.mem_cons_self ..)
    rw [tot_cons, List.length_cons]
    push_cast
    omega

end Wn
end Go.Proofs.Ytikfjdpkjifcdaa
