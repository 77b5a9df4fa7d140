/-
  Plain mathematics of the envelope: what is taken in less than a period is never more than there may be.
-/
import Derived.Test.YtljaemiggeeghaaWinBackM
namespace Go.Proofs.Ytljaemiggeeghaa
open Go.RowKit
namespace Wn

/-- what a row of takings, each of a time and a cost, has from a time on -/
def since (T : Int) (l : List (Int × Int)) : Int := tot (l.filter fun e => decide (T ≤ e.1))
theorem since_nil (T : Int) : since T [] = 0 := rfl
theorem since_append (T : Int) (k l : List (Int × Int)) : since T (k ++ l) = since T k + since T l := by unfold since; rw [List.filter_append, tot_append]
theorem since_one (T : Int) (e : Int × Int) : since T [e] = if T ≤ e.1 then e.2 else 0 := by
  unfold since
  by_cases h : T ≤ e.1 <;> simp [h, tot]

/-- the log remembers all that was taken since whatever time of the last period -/
def Rem (p : Pol) (s : St) (G : List (Int × Int)) : Prop := (∀ T, s.tm - p.period < T → since T G ≤ since T s.log) ∧ ∀ e ∈ G, e.1 ≤ s.tm

theorem since_rem {per tm T : Int} (h : tm - per < T) {l : List (Int × Int)} : since T (rem per tm l) = since T l := by
  induction l with
  | nil => rfl
  | cons e l ih =>
    by_cases h1 : tm - e.1 < per
    · rw [rem_cons_here h1]
    · rw [rem_cons_gone h1, ih]
      rw [show e :: l = [e] ++ l from rfl, since_append, since_one, if_neg (by omega)]; omega
theorem since_put {p : Pol} {tm c T : Int} {l : List (Int × Int)} (hl : ∀ e ∈ l, e.1 ≤ tm ∧ 1 ≤ e.2) (hT : T ≤ tm) : since T l + c ≤ since T (put p tm l c) := by
  rcases put_cases p tm l c with ⟨k, e, hk, _, hp⟩ | ⟨hp, _⟩
  · rw [hp, hk, since_append, since_append, since_one, since_one, if_pos (show T ≤ (tm, e.2 + c).1 from hT)]
    have := hl e (by rw [hk]; simp)
    show since T k + (if T ≤ e.1 then e.2 else 0) + c ≤ since T k + (e.2 + c)
    split <;> omega
  · rw [hp, since_append, since_one, if_pos (show T ≤ (tm, c).1 from hT)]
    show since T l + c ≤ since T l + c
    omega
theorem since_later {tm T : Int} {l : List (Int × Int)} (hl : ∀ e ∈ l, e.1 ≤ tm) (hT : tm < T) : since T l = 0 := by
  unfold since
  rw [List.filter_eq_nil_iff.2 (fun e he => by have := hl e he; simp; omega)]; rfl
theorem since_le_tot {T : Int} {l : List (Int × Int)} (hl : ∀ e ∈ l, 1 ≤ e.2) : since T l ≤ tot l := tot_sub (List.filter_sublist) hl

theorem rem_new (p : Pol) (now : Int) : Rem p (new p now) [] := by
  refine ⟨fun T _ => ?_, by simp⟩
  rw [new_log]; exact Int.le_refl _

/-- a taking that had room -/
theorem rem_take {p : Pol} {s : St} (h : Ok p s) {G : List (Int × Int)} (hr : Rem p s G) {n c : Int} (ha : (act p s 1 n c).2 = true) :
    Rem p (act p s 1 n c).1 (G ++ [((act p s 1 n c).1.tm, c)]) ∧ 1 ≤ c := by
  by_cases hw : wi c 1 (grt p (adv p s n) 1) = true
  · have hc := (wi_yes hw).1
    rw [act_yes h hw, dn_1]
    have hok := h.adv n
    have htm : s.tm ≤ (adv p s n).tm := by rw [adv_tm h]; exact advTm_ge s n
    refine ⟨⟨fun T hT => ?_, fun e he => ?_⟩, hc⟩
    · show since T (G ++ [((adv p s n).tm, c)]) ≤ since T (put p (adv p s n).tm (adv p s n).log c)
      have hT : (adv p s n).tm - p.period < T := hT
      rw [since_append, since_one]
      have h1 : since T G ≤ since T (adv p s n).log := by
        have e1 : (adv p s n).log = rem p.period (adv p s n).tm s.log := by rw [adv_eq h]; rfl
        rw [e1, since_rem hT]
        exact hr.1 T (by omega)
      by_cases hle : T ≤ (adv p s n).tm
      · rw [if_pos hle]
        have := since_put (p := p) (c := c) (T := T) (fun e he => ⟨(hok.ent e he).2.1, hok.costs e he⟩) hle
        omega
      · rw [if_neg hle, since_later (l := G) (tm := s.tm) hr.2 (by omega), since_later (l := put p (adv p s n).tm (adv p s n).log c) (tm := (adv p s n).tm) (fun e he => by
          rcases put_mem he with hm | ⟨ht, _⟩
          · exact (hok.ent e hm).2.1
          · omega) (by omega)]
        omega
    · rcases List.mem_append.1 he with hm | hm
      · have := hr.2 e hm; show e.1 ≤ (adv p s n).tm; omega
      · obtain rfl := List.mem_singleton.1 hm
        exact Int.le_refl _
  · rw [act_no h hw] at ha; exact absurd ha (by simp)
theorem rem_not {p : Pol} {s : St} (h : Ok p s) {n c : Int} (ha : (act p s 1 n c).2 = false) : (act p s 1 n c).1 = s := by
  by_cases hw : wi c 1 (grt p (adv p s n) 1) = true
  · rw [act_yes h hw] at ha; exact absurd ha (by simp)
  · rw [act_no h hw]
/-- what was taken since a time of the last period is no more than there may be -/
theorem rem_bound {p : Pol} {s : St} (h : Ok p s) {G : List (Int × Int)} (hr : Rem p s G) {T : Int} (hT : s.tm - p.period < T) : since T G ≤ p.limit := by
  have h1 := hr.1 T hT
  have h2 := since_le_tot (T := T) h.costs
  have := h.sum
  have := h.held0
  omega

/-- the takings of a run: in order, and between any two of them, less than a period apart, no more than there may be -/
structure Env (p : Pol) (G : List (Int × Int)) : Prop where
  sorted : G.Pairwise fun a b => a.1 ≤ b.1
  cost : ∀ e ∈ G, 1 ≤ e.2 ∧ e.2 ≤ 1048576
  low : ∀ e ∈ G, 0 ≤ e.1
  sum : ∀ i j (hi : i < G.length) (hj : j < G.length), i ≤ j → G[j].1 - G[i].1 < p.period → tot ((G.take (j + 1)).drop i) ≤ p.limit
theorem env_nil (p : Pol) : Env p [] := ⟨.nil, by simp, by simp, fun i j hi => absurd hi (by simp)⟩
theorem tot_since {G : List (Int × Int)} (hs : G.Pairwise fun a b => a.1 ≤ b.1) (hc : ∀ e ∈ G, 1 ≤ e.2) (i : Nat) (hi : i < G.length) : tot (G.drop i) ≤ since G[i].1 G := by
  have e : since G[i].1 G = since G[i].1 (G.take i) + since G[i].1 (G.drop i) := by rw [← since_append, List.take_append_drop]
  have h1 : since G[i].1 (G.drop i) = tot (G.drop i) := by
    unfold since
    rw [List.filter_eq_self.2]
    intro x hx
    obtain ⟨j, hj, rfl⟩ := List.mem_iff_getElem.1 hx
    rw [List.getElem_drop]
    simp only [decide_eq_true_eq]
    by_cases h0 : j = 0
    · subst h0; exact Int.le_refl _
    · exact List.pairwise_iff_getElem.1 hs i (i + j) hi (by rw [List.length_drop] at hj; omega) (by omega)
  have h2 : 0 ≤ since G[i].1 (G.take i) := tot_nonneg _ fun x hx => hc x (List.mem_of_mem_take (List.mem_filter.1 hx).1)
  omega
theorem env_snoc {p : Pol} {s : St} (h : Ok p s) {G : List (Int × Int)} {c : Int} (he : Env p G) (hr : Rem p s (G ++ [(s.tm, c)])) (hc : 1 ≤ c) (hc2 : c ≤ 1048576) : Env p (G ++ [(s.tm, c)]) := by
  have hs : (G ++ [(s.tm, c)]).Pairwise fun a b => a.1 ≤ b.1 := by
    rw [List.pairwise_append]
    refine ⟨he.sorted, List.pairwise_singleton _ _, fun a ha b hb => ?_⟩
    obtain rfl := List.mem_singleton.1 hb
    exact hr.2 a (List.mem_append_left _ ha)
  have hcc : ∀ e ∈ G ++ [(s.tm, c)], 1 ≤ e.2 ∧ e.2 ≤ 1048576 := fun e hm => by
    rcases List.mem_append.1 hm with hm | hm
    · exact he.cost e hm
    · obtain rfl := List.mem_singleton.1 hm; exact ⟨hc, hc2⟩
  have hlow : ∀ e ∈ G ++ [(s.tm, c)], 0 ≤ e.1 := fun e hm => by
    rcases List.mem_append.1 hm with hm | hm
    · exact he.low e hm
    · obtain rfl := List.mem_singleton.1 hm; exact h.tm0
  refine ⟨hs, hcc, hlow, fun i j hi hj hij hp => ?_⟩
  by_cases hjl : j < G.length
  · have hil : i < G.length := by omega
    rw [List.getElem_append_left hjl, List.getElem_append_left hil] at hp
    rw [List.take_append_of_le_length (by omega)]
    exact he.sum i j hil hjl hij hp
  · have hjn : j = G.length := by rw [List.length_append] at hj; simp at hj; omega
    subst hjn
    rw [List.take_of_length_le (by simp)]
    have h1 := tot_since hs (fun e hm => (hcc e hm).1) i hi
    have hgl : (G ++ [(s.tm, c)])[G.length].1 = s.tm := by simp
    rw [hgl] at hp
    have h2 := rem_bound h hr (T := (G ++ [(s.tm, c)])[i].1) (by omega)
    omega

theorem tot_span (G : List (Int × Int)) {i j : Nat} (h : i ≤ j) (hj : j < G.length) : tot ((G.take (j + 1)).drop i) = tot ((G.take j).drop i) + G[j].2 := by
  rw [List.take_succ_eq_append_getElem hj, List.drop_append_of_le_length (by rw [List.length_take]; omega), tot_append, tot_cons, tot_nil]; omega
theorem tot_bounds {l : List (Int × Int)} (h : ∀ e ∈ l, 1 ≤ e.2 ∧ e.2 ≤ 1048576) : 0 ≤ tot l ∧ tot l ≤ l.length * 1048576 := by
  induction l with
  | nil => simp [tot]
  | cons e l ih =>
    have := ih fun x hx => h x (List.mem_cons_of_mem _ hx)
    have := h e (List.mem_cons_self ..)
    rw [tot_cons, List.length_cons]
    push_cast
    omega

end Wn
end Go.Proofs.Ytljaemiggeeghaa
