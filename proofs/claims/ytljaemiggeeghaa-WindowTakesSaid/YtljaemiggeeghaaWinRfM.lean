/-
  Plain mathematics: the document's own Until and Retry tell what window's tell.
-/
import Derived.Test.YtljaemiggeeghaaWinRfC
import Derived.Test.YtljaemiggeeghaaWinRetM
namespace Go.Proofs.Ytljaemiggeeghaa
open Go.RowKit
namespace Wn

theorem usedl_rem {per T : Int} {l : List (Int × Int)} (hs : l.Pairwise fun a b => a.1 ≤ b.1) : tot (rem per T l) = usedl per T l := by rw [← keepl_rem hs]; rfl
theorem usedl_cons (per T : Int) (e : Int × Int) (l : List (Int × Int)) : usedl per T (e :: l) = (if T - per < e.1 then e.2 else 0) + usedl per T l := by
  unfold usedl
  by_cases hc : T - per < e.1 <;> simp [hc, tot]
theorem usedl_anti {per T T' : Int} {l : List (Int × Int)} (hc : ∀ e ∈ l, 1 ≤ e.2) (h : T ≤ T') : usedl per T' l ≤ usedl per T l := by
  induction l with
  | nil => exact Int.le_refl _
  | cons e l ih =>
    have i1 := ih fun x hx => hc x (List.mem_cons_of_mem _ hx)
    have i2 := hc e (List.mem_cons_self ..)
    rw [usedl_cons, usedl_cons]
    by_cases h1 : T' - per < e.1
    · rw [if_pos h1, if_pos (by omega)]; omega
    · rw [if_neg h1]; split <;> omega
theorem usedl_zero {per T : Int} {l : List (Int × Int)} (hc : ∀ e ∈ l, 1 ≤ e.2) (h : usedl per T l ≤ 0) : ∀ e ∈ l, e.1 + per ≤ T := by
  induction l with
  | nil => simp
  | cons e l ih =>
    have i2 := hc e (List.mem_cons_self ..)
    have hcl : ∀ x ∈ l, 1 ≤ x.2 := fun x hx => hc x (List.mem_cons_of_mem _ hx)
    have h0 : 0 ≤ usedl per T l := tot_nonneg _ fun x hx => hcl x (List.mem_filter.1 hx).1
    rw [usedl_cons] at h
    intro x hx
    by_cases h1 : T - per < e.1
    · rw [if_pos h1] at h; omega
    · rw [if_neg h1] at h
      rcases List.mem_cons.1 hx with rfl | hx
      · omega
      · exact ih hcl (by omega) x hx
theorem usedl_all {per T : Int} {l : List (Int × Int)} (h : ∀ e ∈ l, T - e.1 < per) : usedl per T l = tot l := by
  unfold usedl; rw [List.filter_eq_self.2 (fun e he => by have := h e he; simp; omega)]
theorem usedl_step {per T : Int} {l : List (Int × Int)} (h : ∀ e ∈ l, e.1 + per ≠ T) : usedl per (T - 1) l = usedl per T l := by
  induction l with
  | nil => rfl
  | cons e l ih =>
    have i1 := ih fun x hx => h x (List.mem_cons_of_mem _ hx)
    have i2 := h e (List.mem_cons_self ..)
    rw [usedl_cons, usedl_cons, i1]
    by_cases h1 : T - per < e.1
    · rw [if_pos h1, if_pos (by omega)]
    · rw [if_neg h1, if_neg (by omega)]

/-- the greatest of the times that are left -/
def maxl (per tm : Int) (l : List (Int × Int)) : Int := l.foldl (fun n e => if n < e.1 + per - tm then e.1 + per - tm else n) 0
theorem maxl_nil (per tm : Int) : maxl per tm [] = 0 := rfl
theorem maxl_take (per tm : Int) (l : List (Int × Int)) (k : Nat) (h : k < l.length) : maxl per tm (l.take (k + 1)) = if maxl per tm (l.take k) < l[k].1 + per - tm then l[k].1 + per - tm else maxl per tm (l.take k) := by
  unfold maxl
  rw [List.take_succ_eq_append_getElem h, List.foldl_append]
  rfl
theorem maxl_snoc (per tm : Int) (l : List (Int × Int)) (e : Int × Int) : maxl per tm (l ++ [e]) = if maxl per tm l < e.1 + per - tm then e.1 + per - tm else maxl per tm l := by
  unfold maxl; rw [List.foldl_append]; rfl
theorem maxl_spec (per tm : Int) (l : List (Int × Int)) : 0 ≤ maxl per tm l ∧ (∀ e ∈ l, e.1 + per - tm ≤ maxl per tm l) ∧ (maxl per tm l = 0 ∨ ∃ e ∈ l, maxl per tm l = e.1 + per - tm) := by
  obtain ⟨n, hn⟩ : ∃ n, l.length = n := ⟨_, rfl⟩
  induction n generalizing l with
  | zero => obtain rfl := List.eq_nil_of_length_eq_zero hn; simp [maxl]
  | succ n ih =>
    rcases List.eq_nil_or_concat l with rfl | ⟨l, e, rfl⟩
    · simp at hn
    rw [List.concat_eq_append] at hn ⊢
    rw [maxl_snoc]
    obtain ⟨h1, h2, h3⟩ := ih l (by simpa using hn)
    by_cases h : maxl per tm l < e.1 + per - tm
    · rw [if_pos h]
      refine ⟨by omega, fun x hx => ?_, .inr ⟨e, by simp, rfl⟩⟩
      rcases List.mem_append.1 hx with hx | hx
      · have := h2 x hx; omega
      · obtain rfl := List.mem_singleton.1 hx; exact Int.le_refl _
    · rw [if_neg h]
      refine ⟨h1, fun x hx => ?_, h3.imp id fun ⟨x, hx, e⟩ => ⟨x, by simp [hx], e⟩⟩
      rcases List.mem_append.1 hx with hx | hx
      · exact h2 x hx
      · obtain rfl := List.mem_singleton.1 hx; omega

theorem till_of {p : Pol} {s : St} (h : Ok p s) : ∀ e ∈ s.log, e.1 ≤ s.tm := fun e he => (h.ent e he).2.1
theorem till_fr {p : Pol} {s : St} (hf : Fr p s) : ∀ e ∈ s.log, s.tm ≤ e.1 + p.period := fun e he => by have := hf e he; omega

/-- Until, as the greatest of what is left -/
theorem until_maxl {p : Pol} {s a : St} {now : Int} (h : Ok p s) (ha : adv p s now = a) (hh : ¬ s.held > 0) : untilAt p s now = maxl p.period a.tm a.log := by
  have hok : Ok p a := by rw [← ha]; exact h.adv now
  have hf : Fr p a := by rw [← ha]; exact adv_fr h now
  have hah : a.held = 0 := by rw [← ha, adv_eq h]; have := h.held0; show s.held = 0; omega
  unfold untilAt waitAt
  rw [if_pos (ok_right h), if_neg hh, ha]
  obtain ⟨h1, h2, -⟩ := waitl_spec (per := p.period) (c := p.limit) hok.costs hok.sorted (free := room p a) (till := a.tm) (till_fr hf) (by unfold room; omega)
  rw [usedl_rem hok.sorted] at h2
  obtain ⟨m1, m2, m3⟩ := maxl_spec p.period a.tm a.log
  have h5 := usedl_zero hok.costs (per := p.period) (T := waitl p.period p.limit (room p a) a.tm a.log) (by unfold room at h2 ⊢; omega)
  have h6 := waitl_le (per := p.period) (c := p.limit) (M := a.tm + maxl p.period a.tm a.log) (free := room p a) (till := a.tm) (l := a.log) (by omega) (fun e he => by have := m2 e he; omega)
  rcases m3 with m3 | ⟨e, he, m3⟩
  · omega
  · have := h5 e he; omega

/-- the time at which there is room is that of an entry that goes; ahead of it there is none -/
theorem wait_entry {p : Pol} {a : St} {c : Int} (hok : Ok p a) (hf : Fr p a) (hc : c ≤ p.limit - a.held) (hn : ¬ a.held + usedl p.period a.tm a.log + c ≤ p.limit) :
    ∃ W, waitl p.period c (room p a) a.tm a.log = W ∧ (∃ e ∈ a.log, e.1 + p.period = W) ∧ (∀ T, T < W → ¬ a.held + usedl p.period T a.log + c ≤ p.limit) ∧ (∀ T, W ≤ T → a.held + usedl p.period T a.log + c ≤ p.limit) ∧ a.tm < W := by
  obtain ⟨h1, h2, h3⟩ := waitl_spec (per := p.period) (c := c) hok.costs hok.sorted (free := room p a) (till := a.tm) (till_fr hf) (by unfold room; omega)
  refine ⟨_, rfl, ?_⟩
  generalize waitl p.period c (room p a) a.tm a.log = W at h1 h2 h3
  rw [usedl_rem hok.sorted] at h2 h3
  have e0 := usedl_all (per := p.period) (T := a.tm) (l := a.log) hf
  have hlt : a.tm < W := by
    by_cases e : a.tm = W
    · subst e; unfold room at h2; omega
    · omega
  have h4 := h3 hlt
  refine ⟨?_, fun T hT => ?_, fun T hT => ?_, hlt⟩
  · by_cases hx : ∃ e ∈ a.log, e.1 + p.period = W
    · exact hx
    · have := usedl_step (per := p.period) (T := W) (l := a.log) (fun e he h => hx ⟨e, he, h⟩)
      omega
  · have := usedl_anti (per := p.period) hok.costs (show T ≤ W - 1 by omega)
    unfold room at h4; omega
  · have := usedl_anti (per := p.period) hok.costs hT
    unfold room at h2; omega

/-- what is best behind some of the entries -/
def Best (per tm W : Int) (l : List (Int × Int)) (k : Nat) (b : Int) : Prop := (b = -1 ∧ ∀ e ∈ l.take k, e.1 + per < W) ∨ b = W - tm
theorem best_start (per tm W : Int) (l : List (Int × Int)) : Best per tm W l 0 (-1) := .inl ⟨rfl, by simp⟩
theorem best_low {per tm W b : Int} {l : List (Int × Int)} {k : Nat} (h : Best per tm W l k b) (hk : k < l.length) (hl : l[k].1 + per < W) : Best per tm W l (k + 1) b := by
  rcases h with ⟨rfl, h⟩ | h
  · refine .inl ⟨rfl, fun e he => ?_⟩
    rw [List.take_succ_eq_append_getElem hk] at he
    rcases List.mem_append.1 he with he | he
    · exact h e he
    · obtain rfl := List.mem_singleton.1 he; exact hl
  · exact .inr h
/-- none was good so far, and this one is: it is the one -/
theorem best_first {per W : Int} {l : List (Int × Int)} {k : Nat} (hs : l.Pairwise fun a b => a.1 ≤ b.1) (hx : ∃ e ∈ l, e.1 + per = W) (h : ∀ e ∈ l.take k, e.1 + per < W) (hk : k < l.length) (hl : W ≤ l[k].1 + per) : l[k].1 + per = W := by
  obtain ⟨e, he, hw⟩ := hx
  obtain ⟨j, hj, rfl⟩ := List.mem_iff_getElem.1 he
  by_cases hjk : j < k
  · have := h l[j] (by rw [List.mem_take_iff_getElem]; exact ⟨j, by omega, rfl⟩); omega
  · by_cases e : j = k
    · subst e; exact hw
    · have := List.pairwise_iff_getElem.1 hs k j hk hj (by omega); omega
theorem best_end {per tm W b : Int} {l : List (Int × Int)} {k : Nat} (h : Best per tm W l k b) (hk : ¬ k < l.length) (hx : ∃ e ∈ l, e.1 + per = W) : b = W - tm := by
  rcases h with ⟨_, h⟩ | h
  · obtain ⟨e, he, hw⟩ := hx
    rw [List.take_of_length_le (by omega)] at h
    have := h e he; omega
  · exact h

end Wn
end Go.Proofs.Ytljaemiggeeghaa
