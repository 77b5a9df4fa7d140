/-
  Plain mathematics of what is held, and released or committed.
-/
import Derived.Test.YtljaemiggeeghaaWinWaitM
namespace Go.Proofs.Ytljaemiggeeghaa
open Go.RowKit
namespace Wn

theorem adv_tm {p : Pol} {s : St} (h : Ok p s) (n : Int) : (adv p s n).tm = advTm s n := by rw [adv_eq h]; rfl
theorem adv_past {p : Pol} {s : St} (h : Ok p s) (hf : Fr p s) {n : Int} (hn : clamp n ≤ s.tm) : adv p s n = s := adv_same h hf hn
/-- an act of a state that is fresh, at a time that is past -/
theorem act_past {p : Pol} {t : St} (h : Ok p t) (hf : Fr p t) {n k c : Int} (hn : clamp n ≤ t.tm) (hc : 1 ≤ c) (hw : c ≤ grt p t k) : act p t k n c = (dn p t k c, true) := by
  have hs := adv_same h hf hn
  rw [act_yes h (by rw [hs]; exact wi_of hc hw), hs]

theorem act_same {p : Pol} {s : St} (h : Ok p s) {k n c : Int} (hf : (act p s k n c).2 = false) : sameS (act p s k n c).1 s = true := by
  by_cases hw : wi c 1 (grt p (adv p s n) k) = true
  · rw [act_yes h hw] at hf; exact absurd hf (by simp)
  · rw [act_no h hw]; exact sameS_self s
theorem backs_spec {p : Pol} {s : St} (h : Ok p s) {n c : Int} (hc : 1 ≤ c) :
    (∃ sh sk sr rm, act p s 2 n c = (sh, true) ∧ act p s 1 n c = (sk, true) ∧ roomAt p s n = rm ∧ c ≤ rm ∧ act p sh 3 n c = (sr, true) ∧ act p sh 4 n c = (sk, true) ∧ adv p s n = sr ∧ sr.log.length ≤ 100 ∧ sk.log.length ≤ 100) ∨
    (∃ rm, act p s 2 n c = (s, false) ∧ act p s 1 n c = (s, false) ∧ roomAt p s n = rm ∧ ¬ c ≤ rm) := by
  have er : roomAt p s n = room p (adv p s n) := by unfold roomAt; rw [if_pos (ok_right h)]
  obtain ⟨t, ht⟩ : ∃ t, adv p s n = t := ⟨_, rfl⟩
  have hok : Ok p t := by rw [← ht]; exact h.adv _
  have hfr : Fr p t := by rw [← ht]; exact adv_fr h _
  have htm : clamp n ≤ t.tm := by rw [← ht, adv_tm h]; unfold advTm; omega
  rw [ht] at er
  by_cases hr : c ≤ room p t
  · left
    have e2 : act p s 2 n c = (dn p t 2 c, true) := by rw [act_yes h (by rw [ht, grt_hold]; exact wi_of hc hr), ht]
    have e1 : act p s 1 n c = (dn p t 1 c, true) := by rw [act_yes h (by rw [ht, grt_take]; exact wi_of hc hr), ht]
    have hh := dn_ok hok hfr (k := 2) (cost := c) (by rw [grt_hold]; exact wi_of hc hr)
    have hk := dn_ok hok hfr (k := 1) (cost := c) (by rw [grt_take]; exact wi_of hc hr)
    have hheld : c ≤ (dn p t 2 c).held := by rw [dn_2]; show c ≤ t.held + c; have := hok.held0; omega
    have e3 := act_past hh.1 hh.2 (n := n) (k := 3) (c := c) (by rw [dn_tm]; exact htm) hc (by rw [grt_release]; exact hheld)
    have e4 := act_past hh.1 hh.2 (n := n) (k := 4) (c := c) (by rw [dn_tm]; exact htm) hc (by rw [grt_commit]; exact hheld)
    have er3 : dn p (dn p t 2 c) 3 c = t := by
      rw [dn_3, dn_2]
      show (⟨t.tm, t.level, t.held + c - c, t.log⟩ : St) = t
      rw [show t.held + c - c = t.held by omega]
    have er4 : dn p (dn p t 2 c) 4 c = dn p t 1 c := by
      rw [dn_4, dn_2, dn_1]
      show (⟨t.tm, t.level, t.held + c - c, put p t.tm t.log c⟩ : St) = ⟨t.tm, t.level, t.held, put p t.tm t.log c⟩
      rw [show t.held + c - c = t.held by omega]
    exact ⟨_, _, t, _, e2, e1, er, hr, by rw [e3, er3], by rw [e4, er4], ht, hok.n, hk.1.n⟩
  · right
    exact ⟨_, act_no h (by rw [ht, grt_hold]; exact fun hw => hr (wi_yes hw).2), act_no h (by rw [ht, grt_take]; exact fun hw => hr (wi_yes hw).2), er, hr⟩

end Wn
end Go.Proofs.Ytljaemiggeeghaa
