/-
  Plain mathematics of counters: a wait is exact; time that goes by; what is held, and released or committed.
-/
import Derived.Test.YtikfjdpkjifcdaaCtrMath
namespace Go.Proofs.Ytikfjdpkjifcdaa
open Go.RowKit
namespace Wn

theorem wt_room {p : Pol} {s : St} {c : Int} (h : c ≤ room p s) : wt p s c = 0 := by unfold wt; rw [if_pos h]
theorem wt_none {p : Pol} {s : St} {c : Int} (h : ¬ c ≤ room p s) : wt p s c = (tim p s.tm + 1) * p.period - s.tm := by unfold wt; rw [if_neg h]
/-- what has room some time later, seen from a state's own time -/
theorem wait_spec {p : Pol} {s : St} (h : Ok p s) {c : Int} (hc : c ≤ p.limit - s.held) (ht : s.tm ≤ 4503599627370496) :
    0 ≤ wt p s c ∧ wt p s c ≤ 1099511627776 ∧ c ≤ room p (adv p s (s.tm + wt p s c)) ∧
      (0 < wt p s c → room p (adv p s (s.tm + wt p s c - 1)) = room p s ∧ (adv p s (s.tm + wt p s c - 1)).held = s.held ∧ ¬ c ≤ room p s ∧ tim p (adv p s (s.tm + wt p s c - 1)).tm = tim p s.tm ∧ (adv p s (s.tm + wt p s c - 1)).tm = s.tm + wt p s c - 1) := by
  have hp := h.per
  have h0 := h.tm0
  by_cases hr : c ≤ room p s
  · rw [wt_room hr]
    refine ⟨Int.le_refl _, by omega, ?_, fun hw => absurd hw (by omega)⟩
    rw [Int.add_zero, adv_self h]; exact hr
  · have e := wt_none hr
    have lo := tim_lo (p := p) s.tm hp.1
    have hi := tim_hi (p := p) s.tm hp.1
    have nx := tim_next p s.tm
    rw [e]
    generalize hq : tim p s.tm = q at *
    generalize hM : (q + 1) * p.period = M at *
    have eT : s.tm + (M - s.tm) = M := by omega
    have t1 : tim p M = q + 1 := tim_of hp.1 (by rw [hM]; omega) (by rw [Int.add_mul, hM, Int.one_mul]; omega)
    have t2 : tim p (M - 1) = q := tim_of hp.1 (by omega) (by rw [hM]; omega)
    rw [eT]
    refine ⟨by omega, by omega, ?_, fun _ => ?_⟩
    · rw [adv_at h (by omega) (by omega), t1, hq, if_neg (by omega)]
      show c ≤ p.limit - s.held - 0
      omega
    · rw [adv_at h (by omega) (by omega), t2, hq, if_pos rfl]
      exact ⟨rfl, rfl, hr, rfl, rfl⟩
theorem waitAt_zero {p : Pol} {s : St} (h : Ok p s) (c : Int) : waitAt p s 0 c = wt p s c := by unfold waitAt; rw [adv_zero h]
theorem retry_spec {p : Pol} {s : St} (h : Ok p s) {c : Int} (h1 : 1 ≤ c) (hc : c ≤ p.limit - s.held) (ht : s.tm ≤ 4503599627370496) :
    ∃ r, retryAt p s 0 c = (r, true) ∧ 0 ≤ r ∧ r ≤ 1099511627776 ∧ (∃ st, act p s 1 (s.tm + r) c = (st, true)) ∧ (0 < r → ∃ sx, act p s 1 (s.tm + r - 1) c = (sx, false)) := by
  obtain ⟨a0, a1, a2, a3⟩ := wait_spec h hc ht
  refine ⟨wt p s c, ?_, a0, a1, ⟨_, act_yes h (by rw [grt_take]; exact wi_of h1 a2)⟩, fun hr => ⟨_, act_no h (by
    rw [grt_take]; intro hw
    have := (wi_yes hw).2
    obtain ⟨b1, _, b3, _⟩ := a3 hr
    rw [b1] at this; exact b3 this)⟩⟩
  unfold retryAt; rw [if_pos (ok_right h), if_pos (wi_of h1 hc), waitAt_zero h]
theorem retry_none {p : Pol} {s : St} (h : Ok p s) {c : Int} (hc : ¬ c ≤ p.limit - s.held) : retryAt p s 0 c = (0, false) := by
  unfold retryAt; rw [if_pos (ok_right h), if_neg (fun hw => hc (wi_yes hw).2)]
theorem retry_some {p : Pol} {s : St} (h : Ok p s) {c : Int} (h1 : 1 ≤ c) (hc : c ≤ p.limit - s.held) : ∃ r, retryAt p s 0 c = (r, true) := by
  unfold retryAt; rw [if_pos (ok_right h), if_pos (wi_of h1 hc)]; exact ⟨_, rfl⟩
theorem until_held {p : Pol} {s : St} (h : Ok p s) (hh : s.held > 0) (now : Int) : untilAt p s now = -1 := by
  unfold untilAt; rw [if_pos (ok_right h), if_pos hh]
theorem until_spec {p : Pol} {s : St} (h : Ok p s) (hh : ¬ s.held > 0) (ht : s.tm ≤ 4503599627370496) :
    ∃ u, untilAt p s 0 = u ∧ 0 ≤ u ∧ u ≤ 1099511627776 ∧ untilAt p s (s.tm + u) = 0 ∧ (0 < u → ∃ n, untilAt p s (s.tm + u - 1) = n ∧ 0 < n) := by
  have h0 := h.held0
  obtain ⟨a0, a1, a2, a3⟩ := wait_spec h (c := p.limit) (by omega) ht
  have eu : ∀ now, untilAt p s now = wt p (adv p s now) p.limit := fun now => by unfold untilAt; rw [if_pos (ok_right h), if_neg hh]; rfl
  refine ⟨wt p s p.limit, by rw [eu, adv_zero h], a0, a1, by rw [eu]; exact wt_room a2, fun hu => ⟨_, eu _, ?_⟩⟩
  obtain ⟨b1, _, b3, b4, b5⟩ := a3 hu
  rw [wt_none (by rw [b1]; exact b3), b4, b5]
  have := wt_none b3
  omega

theorem waits_spec {p : Pol} {s : St} (h : Ok p s) (ht : s.tm ≤ 4503599627370496) {a b : Int} (ha : 0 ≤ a ∧ a < 4294967296) (hb : 0 ≤ b ∧ b < 4294967296) :
    ∃ u v rx ry, adv p s (s.tm + a) = u ∧ adv p s (s.tm + a + b) = v ∧ adv p u (s.tm + a + b) = v ∧ adv p v (s.tm + a) = v ∧ u.tm = s.tm + a ∧ v.tm = s.tm + a + b ∧
      roomAt p s (s.tm + a + b) = ry ∧ roomAt p s (s.tm + a) = rx ∧ rx ≤ ry ∧ roomAt p u (s.tm + a + b) = ry ∧ right p u = true ∧ u.log.length ≤ 100 ∧ v.log.length ≤ 100 := by
  have h0 := h.tm0
  have hl := h.lev0
  have eu := adv_at h (T := s.tm + a) (by omega) (by omega)
  have ev := adv_at h (T := s.tm + a + b) (by omega) (by omega)
  have ou : Ok p (adv p s (s.tm + a)) := h.adv _
  have ov : Ok p (adv p s (s.tm + a + b)) := h.adv _
  have m1 := tim_mono (p := p) (t := s.tm) (u := s.tm + a) h.per.1 (by omega)
  have m2 := tim_mono (p := p) (t := s.tm + a) (u := s.tm + a + b) h.per.1 (by omega)
  have euv : adv p (adv p s (s.tm + a)) (s.tm + a + b) = adv p s (s.tm + a + b) := by
    rw [adv_at ou (by rw [eu]; show s.tm + a ≤ s.tm + a + b; omega) (by omega), ev]
    rw [eu]
    show (⟨s.tm + a + b, if tim p (s.tm + a + b) = tim p (s.tm + a) then (if tim p (s.tm + a) = tim p s.tm then s.level else 0) else 0, s.held, []⟩ : St) = _
    by_cases c1 : tim p (s.tm + a + b) = tim p (s.tm + a)
    · rw [if_pos c1, c1]
    · rw [if_neg c1, if_neg (by omega)]
  refine ⟨_, _, _, _, rfl, rfl, euv, adv_past ov ?_, by rw [eu], by rw [ev], rfl, rfl, ?_, ?_, ok_right ou, ou.n, ov.n⟩
  · rw [clamp_id (by omega) (by omega), ev]; show s.tm + a ≤ s.tm + a + b; omega
  · unfold roomAt; rw [if_pos (ok_right h), if_pos (ok_right h), eu, ev]
    unfold room
    show p.limit - s.held - (if tim p (s.tm + a) = tim p s.tm then s.level else 0) ≤ p.limit - s.held - (if tim p (s.tm + a + b) = tim p s.tm then s.level else 0)
    split <;> split <;> omega
  · unfold roomAt; rw [if_pos (ok_right ou), if_pos (ok_right h), euv]

theorem backs_spec {p : Pol} {s : St} (h : Ok p s) {n c : Int} (hc : 1 ≤ c) :
    (∃ sh sk sr rm, act p s 2 n c = (sh, true) ∧ act p s 1 n c = (sk, true) ∧ roomAt p s n = rm ∧ c ≤ rm ∧ act p sh 3 n c = (sr, true) ∧ act p sh 4 n c = (sk, true) ∧ adv p s n = sr ∧ sr.log.length ≤ 100 ∧ sk.log.length ≤ 100) ∨
    (∃ rm, act p s 2 n c = (s, false) ∧ act p s 1 n c = (s, false) ∧ roomAt p s n = rm ∧ ¬ c ≤ rm) := by
  have er : roomAt p s n = room p (adv p s n) := by unfold roomAt; rw [if_pos (ok_right h)]
  obtain ⟨t, ht⟩ : ∃ t, adv p s n = t := ⟨_, rfl⟩
  have hok : Ok p t := by rw [← ht]; exact h.adv _
  have htm : clamp n ≤ t.tm := by rw [← ht, adv_tm h]; unfold advTm; omega
  rw [ht] at er
  by_cases hr : c ≤ room p t
  · left
    have e2 : act p s 2 n c = (dn t 2 c, true) := by rw [act_yes h (by rw [ht, grt_hold]; exact wi_of hc hr), ht]
    have e1 : act p s 1 n c = (dn t 1 c, true) := by rw [act_yes h (by rw [ht, grt_take]; exact wi_of hc hr), ht]
    have hh := dn_ok hok (k := 2) (cost := c) (by rw [grt_hold]; exact wi_of hc hr)
    have hk := dn_ok hok (k := 1) (cost := c) (by rw [grt_take]; exact wi_of hc hr)
    have hheld : c ≤ (dn t 2 c).held := by rw [dn_2]; show c ≤ t.held + c; have := hok.held0; omega
    have e3 := act_past hh (n := n) (k := 3) (c := c) (by rw [dn_tm]; exact htm) hc (by rw [grt_release]; exact hheld)
    have e4 := act_past hh (n := n) (k := 4) (c := c) (by rw [dn_tm]; exact htm) hc (by rw [grt_commit]; exact hheld)
    have er3 : dn (dn t 2 c) 3 c = t := by
      rw [dn_3, dn_2]
      show (⟨t.tm, t.level, t.held + c - c, t.log⟩ : St) = t
      rw [show t.held + c - c = t.held by omega]
    have er4 : dn (dn t 2 c) 4 c = dn t 1 c := by
      rw [dn_4, dn_2, dn_1]
      show (⟨t.tm, t.level + c, t.held + c - c, t.log⟩ : St) = ⟨t.tm, t.level + c, t.held, t.log⟩
      rw [show t.held + c - c = t.held by omega]
    exact ⟨_, _, t, _, e2, e1, er, hr, by rw [e3, er3], by rw [e4, er4], ht, hok.n, hk.n⟩
  · right
    exact ⟨_, act_no h (by rw [ht, grt_hold]; exact fun hw => hr (wi_yes hw).2), act_no h (by rw [ht, grt_take]; exact fun hw => hr (wi_yes hw).2), er, hr⟩

end Wn
end Go.Proofs.Ytikfjdpkjifcdaa
