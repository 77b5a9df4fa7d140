/-
  Plain mathematics of counters: states, acts, waits; what is right stays right; what is taken in two is taken at once; a wait is exact.
-/
import Derived.Test.YtikfjdpkjifcdaaStBase
namespace Go.Proofs.Ytikfjdpkjifcdaa
open Go.RowKit
namespace Wn

/-- Check -/
def chk (p : Pol) : Bool := decide (p.kind = 4) && decide (p.burst = 0) && decide (p.cap = 0) && wi p.limit 1 1048576 && wi p.period 1 1099511627776
theorem chk_spec {p : Pol} (h : chk p = true) : p.kind = 4 ∧ p.burst = 0 ∧ p.cap = 0 ∧ (1 ≤ p.limit ∧ p.limit ≤ 1048576) ∧ (1 ≤ p.period ∧ p.period ≤ 1099511627776) := by
  unfold chk wi at h; simpa [and_assoc] using h
theorem chk_of {p : Pol} (h1 : p.kind = 4) (h2 : p.burst = 0) (h0 : p.cap = 0) (h3 : wi p.limit 1 1048576 = true) (h4 : wi p.period 1 1099511627776 = true) : chk p = true := by
  unfold chk; rw [h3, h4]; simp [h1, h2, h0]
def errno (b : Bool) : Int := if b then 0 else 2
/-- Right -/
def right (p : Pol) (s : St) : Bool := chk p && wi s.tm 0 9007199254740992 && wi s.held 0 p.limit && wi s.level 0 (p.limit - s.held) && decide (s.log.length = 0)
structure Ok (p : Pol) (s : St) : Prop where
  chk : chk p = true
  tm0 : 0 ≤ s.tm
  tm1 : s.tm ≤ 9007199254740992
  held0 : 0 ≤ s.held
  held1 : s.held ≤ p.limit
  lev0 : 0 ≤ s.level
  lev1 : s.level ≤ p.limit - s.held
  log : s.log = []
theorem right_ok {p : Pol} {s : St} (h : right p s = true) : Ok p s := by
  unfold right at h
  simp only [Bool.and_eq_true] at h
  obtain ⟨⟨⟨⟨h1, h2⟩, h3⟩, h4⟩, h5⟩ := h
  have h2 := wi_yes h2
  have h3 := wi_yes h3
  have h4 := wi_yes h4
  exact ⟨h1, h2.1, h2.2, h3.1, h3.2, h4.1, h4.2, List.eq_nil_of_length_eq_zero (by simpa using h5)⟩
theorem ok_right {p : Pol} {s : St} (h : Ok p s) : right p s = true := by
  unfold right
  rw [h.chk, wi_of h.tm0 h.tm1, wi_of h.held0 h.held1, wi_of h.lev0 h.lev1, h.log]; rfl
theorem Ok.lim {p : Pol} {s : St} (h : Ok p s) : 1 ≤ p.limit ∧ p.limit ≤ 1048576 := (chk_spec h.chk).2.2.2.1
theorem Ok.per {p : Pol} {s : St} (h : Ok p s) : 1 ≤ p.period ∧ p.period ≤ 1099511627776 := (chk_spec h.chk).2.2.2.2
theorem Ok.n {p : Pol} {s : St} (h : Ok p s) : s.log.length ≤ 100 := by rw [h.log]; exact Nat.zero_le _

def new (p : Pol) (now : Int) : St := if chk p then ⟨clamp now, 0, 0, []⟩ else zero
def advTm (s : St) (now : Int) : Int := max s.tm (clamp now)
/-- which time t is in -/
def tim (p : Pol) (t : Int) : Int := t / p.period
def adv0 (p : Pol) (s : St) (now : Int) : St := ⟨advTm s now, if tim p (advTm s now) = tim p s.tm then s.level else 0, s.held, []⟩
def adv (p : Pol) (s : St) (now : Int) : St := if right p s then adv0 p s now else zero
def room (p : Pol) (s : St) : Int := p.limit - s.held - s.level
def grt (p : Pol) (s : St) (k : Int) : Int := if k = 1 ∨ k = 2 then room p s else if k = 3 ∨ k = 4 then s.held else 0
def dn (s : St) (k c : Int) : St := if k = 1 then ⟨s.tm, s.level + c, s.held, s.log⟩ else if k = 2 then ⟨s.tm, s.level, s.held + c, s.log⟩ else if k = 3 then ⟨s.tm, s.level, s.held - c, s.log⟩ else ⟨s.tm, s.level + c, s.held - c, s.log⟩
theorem dn_1 (s : St) (c : Int) : dn s 1 c = ⟨s.tm, s.level + c, s.held, s.log⟩ := rfl
theorem dn_2 (s : St) (c : Int) : dn s 2 c = ⟨s.tm, s.level, s.held + c, s.log⟩ := rfl
theorem dn_3 (s : St) (c : Int) : dn s 3 c = ⟨s.tm, s.level, s.held - c, s.log⟩ := rfl
theorem dn_4 (s : St) (c : Int) : dn s 4 c = ⟨s.tm, s.level + c, s.held - c, s.log⟩ := rfl
def act (p : Pol) (s : St) (k now cost : Int) : St × Bool := if right p s then (if wi cost 1 (grt p (adv p s now) k) then (dn (adv p s now) k cost, true) else (s, false)) else (zero, false)
def wt (p : Pol) (s : St) (c : Int) : Int := if c ≤ room p s then 0 else (tim p s.tm + 1) * p.period - s.tm
def roomAt (p : Pol) (s : St) (now : Int) : Int := if right p s then room p (adv p s now) else 0
def waitAt (p : Pol) (s : St) (now cost : Int) : Int := wt p (adv p s now) cost
def untilAt (p : Pol) (s : St) (now : Int) : Int := if right p s then (if s.held > 0 then -1 else waitAt p s now p.limit) else -1
def retryAt (p : Pol) (s : St) (now cost : Int) : Int × Bool := if right p s then (if wi cost 1 (p.limit - s.held) then (waitAt p s now cost, true) else (0, false)) else (0, false)

/- times -/
theorem tim_lo {p : Pol} (t : Int) (h : 1 ≤ p.period) : tim p t * p.period ≤ t := Int.ediv_mul_le t (by omega)
theorem tim_hi {p : Pol} (t : Int) (h : 1 ≤ p.period) : t < (tim p t + 1) * p.period := Int.lt_ediv_add_one_mul_self t (by omega)
theorem tim_of {p : Pol} {t k : Int} (h : 1 ≤ p.period) (h1 : k * p.period ≤ t) (h2 : t < (k + 1) * p.period) : tim p t = k := by
  have a : k ≤ t / p.period := Int.le_ediv_of_mul_le (by omega) h1
  have b : t / p.period < k + 1 := Int.ediv_lt_of_lt_mul (by omega) h2
  unfold tim; omega
theorem tim_mono {p : Pol} {t u : Int} (h : 1 ≤ p.period) (h1 : t ≤ u) : tim p t ≤ tim p u := Int.ediv_le_ediv (by omega) h1
theorem tim_nonneg {p : Pol} {t : Int} (h : 1 ≤ p.period) (h1 : 0 ≤ t) : 0 ≤ tim p t := Int.ediv_nonneg h1 (by omega)
theorem tim_next (p : Pol) (t : Int) : (tim p t + 1) * p.period = tim p t * p.period + p.period := by rw [Int.add_mul, Int.one_mul]
theorem tim_begin (p : Pol) (t : Int) : t - t % p.period = tim p t * p.period := by
  have := Int.mul_ediv_add_emod t p.period
  unfold tim; rw [Int.mul_comm]; omega
theorem tim_le_self {p : Pol} {t : Int} (h1 : 0 ≤ t) : tim p t ≤ t := Int.ediv_le_self _ h1

theorem clamp_id {t : Int} (h : 0 ≤ t) (h2 : t ≤ 9007199254740992) : clamp t = t := clamp_in (by omega) (by omega)
theorem advTm_ge (s : St) (now : Int) : s.tm ≤ advTm s now := by unfold advTm; omega
theorem advTm_at {s : St} {T : Int} (h0 : 0 ≤ s.tm) (h1 : s.tm ≤ T) (h2 : T ≤ 9007199254740992) : advTm s T = T := by
  unfold advTm; rw [clamp_id (by omega) h2]; omega
theorem advTm_past {s : St} {n : Int} (hn : clamp n ≤ s.tm) : advTm s n = s.tm := by unfold advTm; omega
theorem advTm_zero {s : St} (h0 : 0 ≤ s.tm) : advTm s 0 = s.tm := advTm_past (by rw [show clamp 0 = 0 from rfl]; exact h0)
theorem Ok.advTm {p : Pol} {s : St} (h : Ok p s) (now : Int) : 0 ≤ advTm s now ∧ advTm s now ≤ 9007199254740992 := by
  have := clamp_ge now; have := clamp_le now; have := h.tm0; have := h.tm1
  unfold Wn.advTm; omega
theorem adv_eq {p : Pol} {s : St} (h : Ok p s) (now : Int) : adv p s now = adv0 p s now := by unfold adv; rw [if_pos (ok_right h)]
theorem adv0_lev {p : Pol} {s : St} (h : 0 ≤ s.level) (now : Int) : 0 ≤ (adv0 p s now).level ∧ (adv0 p s now).level ≤ s.level := by
  unfold adv0; dsimp only; split <;> omega
theorem Ok.adv {p : Pol} {s : St} (h : Ok p s) (now : Int) : Ok p (adv p s now) := by
  rw [adv_eq h]
  have ht := h.advTm now
  have hl := adv0_lev (p := p) h.lev0 now
  exact ⟨h.chk, ht.1, ht.2, h.held0, h.held1, hl.1, by have := h.lev1; show (adv0 p s now).level ≤ p.limit - s.held; omega, rfl⟩
theorem adv_past {p : Pol} {s : St} (h : Ok p s) {n : Int} (hn : clamp n ≤ s.tm) : adv p s n = s := by
  rw [adv_eq h, adv0, advTm_past hn, if_pos rfl, ← h.log]
theorem adv_self {p : Pol} {s : St} (h : Ok p s) : adv p s s.tm = s := adv_past h (by rw [clamp_id h.tm0 h.tm1]; omega)
theorem adv_zero {p : Pol} {s : St} (h : Ok p s) : adv p s 0 = s := adv_past h (by rw [show clamp 0 = 0 from rfl]; exact h.tm0)
theorem adv_held {p : Pol} {s : St} (h : Ok p s) (n : Int) : (adv p s n).held = s.held := by rw [adv_eq h]; rfl
theorem adv_tm {p : Pol} {s : St} (h : Ok p s) (n : Int) : (adv p s n).tm = advTm s n := by rw [adv_eq h]; rfl
theorem adv_at {p : Pol} {s : St} (h : Ok p s) {T : Int} (h1 : s.tm ≤ T) (h2 : T ≤ 9007199254740992) : adv p s T = ⟨T, if tim p T = tim p s.tm then s.level else 0, s.held, []⟩ := by
  rw [adv_eq h, adv0, advTm_at h.tm0 h1 h2]
theorem adv_len (p : Pol) (s : St) (now : Int) : (adv p s now).log.length ≤ s.log.length := by
  unfold adv; split <;> exact Nat.zero_le _
theorem adv_log (p : Pol) (s : St) (now : Int) : (adv p s now).log = [] := by
  unfold adv; split <;> rfl

/- acts -/
theorem grt_take (p : Pol) (s : St) : grt p s 1 = room p s := by simp [grt]
theorem grt_hold (p : Pol) (s : St) : grt p s 2 = room p s := by simp [grt]
theorem grt_release (p : Pol) (s : St) : grt p s 3 = s.held := by simp [grt]
theorem grt_commit (p : Pol) (s : St) : grt p s 4 = s.held := by simp [grt]
theorem grt_kind {p : Pol} {s : St} {k c : Int} (h : wi c 1 (grt p s k) = true) : k = 1 ∨ k = 2 ∨ k = 3 ∨ k = 4 := by
  have h := wi_yes h
  by_cases h1 : k = 1 ∨ k = 2
  · omega
  · by_cases h2 : k = 3 ∨ k = 4
    · omega
    · unfold grt at h; rw [if_neg h1, if_neg h2] at h; omega
theorem dn_tm (s : St) (k c : Int) : (dn s k c).tm = s.tm := by unfold dn; repeat (first | rfl | split)
theorem dn_log (s : St) (k c : Int) : (dn s k c).log = s.log := by unfold dn; repeat (first | rfl | split)
theorem dn_ok {p : Pol} {t : St} (h : Ok p t) {k cost : Int} (hw : wi cost 1 (grt p t k) = true) : Ok p (dn t k cost) := by
  have hk := grt_kind hw
  have hw := wi_yes hw
  have h1 := h.held0
  have h2 := h.held1
  have h3 := h.lev0
  have h4 := h.lev1
  rcases hk with rfl | rfl | rfl | rfl
  · rw [grt_take, room] at hw
    rw [dn_1]
    exact ⟨h.chk, h.tm0, h.tm1, h.held0, h.held1, by show 0 ≤ t.level + cost; omega, by show t.level + cost ≤ p.limit - t.held; omega, h.log⟩
  · rw [grt_hold, room] at hw
    rw [dn_2]
    exact ⟨h.chk, h.tm0, h.tm1, by show 0 ≤ t.held + cost; omega, by show t.held + cost ≤ p.limit; omega, h.lev0, by show t.level ≤ p.limit - (t.held + cost); omega, h.log⟩
  · rw [grt_release] at hw
    rw [dn_3]
    exact ⟨h.chk, h.tm0, h.tm1, by show 0 ≤ t.held - cost; omega, by show t.held - cost ≤ p.limit; omega, h.lev0, by show t.level ≤ p.limit - (t.held - cost); omega, h.log⟩
  · rw [grt_commit] at hw
    rw [dn_4]
    exact ⟨h.chk, h.tm0, h.tm1, by show 0 ≤ t.held - cost; omega, by show t.held - cost ≤ p.limit; omega, by show 0 ≤ t.level + cost; omega, by show t.level + cost ≤ p.limit - (t.held - cost); omega, h.log⟩
theorem act_yes {p : Pol} {s : St} (h : Ok p s) {k now cost : Int} (hw : wi cost 1 (grt p (adv p s now) k) = true) : act p s k now cost = (dn (adv p s now) k cost, true) := by
  unfold act; rw [if_pos (ok_right h), if_pos hw]
theorem act_no {p : Pol} {s : St} (h : Ok p s) {k now cost : Int} (hw : ¬ wi cost 1 (grt p (adv p s now) k) = true) : act p s k now cost = (s, false) := by
  unfold act; rw [if_pos (ok_right h), if_neg hw]
theorem act_ok {p : Pol} {s : St} (h : Ok p s) (k now cost : Int) : Ok p (act p s k now cost).1 := by
  by_cases hw : wi cost 1 (grt p (adv p s now) k) = true
  · rw [act_yes h hw]; exact dn_ok (h.adv now) hw
  · rw [act_no h hw]; exact h
theorem act_log (p : Pol) (s : St) (k now cost : Int) : (act p s k now cost).1.log = [] := by
  cases h : right p s with
  | true => exact (act_ok (right_ok h) k now cost).log
  | false => unfold act; rw [h]; rfl
theorem act_same {p : Pol} {s : St} (h : Ok p s) {k n c : Int} (hf : (act p s k n c).2 = false) : sameS (act p s k n c).1 s = true := by
  by_cases hw : wi c 1 (grt p (adv p s n) k) = true
  · rw [act_yes h hw] at hf; exact absurd hf (by simp)
  · rw [act_no h hw]; exact sameS_self s
theorem act_past {p : Pol} {t : St} (h : Ok p t) {n k c : Int} (hn : clamp n ≤ t.tm) (hc : 1 ≤ c) (hw : c ≤ grt p t k) : act p t k n c = (dn t k c, true) := by
  have hs := adv_past h hn
  rw [act_yes h (by rw [hs]; exact wi_of hc hw), hs]
theorem act_past_no {p : Pol} {t : St} (h : Ok p t) {n k c : Int} (hn : clamp n ≤ t.tm) (hw : ¬ c ≤ grt p t k) : act p t k n c = (t, false) := by
  have hs := adv_past h hn
  rw [act_no h (by rw [hs]; exact fun h => hw (wi_yes h).2)]
theorem new_log (p : Pol) (now : Int) : (new p now).log = [] := by unfold new; split <;> rfl
theorem ok_new {p : Pol} (h : chk p = true) (now : Int) : Ok p (new p now) := by
  have g := (chk_spec h).2.2.2
  unfold new
  rw [if_pos h]
  exact ⟨h, clamp_ge _, clamp_le _, Int.le_refl _, by show (0 : Int) ≤ p.limit; omega, Int.le_refl _, by show (0 : Int) ≤ p.limit - 0; omega, rfl⟩
def ofP (limit period : Int) : Pol := ⟨4, 1 + limit, 1 + period, 0, 0, false⟩
theorem chk_ofP {a b : Int} (h1 : 0 ≤ a ∧ a < 65536) (h2 : 0 ≤ b ∧ b < 65536) : chk (ofP a b) = true := by
  refine chk_of rfl rfl rfl (wi_of ?_ ?_) (wi_of ?_ ?_)
  all_goals (show _ ≤ (_ : Int))
  all_goals (simp only [ofP]; omega)
/-- acts, one behind the other -/
def run (p : Pol) (s : St) (l : List (Int × Int × Int)) : St := l.foldl (fun s a => (act p s a.1 a.2.1 a.2.2).1) s
theorem run_take (p : Pol) (s : St) (l : List (Int × Int × Int)) (k : Nat) (h : k < l.length) : run p s (l.take (k + 1)) = (act p (run p s (l.take k)) l[k].1 l[k].2.1 l[k].2.2).1 := by
  unfold run
  rw [List.take_succ_eq_append_getElem h, List.foldl_append]
  rfl
theorem run_ok {p : Pol} {s : St} (h : Ok p s) (l : List (Int × Int × Int)) : Ok p (run p s l) := by
  induction l generalizing s with
  | nil => exact h
  | cons a l ih => exact ih (act_ok h a.1 a.2.1 a.2.2)

/- halves -/
theorem halves_cases {p : Pol} {s : St} (h : Ok p s) {x y : Int} (hx : 1 ≤ x) (hy : 1 ≤ y) :
    (∃ sa su sh sc, sa.log.length ≤ 100 ∧ su.log.length ≤ 100 ∧ act p s 1 s.tm (x + y) = (sa, true) ∧ act p s 1 s.tm x = (su, true) ∧ act p su 1 s.tm y = (sa, true) ∧ act p s 2 s.tm (x + y) = (sh, true) ∧ act p sh 4 s.tm x = (sc, true) ∧ act p sc 3 s.tm y = (su, true)) ∨
    (∃ su sv b1 b2, act p s 1 s.tm (x + y) = (s, false) ∧ act p s 1 s.tm x = (su, b1) ∧ act p su 1 s.tm y = (sv, b2) ∧ (b1 && b2) = false ∧ act p s 2 s.tm (x + y) = (s, false)) := by
  have hc : clamp s.tm ≤ s.tm := by rw [clamp_id h.tm0 h.tm1]; omega
  have h0 := h.held0
  by_cases hr : x + y ≤ room p s
  · left
    have e1 := act_past h (k := 1) (c := x + y) hc (by omega) (by rw [grt_take]; exact hr)
    have e2 := act_past h (k := 1) (c := x) hc hx (by rw [grt_take]; omega)
    have e4 := act_past h (k := 2) (c := x + y) hc (by omega) (by rw [grt_hold]; exact hr)
    have hu := dn_ok h (k := 1) (cost := x) (by rw [grt_take]; exact wi_of hx (by omega))
    have hh := dn_ok h (k := 2) (cost := x + y) (by rw [grt_hold]; exact wi_of (by omega) hr)
    have ha := dn_ok h (k := 1) (cost := x + y) (by rw [grt_take]; exact wi_of (by omega) hr)
    have hcm := dn_ok hh (k := 4) (cost := x) (by rw [grt_commit, dn_2]; exact wi_of hx (by show x ≤ s.held + (x + y); omega))
    have e3 := act_past hu (n := s.tm) (k := 1) (c := y) (by rw [dn_tm]; exact hc) hy (by rw [grt_take, dn_1, room]; show y ≤ p.limit - s.held - (s.level + x); unfold room at hr; omega)
    have e5 := act_past hh (n := s.tm) (k := 4) (c := x) (by rw [dn_tm]; exact hc) hx (by rw [grt_commit, dn_2]; show x ≤ s.held + (x + y); omega)
    have e6 := act_past hcm (n := s.tm) (k := 3) (c := y) (by rw [dn_tm, dn_tm]; exact hc) hy (by rw [grt_release, dn_4, dn_2]; show y ≤ s.held + (x + y) - x; omega)
    refine ⟨_, _, _, _, ha.n, hu.n, e1, e2, ?_, e4, e5, ?_⟩
    · rw [e3]
      refine congrArg (·, true) ?_
      rw [dn_1, dn_1, dn_1]
      show (⟨s.tm, s.level + x + y, s.held, s.log⟩ : St) = ⟨s.tm, s.level + (x + y), s.held, s.log⟩
      rw [Int.add_assoc]
    · rw [e6]
      refine congrArg (·, true) ?_
      rw [dn_3, dn_4, dn_2, dn_1]
      show (⟨s.tm, s.level + x, s.held + (x + y) - x - y, s.log⟩ : St) = ⟨s.tm, s.level + x, s.held, s.log⟩
      rw [show s.held + (x + y) - x - y = s.held by omega]
  · right
    have e1 := act_past_no h (k := 1) (c := x + y) hc (by rw [grt_take]; exact hr)
    have e4 := act_past_no h (k := 2) (c := x + y) hc (by rw [grt_hold]; exact hr)
    by_cases hr2 : x ≤ room p s
    · have e2 := act_past h (k := 1) (c := x) hc hx (by rw [grt_take]; exact hr2)
      have hu := dn_ok h (k := 1) (cost := x) (by rw [grt_take]; exact wi_of hx hr2)
      have e3 := act_past_no hu (n := s.tm) (k := 1) (c := y) (by rw [dn_tm]; exact hc) (by rw [grt_take, dn_1, room]; show ¬ y ≤ p.limit - s.held - (s.level + x); unfold room at hr; omega)
      exact ⟨_, _, _, _, e1, e2, e3, rfl, e4⟩
    · have e2 := act_past_no h (k := 1) (c := x) hc (by rw [grt_take]; exact hr2)
      exact ⟨_, _, _, _, e1, e2, rfl, rfl, e4⟩

end Wn
end Go.Proofs.Ytikfjdpkjifcdaa
