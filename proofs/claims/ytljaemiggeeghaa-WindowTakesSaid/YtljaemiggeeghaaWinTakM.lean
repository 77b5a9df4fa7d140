/-
  Plain mathematics of WindowTakes: with entries enough the log holds just what was taken in the last period.
-/
import Derived.Test.YtljaemiggeeghaaWinEnvM
import Derived.Test.YtljaemiggeeghaaWinRfM
import Derived.Test.YtljaemiggeeghaaWinRfD
namespace Go.Proofs.Ytljaemiggeeghaa
open Go.RowKit
namespace Wn

theorem adv_short (p : Pol) (s : St) (now : Int) : (adv p s now).log.length ≤ s.log.length := by
  unfold adv
  split
  · exact (rem_sub _ _ _).length_le
  · exact Nat.zero_le _
theorem since_putE {p : Pol} {tm c T : Int} {l : List (Int × Int)} (hl : ¬ (l.length : Int) = p.cap) (hT : T ≤ tm) : since T (put p tm l c) = since T l + c := by
  rcases put_cases p tm l c with ⟨k, e, hk, ho, hp⟩ | ⟨hp, _⟩
  · have he : e.1 = tm := ho.resolve_right hl
    rw [hp, hk, since_append, since_append, since_one, since_one, if_pos (show T ≤ (tm, e.2 + c).1 from hT), if_pos (by omega)]
    show since T k + (e.2 + c) = _
    omega
  · rw [hp, since_append, since_one, if_pos (show T ≤ (tm, c).1 from hT)]

/-- the log tells what was taken since whatever time of the last period, no more and no less -/
def RemE (p : Pol) (s : St) (G : List (Int × Int)) : Prop := (∀ T, s.tm - p.period < T → since T G = since T s.log) ∧ ∀ e ∈ G, e.1 ≤ s.tm
theorem remE_new (p : Pol) (now : Int) : RemE p (new p now) [] := by
  refine ⟨fun T _ => ?_, by simp⟩
  rw [new_log]

theorem remE_take {p : Pol} {s : St} (h : Ok p s) {G : List (Int × Int)} (hr : RemE p s G) {n c : Int} (hl : (s.log.length : Int) < p.cap) (ha : (act p s 1 n c).2 = true) :
    RemE p (act p s 1 n c).1 (G ++ [((act p s 1 n c).1.tm, c)]) := by
  by_cases hw : wi c 1 (grt p (adv p s n) 1) = true
  · rw [act_yes h hw, dn_1]
    have hok := h.adv n
    have htm : s.tm ≤ (adv p s n).tm := by rw [adv_tm h]; exact advTm_ge s n
    have hll := adv_short p s n
    refine ⟨fun T hT => ?_, fun e he => ?_⟩
    · show since T (G ++ [((adv p s n).tm, c)]) = since T (put p (adv p s n).tm (adv p s n).log c)
      have hT : (adv p s n).tm - p.period < T := hT
      rw [since_append, since_one]
      have h1 : since T G = since T (adv p s n).log := by
        have e1 : (adv p s n).log = rem p.period (adv p s n).tm s.log := by rw [adv_eq h]; rfl
        rw [e1, since_rem hT]
        exact hr.1 T (by omega)
      by_cases hle : T ≤ (adv p s n).tm
      · rw [if_pos hle, since_putE (by omega) hle]
        show since T G + c = _
        omega
      · rw [if_neg hle, since_later (l := G) (tm := s.tm) hr.2 (by omega), since_later (l := put p (adv p s n).tm (adv p s n).log c) (tm := (adv p s n).tm) (fun e he => by
          rcases put_mem he with hm | ⟨ht, _⟩
          · exact (hok.ent e hm).2.1
          · omega) (by omega)]
        omega
    · rcases List.mem_append.1 he with hm | hm
      · have := hr.2 e hm; show e.1 ≤ (adv p s n).tm; omega
      · obtain rfl := List.mem_singleton.1 hm
        exact Int.le_refl _
  · rw [act_no h hw] at ha; exact absurd ha (by simp)
theorem usedl_since (per T : Int) (l : List (Int × Int)) : usedl per T l = since (T - per + 1) l := by
  unfold usedl since
  rfl
/-- the room, by what was taken in the last period -/
theorem takes_room {p : Pol} {s : St} (h : Ok p s) {G : List (Int × Int)} (hr : RemE p s G) (n : Int) : room p (adv p s n) = p.limit - s.held - usedl p.period (advTm s n) G := by
  have e0 := roomAt_used h n
  unfold roomAt at e0
  rw [if_pos (ok_right h)] at e0
  have := advTm_ge s n
  rw [e0, usedl_since, usedl_since, hr.1 _ (by omega)]
/-- does a taking have room: as what was taken in the last period tells -/
theorem takes_is {p : Pol} {s t : St} {b : Bool} (h : Ok p s) {G : List (Int × Int)} (hr : RemE p s G) {n c : Int} (hh : s.held = 0) (he : act p s 1 n c = (t, b)) (hc : 1 ≤ c) : b = decide (c ≤ p.limit - usedl p.period (advTm s n) G) := by
  have e1 := takes_room h hr n
  by_cases hw : wi c 1 (grt p (adv p s n) 1) = true
  · rw [act_yes h hw] at he
    injection he with _ e2
    have := (wi_yes hw).2
    rw [grt_take] at this
    rw [← e2]
    symm
    rw [decide_eq_true_eq]; omega
  · rw [act_no h hw] at he
    injection he with _ e2
    rw [← e2]
    symm
    rw [decide_eq_false_iff_not]
    intro hx
    exact hw (wi_of hc (by rw [grt_take]; omega))
theorem put_len2 (p : Pol) (tm : Int) (l : List (Int × Int)) (c : Int) : (put p tm l c).length ≤ l.length + 1 := by
  rcases put_cases p tm l c with ⟨k, e, hk, _, hp⟩ | ⟨hp, _⟩
  · rw [hp, hk]; simp
  · rw [hp]; simp
theorem take_held {p : Pol} {s t : St} {b : Bool} (h : Ok p s) {n c : Int} (he : act p s 1 n c = (t, b)) : t.held = s.held ∧ t.log.length ≤ s.log.length + (if b then 1 else 0) := by
  by_cases hw : wi c 1 (grt p (adv p s n) 1) = true
  · rw [act_yes h hw, dn_1] at he
    injection he with e1 e2
    subst e1 e2
    refine ⟨by show (adv p s n).held = _; rw [adv_eq h]; rfl, ?_⟩
    have := put_len2 p (adv p s n).tm (adv p s n).log c
    have := adv_short p s n
    show (put p (adv p s n).tm (adv p s n).log c).length ≤ s.log.length + 1
    omega
  · rw [act_no h hw] at he
    injection he with e1 e2
    subst e1 e2
    exact ⟨rfl, Nat.le_refl _⟩

end Wn
end Go.Proofs.Ytljaemiggeeghaa
