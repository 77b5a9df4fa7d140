/-
  Plain mathematics of waits: a wait is exact.
-/
import Derived.Test.YtljaemiggeeghaaWinHalves
namespace Go.Proofs.Ytljaemiggeeghaa
open Go.RowKit
namespace Wn

theorem rem_rem {per tm T : Int} (h : tm ≤ T) (l : List (Int × Int)) : rem per T (rem per tm l) = rem per T l := by
  induction l with
  | nil => rfl
  | cons e l ih =>
    by_cases h1 : tm - e.1 < per
    · have : rem per tm (e :: l) = e :: l := by unfold rem; rw [List.dropWhile_cons]; simp [h1]
      rw [this]
    · have h2 : ¬ T - e.1 < per := by omega
      have e1 : rem per tm (e :: l) = rem per tm l := by unfold rem; rw [List.dropWhile_cons]; simp [h1]
      have e2 : rem per T (e :: l) = rem per T l := by unfold rem; rw [List.dropWhile_cons]; simp [h2]
      rw [e1, e2, ih]
theorem rem_cons_gone {per T : Int} {e : Int × Int} {l : List (Int × Int)} (h : ¬ T - e.1 < per) : rem per T (e :: l) = rem per T l := by
  unfold rem; rw [List.dropWhile_cons]; simp [h]
theorem rem_cons_here {per T : Int} {e : Int × Int} {l : List (Int × Int)} (h : T - e.1 < per) : rem per T (e :: l) = e :: l := by
  unfold rem; rw [List.dropWhile_cons]; simp [h]

theorem waitl_spec {per c : Int} {l : List (Int × Int)} (hc : ∀ e ∈ l, 1 ≤ e.2) (hs : l.Pairwise fun a b => a.1 ≤ b.1) : ∀ {free till : Int}, (∀ e ∈ l, till ≤ e.1 + per) → c ≤ free + tot l →
    till ≤ waitl per c free till l ∧ c ≤ free + tot l - tot (rem per (waitl per c free till l) l) ∧ (till < waitl per c free till l → free + tot l - tot (rem per (waitl per c free till l - 1) l) < c) := by
  induction l with
  | nil =>
    intro free till _ h
    rw [tot_nil] at h
    simp only [waitl, rem, List.dropWhile_nil, tot_nil]
    omega
  | cons e l ih =>
    intro free till ht h
    have hcl : ∀ x ∈ l, 1 ≤ x.2 := fun x hx => hc x (List.mem_cons_of_mem _ hx)
    rw [List.pairwise_cons] at hs
    rw [tot_cons] at h ⊢
    by_cases hf : free < c
    · have e0 : waitl per c free till (e :: l) = waitl per c (free + e.2) (e.1 + per) l := by rw [waitl, if_pos hf]
      rw [e0]
      have te := ht e (List.mem_cons_self ..)
      obtain ⟨a1, a2, a3⟩ := ih hcl hs.2 (free := free + e.2) (till := e.1 + per) (fun x hx => by have := hs.1 x hx; omega) (by omega)
      refine ⟨by omega, ?_, fun hw => ?_⟩
      · rw [rem_cons_gone (by omega)]; omega
      · by_cases hw2 : e.1 + per < waitl per c (free + e.2) (e.1 + per) l
        · have := a3 hw2
          rw [rem_cons_gone (by omega)]; omega
        · rw [rem_cons_here (by omega), tot_cons]; omega
    · have e0 : waitl per c free till (e :: l) = till := by rw [waitl, if_neg hf]
      rw [e0]
      have h1 := tot_sub (rem_sub per till (e :: l)) hc
      rw [tot_cons] at h1
      omega
theorem waitl_le {per c M : Int} {l : List (Int × Int)} : ∀ {free till : Int}, till ≤ M → (∀ e ∈ l, e.1 + per ≤ M) → waitl per c free till l ≤ M := by
  induction l with
  | nil => intro free till h _; exact h
  | cons e l ih =>
    intro free till h hl
    rw [waitl]
    split
    · exact ih (hl e (List.mem_cons_self ..)) fun x hx => hl x (List.mem_cons_of_mem _ hx)
    · exact h
theorem waitl_room {per c free till : Int} {l : List (Int × Int)} (h : c ≤ free) : waitl per c free till l = till := by
  cases l with
  | nil => rfl
  | cons e l => rw [waitl, if_neg (by omega)]

theorem advTm_at {s : St} {T : Int} (h0 : 0 ≤ s.tm) (h1 : s.tm ≤ T) (h2 : T ≤ 9007199254740992) : advTm s T = T := by
  unfold advTm; rw [clamp_id (by omega) h2]; omega
theorem advTm_zero {s : St} (h0 : 0 ≤ s.tm) : advTm s 0 = s.tm := by unfold advTm; rw [show clamp 0 = 0 from rfl]; omega

/-- what has room some time later, seen from a state's own time -/
theorem wait_spec {p : Pol} {s : St} (h : Ok p s) {c : Int} (hc : c ≤ p.limit - s.held) (ht : s.tm ≤ 4503599627370496) :
    0 ≤ waitAt p s 0 c ∧ waitAt p s 0 c ≤ 1099511627776 ∧ c ≤ room p (adv p s (s.tm + waitAt p s 0 c)) ∧ (0 < waitAt p s 0 c → room p (adv p s (s.tm + waitAt p s 0 c - 1)) < c) := by
  have hp := h.per
  have h0 := h.tm0
  have e0 : adv p s 0 = ⟨s.tm, 0, s.held, rem p.period s.tm s.log⟩ := by rw [adv_eq h, adv0, advTm_zero h0]
  have hok := h.adv 0
  have hfr := adv_fr h 0
  have eW : waitAt p s 0 c = waitl p.period c (room p (adv p s 0)) s.tm (rem p.period s.tm s.log) - s.tm := by unfold waitAt; rw [e0]
  have hsp := waitl_spec (per := p.period) (c := c) (l := (adv p s 0).log) hok.costs hok.sorted (free := room p (adv p s 0)) (till := s.tm) (fun e he => by
    have hx : s.tm - e.1 < p.period := by have := hfr e he; rw [e0] at this; exact this
    omega) (by unfold room; rw [show (adv p s 0).held = s.held by rw [e0]]; omega)
  have hle := waitl_le (per := p.period) (c := c) (M := s.tm + p.period) (l := (adv p s 0).log) (free := room p (adv p s 0)) (till := s.tm) (by omega) (fun e he => by
    have hx : e.1 ≤ s.tm := by have := (hok.ent e he).2.1; rw [e0] at this; exact this
    omega)
  rw [show (adv p s 0).log = rem p.period s.tm s.log by rw [e0]] at hsp hle
  generalize hWd : waitl p.period c (room p (adv p s 0)) s.tm (rem p.period s.tm s.log) = W at *
  obtain ⟨a1, a2, a3⟩ := hsp
  have key : ∀ T, s.tm ≤ T → T ≤ 9007199254740992 → room p (adv p s T) = room p (adv p s 0) + tot (rem p.period s.tm s.log) - tot (rem p.period T (rem p.period s.tm s.log)) := by
    intro T h1 h2
    rw [rem_rem h1]
    have : adv p s T = ⟨T, 0, s.held, rem p.period T s.log⟩ := by rw [adv_eq h, adv0, advTm_at h0 h1 h2]
    rw [this, e0]
    unfold room
    show p.limit - s.held - tot (rem p.period T s.log) = p.limit - s.held - tot (rem p.period s.tm s.log) + tot (rem p.period s.tm s.log) - tot (rem p.period T s.log)
    omega
  rw [eW]
  refine ⟨by omega, by omega, ?_, fun hw => ?_⟩
  · rw [show s.tm + (W - s.tm) = W by omega, key W a1 (by omega)]; exact a2
  · rw [show s.tm + (W - s.tm) - 1 = W - 1 by omega, key (W - 1) (by omega) (by omega)]; exact a3 (by omega)

theorem retry_spec {p : Pol} {s : St} (h : Ok p s) {c : Int} (h1 : 1 ≤ c) (hc : c ≤ p.limit - s.held) (ht : s.tm ≤ 4503599627370496) :
    ∃ r, retryAt p s 0 c = (r, true) ∧ 0 ≤ r ∧ r ≤ 1099511627776 ∧ (∃ st, act p s 1 (s.tm + r) c = (st, true)) ∧ (0 < r → ∃ sx, act p s 1 (s.tm + r - 1) c = (sx, false)) := by
  obtain ⟨a0, a1, a2, a3⟩ := wait_spec h hc ht
  refine ⟨waitAt p s 0 c, ?_, a0, a1, ⟨_, act_yes h (by rw [grt_take]; exact wi_of h1 a2)⟩, fun hr => ⟨_, act_no h (by rw [grt_take]; exact fun hw => by have := (wi_yes hw).2; have := a3 hr; omega)⟩⟩
  unfold retryAt; rw [if_pos (ok_right h), if_pos (wi_of h1 hc)]
theorem retry_none {p : Pol} {s : St} (h : Ok p s) {c : Int} (hc : ¬ c ≤ p.limit - s.held) : retryAt p s 0 c = (0, false) := by
  unfold retryAt; rw [if_pos (ok_right h), if_neg (fun hw => hc (wi_yes hw).2)]
theorem retry_some {p : Pol} {s : St} (h : Ok p s) {c : Int} (h1 : 1 ≤ c) (hc : c ≤ p.limit - s.held) : ∃ r, retryAt p s 0 c = (r, true) := by
  unfold retryAt; rw [if_pos (ok_right h), if_pos (wi_of h1 hc)]; exact ⟨_, rfl⟩

theorem until_held {p : Pol} {s : St} (h : Ok p s) (hh : s.held > 0) (now : Int) : untilAt p s now = -1 := by
  unfold untilAt; rw [if_pos (ok_right h), if_pos hh]
theorem until_spec {p : Pol} {s : St} (h : Ok p s) (hh : ¬ s.held > 0) (ht : s.tm ≤ 4503599627370496) :
    ∃ u, untilAt p s 0 = u ∧ 0 ≤ u ∧ u ≤ 1099511627776 ∧ untilAt p s (s.tm + u) = 0 ∧ (0 < u → ∃ n, untilAt p s (s.tm + u - 1) = n ∧ 0 < n) := by
  have h0 := h.held0
  obtain ⟨a0, a1, a2, a3⟩ := wait_spec h (c := p.limit) (by omega) ht
  have eu : ∀ now, untilAt p s now = waitAt p s now p.limit := fun now => by unfold untilAt; rw [if_pos (ok_right h), if_neg hh]
  have eu0 := eu 0
  generalize waitAt p s 0 p.limit = W at *
  refine ⟨W, eu0, a0, a1, ?_, fun hu => ⟨_, eu _, ?_⟩⟩
  · rw [eu]; unfold waitAt; rw [waitl_room a2]; omega
  · have hlt := a3 hu
    have hok := h.adv (s.tm + W - 1)
    have hfr := adv_fr h (s.tm + W - 1)
    unfold waitAt
    generalize ht' : adv p s (s.tm + W - 1) = t at *
    cases hl : t.log with
    | nil =>
      exfalso
      have hheld : t.held = s.held := by rw [← ht', adv_eq h]; rfl
      unfold room at hlt
      rw [hl, tot_nil] at hlt
      omega
    | cons e l =>
      rw [waitl, if_pos hlt]
      have hs := hok.sorted
      rw [hl, List.pairwise_cons] at hs
      have hc := hok.costs
      have hf := hfr e (by rw [hl]; exact List.mem_cons_self ..)
      have := (waitl_spec (per := p.period) (c := p.limit) (l := l) (fun x hx => hc x (by rw [hl]; exact List.mem_cons_of_mem _ hx)) hs.2 (free := room p t + e.2) (till := e.1 + p.period) (fun x hx => by have := hs.1 x hx; omega) (by
        have hheld : t.held = s.held := by rw [← ht', adv_eq h]; rfl
        unfold room; rw [hl, tot_cons]; omega)).1
      omega

theorem retry_is {p : Pol} {s : St} {now c r : Int} {b : Bool} (he : retryAt p s now c = (r, b)) (B : Nat) (A : Option Addr) (cap : Nat) (w : World) (h : Sl w B A cap s.log) :
    Calls Try.prog 22 #[p.val, s.val A s.log.length cap, .int .i64 now, .int .i64 c] w fun e w' => e = .returned (.tuple #[.int .i64 r, .bool b]) ∧ Below w.heap.size w w' := by
  have := retryAt_calls p s A cap now c w h.ents h.cap; rw [he] at this; exact this
theorem until_is {p : Pol} {s : St} {now u : Int} (he : untilAt p s now = u) (B : Nat) (A : Option Addr) (cap : Nat) (w : World) (h : Sl w B A cap s.log) :
    Calls Try.prog 23 #[p.val, s.val A s.log.length cap, .int .i64 now] w fun e w' => e = .returned (.int .i64 u) ∧ Below w.heap.size w w' := by
  have := untilAt_calls p s A cap now w h.ents h.cap; rw [he] at this; exact this

end Wn
end Go.Proofs.Ytljaemiggeeghaa
