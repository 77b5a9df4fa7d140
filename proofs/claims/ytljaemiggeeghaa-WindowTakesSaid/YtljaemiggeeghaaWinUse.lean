/-
  What window.Room, Until and Retry answer, in any world.
-/
import Derived.Test.YtljaemiggeeghaaWinAdv
import Derived.Test.YtljaemiggeeghaaWinWait
namespace Go.Proofs.Ytljaemiggeeghaa
open Go.RowKit
attribute [local go_sem ↓] Go.wp_at_zero Go.wp_at_succ
namespace Wn

theorem rem_sub (per tm : Int) (l : List (Int × Int)) : (rem per tm l).Sublist l := List.dropWhile_sublist _
theorem tot_sub {k l : List (Int × Int)} (h : k.Sublist l) (hl : ∀ e ∈ l, 1 ≤ e.2) : tot k ≤ tot l := by
  induction h with
  | slnil => exact Int.le_refl _
  | cons e _ ih =>
    rw [tot_cons]
    have := ih fun x hx => hl x (List.mem_cons_of_mem _ hx)
    have := hl e (List.mem_cons_self ..)
    omega
  | cons_cons e _ ih =>
    rw [tot_cons, tot_cons]
    have := ih fun x hx => hl x (List.mem_cons_of_mem _ hx)
    omega
theorem advTm_ge (s : St) (now : Int) : s.tm ≤ advTm s now := by unfold advTm; omega
theorem Ok.advTm {p : Pol} {s : St} (h : Ok p s) (now : Int) : 0 ≤ advTm s now ∧ advTm s now ≤ 9007199254740992 := by
  have := clamp_ge now; have := clamp_le now; have := h.tm0; have := h.tm1
  unfold Wn.advTm; omega
theorem Ok.adv0 {p : Pol} {s : St} (h : Ok p s) (now : Int) : Ok p (adv0 p s now) := by
  have hs := rem_sub p.period (Wn.advTm s now) s.log
  have hl := hs.length_le
  have ht := h.advTm now
  refine ⟨h.chk, ht.1, ht.2, h.held0, h.held1, rfl, ?_, fun e he => ?_, ?_, List.Pairwise.sublist hs h.sorted⟩
  · have := h.len; show ((rem p.period (Wn.advTm s now) s.log).length : Int) ≤ _; omega
  · have := h.ent e (hs.subset he)
    have := advTm_ge s now
    show 0 ≤ e.1 ∧ e.1 ≤ Wn.advTm s now ∧ _
    omega
  · have := tot_sub hs h.costs
    have := h.sum
    show s.held + tot (rem p.period (Wn.advTm s now) s.log) ≤ p.limit
    omega
theorem Ok.adv {p : Pol} {s : St} (h : Ok p s) (now : Int) : Ok p (adv p s now) := by
  unfold Wn.adv; rw [if_pos (ok_right h)]; exact h.adv0 now

def roomAt (p : Pol) (s : St) (now : Int) : Int := if right p s then room p (adv p s now) else 0
def waitAt (p : Pol) (s : St) (now cost : Int) : Int := waitl p.period cost (room p (adv p s now)) (adv p s now).tm (adv p s now).log - (adv p s now).tm
def untilAt (p : Pol) (s : St) (now : Int) : Int := if right p s then (if s.held > 0 then -1 else waitAt p s now p.limit) else -1
def retryAt (p : Pol) (s : St) (now cost : Int) : Int × Bool := if right p s then (if wi cost 1 (p.limit - s.held) then (waitAt p s now cost, true) else (0, false)) else (0, false)

set_option maxHeartbeats 8000000 in
theorem roomAt_calls (p : Pol) (s : St) (A : Option Addr) (cap : Nat) (now : Int) (w : World) (hA : Ents w A s.log) (hcap : s.log.length ≤ cap) :
    Calls Try.prog 25 #[p.val, s.val A s.log.length cap, .int .i64 now] w fun e w' => e = .returned (.int .i64 (roomAt p s now)) ∧ Below w.heap.size w w' := by
  have HA := Lib.hid hA
  clear hA
  have HB0 := Lib.hid (below_two w p.box (s.box A s.log.length cap))
  unfold Pol.val St.val
  cases h0 : right p s with
  | false =>
    have E := Lib.hid (show roomAt p s now = 0 by simp [roomAt, h0])
    have H0 := Lib.hid h0
    clear h0
    go_enter Try.func25, Try.ntmps25
    go_wp2_with fail
    refine (right_no H0.out A cap _ (HA.out.keep HB0.out)).mono ?_
    rintro e w1 ⟨rfl, hb1⟩
    have HB1 := Lib.hid hb1
    clear hb1
    go_wp2_with fail
    go_ret
    exact ⟨by rw [E.out]; rfl, HB0.out.trans (HB1.out.mono (by simp; omega))⟩
  | true =>
    have E := Lib.hid (show roomAt p s now = room p (adv p s now) by simp [roomAt, h0])
    have H0 := Lib.hid h0
    have HO := Lib.hid ((right_ok h0).adv now)
    have l1 := HO.out.lim
    have l2 := HO.out.tot1
    have l3 := HO.out.held0
    have l4 := HO.out.held1
    have l5 := HO.out.n
    clear h0
    go_enter Try.func25, Try.ntmps25
    go_wp2_with fail
    refine (right_yes H0.out A cap _ (HA.out.keep HB0.out)).mono ?_
    rintro e w1 ⟨rfl, hb1⟩
    have e0 : w1.cell? ⟨w.heap.size, 0, none⟩ = some (.int .i64 p.kind) := by rw [hb1.cell (by simp; omega)]; simp [go_sem]
    have e1 : w1.cell? ⟨w.heap.size, 1, none⟩ = some (.int .i64 p.limit) := by rw [hb1.cell (by simp; omega)]; simp [go_sem]
    have e2 : w1.cell? ⟨w.heap.size, 2, none⟩ = some (.int .i64 p.period) := by rw [hb1.cell (by simp; omega)]; simp [go_sem]
    have e3 : w1.cell? ⟨w.heap.size, 3, none⟩ = some (.int .i64 p.burst) := by rw [hb1.cell (by simp; omega)]; simp [go_sem]
    have e4 : w1.cell? ⟨w.heap.size, 4, none⟩ = some (.int .i64 p.cap) := by rw [hb1.cell (by simp; omega)]; simp [go_sem]
    have e5 : w1.cell? ⟨w.heap.size, 5, none⟩ = some (.bool p.opn) := by rw [hb1.cell (by simp; omega)]; simp [go_sem]
    have d0 : w1.cell? ⟨w.heap.size + 1, 0, none⟩ = some (.int .i64 s.tm) := by rw [hb1.cell (by simp)]; simp [go_sem]
    have d1 : w1.cell? ⟨w.heap.size + 1, 1, none⟩ = some (.int .i64 s.level) := by rw [hb1.cell (by simp)]; simp [go_sem]
    have d2 : w1.cell? ⟨w.heap.size + 1, 2, none⟩ = some (.int .i64 s.held) := by rw [hb1.cell (by simp)]; simp [go_sem]
    have d3 : w1.cell? ⟨w.heap.size + 1, 3, none⟩ = some (.slice A s.log.length cap) := by rw [hb1.cell (by simp)]; simp [go_sem]
    have z1 : w.heap.size + 1 < w1.heap.size := by have := hb1.size; simp at this; omega
    have zn : ¬ (w.heap.size + 1 = w.heap.size) := by omega
    have HE := Lib.hid ((HA.out.keep HB0.out).keep hb1)
    have HB1 := Lib.hid hb1
    clear hb1
    go_wp2_with fail
    go_region_held3 (fun w' => w'.cell? ⟨w.heap.size, 0, none⟩ = some (.int .i64 p.kind) ∧ w'.cell? ⟨w.heap.size, 1, none⟩ = some (.int .i64 p.limit) ∧ w'.cell? ⟨w.heap.size, 2, none⟩ = some (.int .i64 p.period) ∧ w'.cell? ⟨w.heap.size, 3, none⟩ = some (.int .i64 p.burst) ∧ w'.cell? ⟨w.heap.size, 4, none⟩ = some (.int .i64 p.cap) ∧ w'.cell? ⟨w.heap.size, 5, none⟩ = some (.bool p.opn) ∧ w'.cell? ⟨w.heap.size + 1, 0, none⟩ = some (.int .i64 s.tm) ∧ w'.cell? ⟨w.heap.size + 1, 1, none⟩ = some (.int .i64 s.level) ∧ w'.cell? ⟨w.heap.size + 1, 2, none⟩ = some (.int .i64 s.held) ∧ w'.cell? ⟨w.heap.size + 1, 3, none⟩ = some (.slice A s.log.length cap)) (go_keep) (first | (go_at_call 26; refine (advance_calls p s A cap now _ (HE.out.keep (Below.refl _ _).drew) hcap).mono ?_; rintro e w3 ⟨v, rfl, ⟨u, rfl, ho⟩, hb⟩; obtain ⟨A', c', rfl, hE'⟩ := ho.ents; have hz3 : w1.heap.size ≤ w3.heap.size := hb.size; have f0 := hb.cell (p := ⟨w.heap.size, 0, none⟩) (by simp; omega); have f1 := hb.cell (p := ⟨w.heap.size, 1, none⟩) (by simp; omega); have f2 := hb.cell (p := ⟨w.heap.size, 2, none⟩) (by simp; omega); have f3 := hb.cell (p := ⟨w.heap.size, 3, none⟩) (by simp; omega); have f4 := hb.cell (p := ⟨w.heap.size, 4, none⟩) (by simp; omega); have f5 := hb.cell (p := ⟨w.heap.size, 5, none⟩) (by simp; omega); have fs0 := hb.cell (p := ⟨w.heap.size + 1, 0, none⟩) (by simp; omega); have fs1 := hb.cell (p := ⟨w.heap.size + 1, 1, none⟩) (by simp; omega); have fs2 := hb.cell (p := ⟨w.heap.size + 1, 2, none⟩) (by simp; omega); have fs3 := hb.cell (p := ⟨w.heap.size + 1, 3, none⟩) (by simp; omega)) | (go_at_call 41; refine (room_calls p (adv p s now) A' c' _ hE' HO.out.costs l2 (by omega) (by omega) l3 (by omega) (by omega)).mono ?_; rintro e w4 ⟨rfl, hb4⟩; have g0 := hb4.cell (p := ⟨w.heap.size, 0, none⟩) (by simp; omega); have g1 := hb4.cell (p := ⟨w.heap.size, 1, none⟩) (by simp; omega); have g2 := hb4.cell (p := ⟨w.heap.size, 2, none⟩) (by simp; omega); have g3 := hb4.cell (p := ⟨w.heap.size, 3, none⟩) (by simp; omega); have g4 := hb4.cell (p := ⟨w.heap.size, 4, none⟩) (by simp; omega); have g5 := hb4.cell (p := ⟨w.heap.size, 5, none⟩) (by simp; omega); have gs0 := hb4.cell (p := ⟨w.heap.size + 1, 0, none⟩) (by simp; omega); have gs1 := hb4.cell (p := ⟨w.heap.size + 1, 1, none⟩) (by simp; omega); have gs2 := hb4.cell (p := ⟨w.heap.size + 1, 2, none⟩) (by simp; omega); have gs3 := hb4.cell (p := ⟨w.heap.size + 1, 3, none⟩) (by simp; omega)))
    go_wp2
    go_ret
    exact ⟨by rw [E.out]; rfl, ((HB0.out.trans (HB1.out.mono (by simp; omega))).trans (((Below.refl _ _).drew.trans (hb.mono (by simp; omega))))).trans (hb4.mono (by omega))⟩

set_option maxHeartbeats 8000000 in
theorem untilAt_calls (p : Pol) (s : St) (A : Option Addr) (cap : Nat) (now : Int) (w : World) (hA : Ents w A s.log) (hcap : s.log.length ≤ cap) :
    Calls Try.prog 23 #[p.val, s.val A s.log.length cap, .int .i64 now] w fun e w' => e = .returned (.int .i64 (untilAt p s now)) ∧ Below w.heap.size w w' := by
  have HA := Lib.hid hA
  clear hA
  have HB0 := Lib.hid (below_two w p.box (s.box A s.log.length cap))
  unfold Pol.val St.val
  cases h0 : right p s with
  | false =>
    have E := Lib.hid (show untilAt p s now = -1 by simp [untilAt, h0])
    have H0 := Lib.hid h0
    clear h0
    go_enter Try.func23, Try.ntmps23
    go_wp2_with fail
    refine (right_no H0.out A cap _ (HA.out.keep HB0.out)).mono ?_
    rintro e w1 ⟨rfl, hb1⟩
    have HB1 := Lib.hid hb1
    clear hb1
    go_wp2_with fail
    go_ret
    exact ⟨by rw [E.out]; rfl, HB0.out.trans (HB1.out.mono (by simp; omega))⟩
  | true =>
    have H0 := Lib.hid h0
    have HO := Lib.hid ((right_ok h0).adv now)
    have l1 := HO.out.lim
    have l2 := HO.out.tot1
    have l3 := HO.out.held0
    have l4 := HO.out.held1
    have l5 := HO.out.n
    by_cases hh : s.held > 0
    · have E := Lib.hid (show untilAt p s now = -1 by simp [untilAt, h0, hh])
      clear h0
      go_enter Try.func23, Try.ntmps23
      go_wp2_with fail
      refine (right_yes H0.out A cap _ (HA.out.keep HB0.out)).mono ?_
      rintro e w1 ⟨rfl, hb1⟩
      have e0 : w1.cell? ⟨w.heap.size, 0, none⟩ = some (.int .i64 p.kind) := by rw [hb1.cell (by simp; omega)]; simp [go_sem]
      have e1 : w1.cell? ⟨w.heap.size, 1, none⟩ = some (.int .i64 p.limit) := by rw [hb1.cell (by simp; omega)]; simp [go_sem]
      have e2 : w1.cell? ⟨w.heap.size, 2, none⟩ = some (.int .i64 p.period) := by rw [hb1.cell (by simp; omega)]; simp [go_sem]
      have e3 : w1.cell? ⟨w.heap.size, 3, none⟩ = some (.int .i64 p.burst) := by rw [hb1.cell (by simp; omega)]; simp [go_sem]
      have e4 : w1.cell? ⟨w.heap.size, 4, none⟩ = some (.int .i64 p.cap) := by rw [hb1.cell (by simp; omega)]; simp [go_sem]
      have e5 : w1.cell? ⟨w.heap.size, 5, none⟩ = some (.bool p.opn) := by rw [hb1.cell (by simp; omega)]; simp [go_sem]
      have d0 : w1.cell? ⟨w.heap.size + 1, 0, none⟩ = some (.int .i64 s.tm) := by rw [hb1.cell (by simp)]; simp [go_sem]
      have d1 : w1.cell? ⟨w.heap.size + 1, 1, none⟩ = some (.int .i64 s.level) := by rw [hb1.cell (by simp)]; simp [go_sem]
      have d2 : w1.cell? ⟨w.heap.size + 1, 2, none⟩ = some (.int .i64 s.held) := by rw [hb1.cell (by simp)]; simp [go_sem]
      have d3 : w1.cell? ⟨w.heap.size + 1, 3, none⟩ = some (.slice A s.log.length cap) := by rw [hb1.cell (by simp)]; simp [go_sem]
      have z1 : w.heap.size + 1 < w1.heap.size := by have := hb1.size; simp at this; omega
      have zn : ¬ (w.heap.size + 1 = w.heap.size) := by omega
      have HE := Lib.hid ((HA.out.keep HB0.out).keep hb1)
      have HB1 := Lib.hid hb1
      clear hb1
      go_wp2
      go_ret
      exact ⟨by rw [E.out]; rfl, HB0.out.trans (HB1.out.mono (by simp; omega))⟩
    · have E := Lib.hid (show untilAt p s now = waitAt p s now p.limit by simp [untilAt, h0]; intro h; omega)
      clear h0
      go_enter Try.func23, Try.ntmps23
      go_wp2_with fail
      refine (right_yes H0.out A cap _ (HA.out.keep HB0.out)).mono ?_
      rintro e w1 ⟨rfl, hb1⟩
      have e0 : w1.cell? ⟨w.heap.size, 0, none⟩ = some (.int .i64 p.kind) := by rw [hb1.cell (by simp; omega)]; simp [go_sem]
      have e1 : w1.cell? ⟨w.heap.size, 1, none⟩ = some (.int .i64 p.limit) := by rw [hb1.cell (by simp; omega)]; simp [go_sem]
      have e2 : w1.cell? ⟨w.heap.size, 2, none⟩ = some (.int .i64 p.period) := by rw [hb1.cell (by simp; omega)]; simp [go_sem]
      have e3 : w1.cell? ⟨w.heap.size, 3, none⟩ = some (.int .i64 p.burst) := by rw [hb1.cell (by simp; omega)]; simp [go_sem]
      have e4 : w1.cell? ⟨w.heap.size, 4, none⟩ = some (.int .i64 p.cap) := by rw [hb1.cell (by simp; omega)]; simp [go_sem]
      have e5 : w1.cell? ⟨w.heap.size, 5, none⟩ = some (.bool p.opn) := by rw [hb1.cell (by simp; omega)]; simp [go_sem]
      have d0 : w1.cell? ⟨w.heap.size + 1, 0, none⟩ = some (.int .i64 s.tm) := by rw [hb1.cell (by simp)]; simp [go_sem]
      have d1 : w1.cell? ⟨w.heap.size + 1, 1, none⟩ = some (.int .i64 s.level) := by rw [hb1.cell (by simp)]; simp [go_sem]
      have d2 : w1.cell? ⟨w.heap.size + 1, 2, none⟩ = some (.int .i64 s.held) := by rw [hb1.cell (by simp)]; simp [go_sem]
      have d3 : w1.cell? ⟨w.heap.size + 1, 3, none⟩ = some (.slice A s.log.length cap) := by rw [hb1.cell (by simp)]; simp [go_sem]
      have z1 : w.heap.size + 1 < w1.heap.size := by have := hb1.size; simp at this; omega
      have zn : ¬ (w.heap.size + 1 = w.heap.size) := by omega
      have HE := Lib.hid ((HA.out.keep HB0.out).keep hb1)
      have HB1 := Lib.hid hb1
      clear hb1
      go_wp2_with fail
      go_region_held3 (fun w' => w'.cell? ⟨w.heap.size, 0, none⟩ = some (.int .i64 p.kind) ∧ w'.cell? ⟨w.heap.size, 1, none⟩ = some (.int .i64 p.limit) ∧ w'.cell? ⟨w.heap.size, 2, none⟩ = some (.int .i64 p.period) ∧ w'.cell? ⟨w.heap.size, 3, none⟩ = some (.int .i64 p.burst) ∧ w'.cell? ⟨w.heap.size, 4, none⟩ = some (.int .i64 p.cap) ∧ w'.cell? ⟨w.heap.size, 5, none⟩ = some (.bool p.opn) ∧ w'.cell? ⟨w.heap.size + 1, 0, none⟩ = some (.int .i64 s.tm) ∧ w'.cell? ⟨w.heap.size + 1, 1, none⟩ = some (.int .i64 s.level) ∧ w'.cell? ⟨w.heap.size + 1, 2, none⟩ = some (.int .i64 s.held) ∧ w'.cell? ⟨w.heap.size + 1, 3, none⟩ = some (.slice A s.log.length cap)) (go_keep) (first | (go_at_call 26; refine (advance_calls p s A cap now _ (HE.out.keep (Below.refl _ _).drew) hcap).mono ?_; rintro e w3 ⟨v, rfl, ⟨u, rfl, ho⟩, hb⟩; obtain ⟨A', c', rfl, hE'⟩ := ho.ents; have hz3 : w1.heap.size ≤ w3.heap.size := hb.size; have f0 := hb.cell (p := ⟨w.heap.size, 0, none⟩) (by simp; omega); have f1 := hb.cell (p := ⟨w.heap.size, 1, none⟩) (by simp; omega); have f2 := hb.cell (p := ⟨w.heap.size, 2, none⟩) (by simp; omega); have f3 := hb.cell (p := ⟨w.heap.size, 3, none⟩) (by simp; omega); have f4 := hb.cell (p := ⟨w.heap.size, 4, none⟩) (by simp; omega); have f5 := hb.cell (p := ⟨w.heap.size, 5, none⟩) (by simp; omega); have fs0 := hb.cell (p := ⟨w.heap.size + 1, 0, none⟩) (by simp; omega); have fs1 := hb.cell (p := ⟨w.heap.size + 1, 1, none⟩) (by simp; omega); have fs2 := hb.cell (p := ⟨w.heap.size + 1, 2, none⟩) (by simp; omega); have fs3 := hb.cell (p := ⟨w.heap.size + 1, 3, none⟩) (by simp; omega)) | (go_at_call 39; refine (wait_calls p (adv p s now) A' c' p.limit _ hE' HO.out.costs HO.out.times ⟨HO.out.tm0, HO.out.tm1⟩ HO.out.per l2 (by omega) (by omega) l3 (by omega) (by omega)).mono ?_; rintro e w4 ⟨rfl, hb4⟩; have g0 := hb4.cell (p := ⟨w.heap.size, 0, none⟩) (by simp; omega); have g1 := hb4.cell (p := ⟨w.heap.size, 1, none⟩) (by simp; omega); have g2 := hb4.cell (p := ⟨w.heap.size, 2, none⟩) (by simp; omega); have g3 := hb4.cell (p := ⟨w.heap.size, 3, none⟩) (by simp; omega); have g4 := hb4.cell (p := ⟨w.heap.size, 4, none⟩) (by simp; omega); have g5 := hb4.cell (p := ⟨w.heap.size, 5, none⟩) (by simp; omega); have gs0 := hb4.cell (p := ⟨w.heap.size + 1, 0, none⟩) (by simp; omega); have gs1 := hb4.cell (p := ⟨w.heap.size + 1, 1, none⟩) (by simp; omega); have gs2 := hb4.cell (p := ⟨w.heap.size + 1, 2, none⟩) (by simp; omega); have gs3 := hb4.cell (p := ⟨w.heap.size + 1, 3, none⟩) (by simp; omega)))
      go_wp2
      go_ret
      exact ⟨by rw [E.out]; rfl, ((HB0.out.trans (HB1.out.mono (by simp; omega))).trans (((Below.refl _ _).drew.trans (hb.mono (by simp; omega))))).trans (hb4.mono (by omega))⟩

set_option maxHeartbeats 8000000 in
theorem retryAt_calls (p : Pol) (s : St) (A : Option Addr) (cap : Nat) (now cost : Int) (w : World) (hA : Ents w A s.log) (hcap : s.log.length ≤ cap) :
    Calls Try.prog 22 #[p.val, s.val A s.log.length cap, .int .i64 now, .int .i64 cost] w fun e w' => e = .returned (.tuple #[.int .i64 (retryAt p s now cost).1, .bool (retryAt p s now cost).2]) ∧ Below w.heap.size w w' := by
  have HA := Lib.hid hA
  clear hA
  have HB0 := Lib.hid (below_two w p.box (s.box A s.log.length cap))
  unfold Pol.val St.val
  cases h0 : right p s with
  | false =>
    have E := Lib.hid (show retryAt p s now cost = (0, false) by simp [retryAt, h0])
    have H0 := Lib.hid h0
    clear h0
    go_enter Try.func22, Try.ntmps22
    go_wp2_with fail
    refine (right_no H0.out A cap _ (HA.out.keep HB0.out)).mono ?_
    rintro e w1 ⟨rfl, hb1⟩
    have HB1 := Lib.hid hb1
    clear hb1
    go_wp2_with fail
    go_ret2
    exact ⟨by rw [E.out]; rfl, HB0.out.trans (HB1.out.mono (by simp; omega))⟩
  | true =>
    have H0 := Lib.hid h0
    have HO := Lib.hid ((right_ok h0).adv now)
    have l1 := HO.out.lim
    have l2 := HO.out.tot1
    have l3 := HO.out.held0
    have l4 := HO.out.held1
    have l5 := HO.out.n
    have l6 := (right_ok h0).held0
    have l7 := (right_ok h0).held1
    cases hh : wi cost 1 (p.limit - s.held) with
    | false =>
      have E := Lib.hid (show retryAt p s now cost = (0, false) by simp [retryAt, h0, hh])
      have HH := Lib.hid hh
      clear h0 hh
      go_enter Try.func22, Try.ntmps22
      go_wp2_with fail
      refine (right_yes H0.out A cap _ (HA.out.keep HB0.out)).mono ?_
      rintro e w1 ⟨rfl, hb1⟩
      have e0 : w1.cell? ⟨w.heap.size, 0, none⟩ = some (.int .i64 p.kind) := by rw [hb1.cell (by simp; omega)]; simp [go_sem]
      have e1 : w1.cell? ⟨w.heap.size, 1, none⟩ = some (.int .i64 p.limit) := by rw [hb1.cell (by simp; omega)]; simp [go_sem]
      have e2 : w1.cell? ⟨w.heap.size, 2, none⟩ = some (.int .i64 p.period) := by rw [hb1.cell (by simp; omega)]; simp [go_sem]
      have e3 : w1.cell? ⟨w.heap.size, 3, none⟩ = some (.int .i64 p.burst) := by rw [hb1.cell (by simp; omega)]; simp [go_sem]
      have e4 : w1.cell? ⟨w.heap.size, 4, none⟩ = some (.int .i64 p.cap) := by rw [hb1.cell (by simp; omega)]; simp [go_sem]
      have e5 : w1.cell? ⟨w.heap.size, 5, none⟩ = some (.bool p.opn) := by rw [hb1.cell (by simp; omega)]; simp [go_sem]
      have d0 : w1.cell? ⟨w.heap.size + 1, 0, none⟩ = some (.int .i64 s.tm) := by rw [hb1.cell (by simp)]; simp [go_sem]
      have d1 : w1.cell? ⟨w.heap.size + 1, 1, none⟩ = some (.int .i64 s.level) := by rw [hb1.cell (by simp)]; simp [go_sem]
      have d2 : w1.cell? ⟨w.heap.size + 1, 2, none⟩ = some (.int .i64 s.held) := by rw [hb1.cell (by simp)]; simp [go_sem]
      have d3 : w1.cell? ⟨w.heap.size + 1, 3, none⟩ = some (.slice A s.log.length cap) := by rw [hb1.cell (by simp)]; simp [go_sem]
      have z1 : w.heap.size + 1 < w1.heap.size := by have := hb1.size; simp at this; omega
      have zn : ¬ (w.heap.size + 1 = w.heap.size) := by omega
      have HE := Lib.hid ((HA.out.keep HB0.out).keep hb1)
      have HB1 := Lib.hid hb1
      clear hb1
      go_wp2_with fail
      refine (within_is HH.out _).mono ?_
      rintro e w2 ⟨rfl, rfl⟩
      go_wp2_with fail
      go_ret2
      exact ⟨by rw [E.out]; rfl, HB0.out.trans (HB1.out.mono (by simp; omega))⟩
    | true =>
      have E := Lib.hid (show retryAt p s now cost = (waitAt p s now cost, true) by simp [retryAt, h0, hh])
      have HH := Lib.hid hh
      clear h0 hh
      go_enter Try.func22, Try.ntmps22
      go_wp2_with fail
      refine (right_yes H0.out A cap _ (HA.out.keep HB0.out)).mono ?_
      rintro e w1 ⟨rfl, hb1⟩
      have e0 : w1.cell? ⟨w.heap.size, 0, none⟩ = some (.int .i64 p.kind) := by rw [hb1.cell (by simp; omega)]; simp [go_sem]
      have e1 : w1.cell? ⟨w.heap.size, 1, none⟩ = some (.int .i64 p.limit) := by rw [hb1.cell (by simp; omega)]; simp [go_sem]
      have e2 : w1.cell? ⟨w.heap.size, 2, none⟩ = some (.int .i64 p.period) := by rw [hb1.cell (by simp; omega)]; simp [go_sem]
      have e3 : w1.cell? ⟨w.heap.size, 3, none⟩ = some (.int .i64 p.burst) := by rw [hb1.cell (by simp; omega)]; simp [go_sem]
      have e4 : w1.cell? ⟨w.heap.size, 4, none⟩ = some (.int .i64 p.cap) := by rw [hb1.cell (by simp; omega)]; simp [go_sem]
      have e5 : w1.cell? ⟨w.heap.size, 5, none⟩ = some (.bool p.opn) := by rw [hb1.cell (by simp; omega)]; simp [go_sem]
      have d0 : w1.cell? ⟨w.heap.size + 1, 0, none⟩ = some (.int .i64 s.tm) := by rw [hb1.cell (by simp)]; simp [go_sem]
      have d1 : w1.cell? ⟨w.heap.size + 1, 1, none⟩ = some (.int .i64 s.level) := by rw [hb1.cell (by simp)]; simp [go_sem]
      have d2 : w1.cell? ⟨w.heap.size + 1, 2, none⟩ = some (.int .i64 s.held) := by rw [hb1.cell (by simp)]; simp [go_sem]
      have d3 : w1.cell? ⟨w.heap.size + 1, 3, none⟩ = some (.slice A s.log.length cap) := by rw [hb1.cell (by simp)]; simp [go_sem]
      have z1 : w.heap.size + 1 < w1.heap.size := by have := hb1.size; simp at this; omega
      have zn : ¬ (w.heap.size + 1 = w.heap.size) := by omega
      have HE := Lib.hid ((HA.out.keep HB0.out).keep hb1)
      have HB1 := Lib.hid hb1
      clear hb1
      go_wp2_with fail
      refine (within_is HH.out _).mono ?_
      rintro e w2 ⟨rfl, rfl⟩
      go_wp2_with fail
      go_region_held3 (fun w' => w'.cell? ⟨w.heap.size, 0, none⟩ = some (.int .i64 p.kind) ∧ w'.cell? ⟨w.heap.size, 1, none⟩ = some (.int .i64 p.limit) ∧ w'.cell? ⟨w.heap.size, 2, none⟩ = some (.int .i64 p.period) ∧ w'.cell? ⟨w.heap.size, 3, none⟩ = some (.int .i64 p.burst) ∧ w'.cell? ⟨w.heap.size, 4, none⟩ = some (.int .i64 p.cap) ∧ w'.cell? ⟨w.heap.size, 5, none⟩ = some (.bool p.opn) ∧ w'.cell? ⟨w.heap.size + 1, 0, none⟩ = some (.int .i64 s.tm) ∧ w'.cell? ⟨w.heap.size + 1, 1, none⟩ = some (.int .i64 s.level) ∧ w'.cell? ⟨w.heap.size + 1, 2, none⟩ = some (.int .i64 s.held) ∧ w'.cell? ⟨w.heap.size + 1, 3, none⟩ = some (.slice A s.log.length cap)) (go_keep) (first | (go_at_call 26; refine (advance_calls p s A cap now _ (HE.out.keep (Below.refl _ _).drew) hcap).mono ?_; rintro e w3 ⟨v, rfl, ⟨u, rfl, ho⟩, hb⟩; obtain ⟨A', c', rfl, hE'⟩ := ho.ents; have hz3 : w1.heap.size ≤ w3.heap.size := hb.size; have f0 := hb.cell (p := ⟨w.heap.size, 0, none⟩) (by simp; omega); have f1 := hb.cell (p := ⟨w.heap.size, 1, none⟩) (by simp; omega); have f2 := hb.cell (p := ⟨w.heap.size, 2, none⟩) (by simp; omega); have f3 := hb.cell (p := ⟨w.heap.size, 3, none⟩) (by simp; omega); have f4 := hb.cell (p := ⟨w.heap.size, 4, none⟩) (by simp; omega); have f5 := hb.cell (p := ⟨w.heap.size, 5, none⟩) (by simp; omega); have fs0 := hb.cell (p := ⟨w.heap.size + 1, 0, none⟩) (by simp; omega); have fs1 := hb.cell (p := ⟨w.heap.size + 1, 1, none⟩) (by simp; omega); have fs2 := hb.cell (p := ⟨w.heap.size + 1, 2, none⟩) (by simp; omega); have fs3 := hb.cell (p := ⟨w.heap.size + 1, 3, none⟩) (by simp; omega)) | (go_at_call 39; refine (wait_calls p (adv p s now) A' c' cost _ hE' HO.out.costs HO.out.times ⟨HO.out.tm0, HO.out.tm1⟩ HO.out.per l2 (by omega) (by omega) l3 (by omega) (by omega)).mono ?_; rintro e w4 ⟨rfl, hb4⟩; have g0 := hb4.cell (p := ⟨w.heap.size, 0, none⟩) (by simp; omega); have g1 := hb4.cell (p := ⟨w.heap.size, 1, none⟩) (by simp; omega); have g2 := hb4.cell (p := ⟨w.heap.size, 2, none⟩) (by simp; omega); have g3 := hb4.cell (p := ⟨w.heap.size, 3, none⟩) (by simp; omega); have g4 := hb4.cell (p := ⟨w.heap.size, 4, none⟩) (by simp; omega); have g5 := hb4.cell (p := ⟨w.heap.size, 5, none⟩) (by simp; omega); have gs0 := hb4.cell (p := ⟨w.heap.size + 1, 0, none⟩) (by simp; omega); have gs1 := hb4.cell (p := ⟨w.heap.size + 1, 1, none⟩) (by simp; omega); have gs2 := hb4.cell (p := ⟨w.heap.size + 1, 2, none⟩) (by simp; omega); have gs3 := hb4.cell (p := ⟨w.heap.size + 1, 3, none⟩) (by simp; omega)))
      go_wp2
      go_ret2
      exact ⟨by rw [E.out]; rfl, ((HB0.out.trans (HB1.out.mono (by simp; omega))).trans (((Below.refl _ _).drew.trans (hb.mono (by simp; omega))))).trans (hb4.mono (by omega))⟩

end Wn
end Go.Proofs.Ytljaemiggeeghaa
