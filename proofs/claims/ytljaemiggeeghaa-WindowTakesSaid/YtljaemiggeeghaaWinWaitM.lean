/-
  Plain mathematics of time that goes by.
-/
import Derived.Test.YtljaemiggeeghaaWinRetM
namespace Go.Proofs.Ytljaemiggeeghaa
open Go.RowKit
namespace Wn

theorem adv_at {p : Pol} {s : St} (h : Ok p s) {T : Int} (h1 : s.tm ≤ T) (h2 : T ≤ 9007199254740992) : adv p s T = ⟨T, 0, s.held, rem p.period T s.log⟩ := by
  rw [adv_eq h, adv0, advTm_at h.tm0 h1 h2]
theorem waits_spec {p : Pol} {s : St} (h : Ok p s) (ht : s.tm ≤ 4503599627370496) {a b : Int} (ha : 0 ≤ a ∧ a < 4294967296) (hb : 0 ≤ b ∧ b < 4294967296) :
    ∃ u v rx ry, adv p s (s.tm + a) = u ∧ adv p s (s.tm + a + b) = v ∧ adv p u (s.tm + a + b) = v ∧ adv p v (s.tm + a) = v ∧ u.tm = s.tm + a ∧ v.tm = s.tm + a + b ∧
      roomAt p s (s.tm + a + b) = ry ∧ roomAt p s (s.tm + a) = rx ∧ rx ≤ ry ∧ roomAt p u (s.tm + a + b) = ry ∧ right p u = true ∧ u.log.length ≤ 100 ∧ v.log.length ≤ 100 := by
  have h0 := h.tm0
  have eu := adv_at h (T := s.tm + a) (by omega) (by omega)
  have ev := adv_at h (T := s.tm + a + b) (by omega) (by omega)
  have ou : Ok p (adv p s (s.tm + a)) := h.adv _
  have ov : Ok p (adv p s (s.tm + a + b)) := h.adv _
  have fv := adv_fr h (s.tm + a + b)
  have euv : adv p (adv p s (s.tm + a)) (s.tm + a + b) = adv p s (s.tm + a + b) := by
    rw [adv_at ou (by rw [eu]; show s.tm + a ≤ s.tm + a + b; omega) (by omega), ev]
    rw [eu]
    show (⟨s.tm + a + b, 0, s.held, rem p.period (s.tm + a + b) (rem p.period (s.tm + a) s.log)⟩ : St) = _
    rw [rem_rem (by omega)]
  refine ⟨_, _, _, _, rfl, rfl, euv, adv_same ov fv ?_, by rw [eu], by rw [ev], rfl, rfl, ?_, ?_, ok_right ou, ou.n, ov.n⟩
  · rw [clamp_id (by omega) (by omega), ev]; show s.tm + a ≤ s.tm + a + b; omega
  · unfold roomAt; rw [if_pos (ok_right h), if_pos (ok_right h), eu, ev]
    unfold room
    show p.limit - s.held - tot (rem p.period (s.tm + a) s.log) ≤ p.limit - s.held - tot (rem p.period (s.tm + a + b) s.log)
    have hs := tot_sub (rem_sub p.period (s.tm + a + b) (rem p.period (s.tm + a) s.log)) (fun e he => h.costs e ((rem_sub _ _ _).subset he))
    rw [rem_rem (by omega)] at hs
    omega
  · unfold roomAt; rw [if_pos (ok_right ou), if_pos (ok_right h), euv]

theorem Sl.drew {w : World} {B cap : Nat} {A : Option Addr} {l : List (Int × Int)} (h : Sl w B A cap l) : Sl w.drew B A cap l := h
theorem adv_is {p : Pol} {s t : St} {now : Int} (he : adv p s now = t) (B : Nat) (A : Option Addr) (cap : Nat) (w : World) (h : Sl w B A cap s.log) :
    Calls Try.prog 26 #[p.val, s.val A s.log.length cap, .int .i64 now] w fun e w' => ∃ A' cap', e = .returned (t.val A' t.log.length cap') ∧ Sl w' w.heap.size A' cap' t.log ∧ Below w.heap.size w w' :=
  (advance_calls p s A cap now w h.ents h.cap).mono fun e w' ⟨v, hv, ⟨u, hu, ho⟩, hb⟩ => by
    rw [he] at hu ho
    obtain ⟨A', cap', e', hs⟩ := ho.sl
    exact ⟨A', cap', by rw [hv, hu, e'], hs, hb⟩
theorem room_is {p : Pol} {s : St} {now r : Int} (he : roomAt p s now = r) (B : Nat) (A : Option Addr) (cap : Nat) (w : World) (h : Sl w B A cap s.log) :
    Calls Try.prog 25 #[p.val, s.val A s.log.length cap, .int .i64 now] w fun e w' => e = .returned (.int .i64 r) ∧ Below w.heap.size w w' := by
  have := roomAt_calls p s A cap now w h.ents h.cap; rw [he] at this; exact this
theorem right_is {p : Pol} {s : St} (he : right p s = true) (B : Nat) (A : Option Addr) (cap : Nat) (w : World) (h : Sl w B A cap s.log) :
    Calls Try.prog 24 #[p.val, s.val A s.log.length cap] w fun e w' => e = .returned (.bool true) ∧ Below w.heap.size w w' := right_yes he A cap w h.ents

end Wn
end Go.Proofs.Ytljaemiggeeghaa
