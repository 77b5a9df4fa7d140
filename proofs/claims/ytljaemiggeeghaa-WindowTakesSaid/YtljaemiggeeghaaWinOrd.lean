/-
  What window.orderly answers, in any world.
-/
import Derived.Test.YtljaemiggeeghaaWinRoom
import Derived.Deep.RegionHeld3
import Derived.Deep.DrawnRows
import Derived.BigQuiet
namespace Go.Proofs.Ytljaemiggeeghaa
open Go.RowKit
attribute [local go_sem ↓] Go.wp_at_zero Go.wp_at_succ
namespace Wn






/-- how far orderly has come: b: the last time; n: the costs so far -/
def upto (lim tm : Int) (held : Int) (l : List (Int × Int)) (k : Nat) (b n : Int) : Prop := ordl lim tm 0 held l = ordl lim tm b n (l.drop k)
theorem upto_start (lim tm held : Int) (l : List (Int × Int)) : upto lim tm held l 0 0 held := rfl
theorem upto_step {lim tm held b n : Int} {l : List (Int × Int)} {k : Nat} (h : upto lim tm held l k b n) (hk : k < l.length) (h1 : wi l[k].1 b tm = true) (h2 : wi l[k].2 1 lim = true) (h3 : n + l[k].2 ≤ lim) : upto lim tm held l (k + 1) l[k].1 (n + l[k].2) := by
  unfold upto at *
  rw [h, List.drop_eq_getElem_cons hk, ordl_cons, h1, h2]
  simp [h3]
theorem upto_no {lim tm held b n : Int} {l : List (Int × Int)} {k : Nat} (h : upto lim tm held l k b n) (hk : k < l.length) (h3 : (wi l[k].1 b tm && wi l[k].2 1 lim && decide (n + l[k].2 ≤ lim)) = false) : ordl lim tm 0 held l = false := by
  unfold upto at h
  rw [h, List.drop_eq_getElem_cons hk, ordl_cons, h3, Bool.false_and]
theorem upto_end {lim tm held b n : Int} {l : List (Int × Int)} {k : Nat} (h : upto lim tm held l k b n) (hk : ¬ k < l.length) : ordl lim tm 0 held l = true := by
  unfold upto at h
  rw [h, List.drop_eq_nil_of_le (by omega), ordl_nil]

set_option maxHeartbeats 8000000 in
theorem orderly_calls (p : Pol) (s : St) (A : Option Addr) (cap : Nat) (w : World) (hA : Ents w A s.log) (h2 : p.limit ≤ 1048576) (h3 : 0 ≤ s.held) (h4 : s.held ≤ p.limit) (hn : s.log.length ≤ 1000) :
    Calls Try.prog 40 #[p.val, s.val A s.log.length cap] w fun e w' => e = .returned (.bool (ordl p.limit s.tm 0 s.held s.log)) ∧ Below w.heap.size w w' := by
  have HA := Lib.hid hA
  clear hA
  unfold Pol.val St.val
  go_enter Try.func40, Try.ntmps40
  go_wp2_with fail
  refine (sum_calls _ _).mono ?_
  rintro e w1 ⟨rfl, rfl⟩
  go_wp2_with fail
  go_loopw [6, 15] (fun f i wr => ∃ (k : Nat) (b n : Int), k ≤ s.log.length ∧ i = .int .i64 k ∧ f = .int .i64 b ∧ 0 ≤ n ∧ n ≤ p.limit ∧ Hid (upto p.limit s.tm s.held s.log k b n ∧ Cnt ((w.alloc p.box).alloc (s.box A s.log.length cap)) (w.heap.size + 1 + 1) n wr)) (fun _ i _ => s.log.length - (intOf i).toNat)
  case atStart => exact ⟨0, 0, s.held, Nat.zero_le _, rfl, rfl, by omega, by omega, upto_start _ _ _ _, Cnt.start (Below.refl _ _) (by simp) rfl⟩
  case round =>
    obtain ⟨k, b, n, hk, rfl, rfl, hn0, hn1, H⟩ := hrel
    have H : upto p.limit s.tm s.held s.log k b n ∧ Cnt ((w.alloc p.box).alloc (s.box A s.log.length cap)) (w.heap.size + 1 + 1) n wr := H
    by_cases hlt : k < s.log.length
    · obtain ⟨a, rfl, c1, c2⟩ := ((HA.out.keep (below_two w p.box (s.box A s.log.length cap))).keep H.2.1).at_ hlt
      have d1 : wr.cell? ⟨w.heap.size, 1, none⟩ = some (.int .i64 p.limit) := by rw [H.2.1.cell (by simp; omega)]; simp [Pol.box, go_sem]
      have d2 : wr.cell? ⟨w.heap.size + 1, 0, none⟩ = some (.int .i64 s.tm) := by rw [H.2.1.cell (by simp)]; simp [St.box, go_sem]
      have z := H.2.2.2.2
      have z0 : w.heap.size < wr.heap.size := by omega
      have z1 : w.heap.size + 1 < wr.heap.size := by omega
      cases x1 : wi s.log[k].1 b s.tm with
      | false =>
        have X1 := Lib.hid x1
        clear x1
        go_wp2_with fail
        go_quiet ((go_at_call 27; refine Calls.quiet_of_same (within_q X1.out _)))
        go_wp2
        go_ret
        exact ⟨by rw [upto_no H.1 hlt (by rw [X1.out]; rfl)]; rfl, below_drewN ((below_two _ _ _).trans (((H.2.alloc _).1).mono (by simp; omega))) _⟩
      | true =>
        have X1 := Lib.hid x1
        clear x1
        cases x2 : wi s.log[k].2 1 p.limit with
        | false =>
          have X2 := Lib.hid x2
          clear x2
          go_wp2_with fail
          go_quiet (first | (go_at_call_of 27 (Value.int .i64 s.tm); refine Calls.quiet_of_same (within_q X1.out _)) | (go_at_call_of 27 (Value.int .i64 p.limit); refine Calls.quiet_of_same (within_q X2.out _)))
          go_wp2
          go_ret
          exact ⟨by rw [upto_no H.1 hlt (by rw [X1.out, X2.out]; rfl)]; rfl, below_drewN ((below_two _ _ _).trans (((H.2.alloc _).1).mono (by simp; omega))) _⟩
        | true =>
          have X2 := Lib.hid x2
          have x3 := wi_yes x2
          clear x2
          by_cases h5 : n + s.log[k].2 ≤ p.limit
          · go_wp2_with fail
            go_region_held3 (fun w' => w'.cell? ⟨wr.heap.size, 0, none⟩ = some (.int .i64 s.log[k].1) ∧ w'.cell? ⟨wr.heap.size, 1, none⟩ = some (.int .i64 s.log[k].2) ∧ w'.cell? ⟨w.heap.size + 1, 0, none⟩ = some (.int .i64 s.tm) ∧ w'.cell? ⟨w.heap.size, 1, none⟩ = some (.int .i64 p.limit)) (go_keep) (first | (go_at_call_of 27 (Value.int .i64 s.tm); refine (within_q X1.out _).mono ?_; rintro e w' ⟨rfl, rfl⟩) | (go_at_call_of 27 (Value.int .i64 p.limit); refine (within_q X2.out _).mono ?_; rintro e w' ⟨rfl, rfl⟩) | (go_at_call 46; refine (add_cnt (H.2.alloc _).drew (by simp) s.log[k].2 (by omega) (by omega)).mono ?_; rintro e w' ⟨rfl, hC, hO, hz⟩; have q1 := hO ⟨wr.heap.size, 0, none⟩ (by simp; omega); have q2 := hO ⟨wr.heap.size, 1, none⟩ (by simp; omega); have q3 := hO ⟨w.heap.size + 1, 0, none⟩ (by simp); have q4 := hO ⟨w.heap.size, 1, none⟩ (by simp; omega)))
            go_wp2
            go_roundw
            case rel => exact ⟨k + 1, s.log[k].1, n + s.log[k].2, by omega, by go_num, rfl, by omega, by omega, upto_step H.1 hlt X1.out X2.out h5, hC⟩
            case measure => simp [intOf]; omega
          · go_wp2_with fail
            go_region_held3 (fun w' => w'.cell? ⟨wr.heap.size, 0, none⟩ = some (.int .i64 s.log[k].1) ∧ w'.cell? ⟨wr.heap.size, 1, none⟩ = some (.int .i64 s.log[k].2) ∧ w'.cell? ⟨w.heap.size + 1, 0, none⟩ = some (.int .i64 s.tm) ∧ w'.cell? ⟨w.heap.size, 1, none⟩ = some (.int .i64 p.limit)) (go_keep) (first | (go_at_call_of 27 (Value.int .i64 s.tm); refine (within_q X1.out _).mono ?_; rintro e w' ⟨rfl, rfl⟩) | (go_at_call_of 27 (Value.int .i64 p.limit); refine (within_q X2.out _).mono ?_; rintro e w' ⟨rfl, rfl⟩) | (go_at_call 46; refine (add_cnt (H.2.alloc _).drew (by simp) s.log[k].2 (by omega) (by omega)).mono ?_; rintro e w' ⟨rfl, hC, hO, hz⟩; have q1 := hO ⟨wr.heap.size, 0, none⟩ (by simp; omega); have q2 := hO ⟨wr.heap.size, 1, none⟩ (by simp; omega); have q3 := hO ⟨w.heap.size + 1, 0, none⟩ (by simp); have q4 := hO ⟨w.heap.size, 1, none⟩ (by simp; omega)))
            go_wp2
            go_ret
            exact ⟨by rw [upto_no H.1 hlt (by rw [X1.out, X2.out]; simp; omega)]; rfl, (below_two _ _ _).trans (hC.1.mono (by simp; omega))⟩
    · go_wp2
      go_ret
      exact ⟨by rw [upto_end H.1 hlt]; rfl, (below_two _ _ _).trans (H.2.1.mono (by simp; omega))⟩

end Wn
end Go.Proofs.Ytljaemiggeeghaa
