/-
  What window.wait answers, in any world.
-/
import Derived.Test.YtljaemiggeeghaaWinRoom
namespace Go.Proofs.Ytljaemiggeeghaa
open Go.RowKit
namespace Wn

/-- how long it lasts till there is room: free: the room now; till: since when it is there; l: the entries that are left -/
def waitl (per cost : Int) : Int → Int → List (Int × Int) → Int
  | _, till, [] => till
  | free, till, e :: l => if free < cost then waitl per cost (free + e.2) (e.1 + per) l else till
theorem waitl_go {per cost free till : Int} {l : List (Int × Int)} {k : Nat} (hk : k < l.length) (h : free < cost) : waitl per cost free till (l.drop k) = waitl per cost (free + l[k].2) (l[k].1 + per) (l.drop (k + 1)) := by
  rw [List.drop_eq_getElem_cons hk, waitl, if_pos h]
theorem waitl_end {per cost free till : Int} {l : List (Int × Int)} {k : Nat} (h : ¬ k < l.length) : waitl per cost free till (l.drop k) = till := by
  rw [List.drop_eq_nil_of_le (by omega), waitl]
theorem waitl_stop {per cost free till : Int} {l : List (Int × Int)} {k : Nat} (hk : k < l.length) (h : ¬ free < cost) : waitl per cost free till (l.drop k) = till := by
  rw [List.drop_eq_getElem_cons hk, waitl, if_neg h]
def waitIs (per cost free0 till0 : Int) (l : List (Int × Int)) (k : Nat) (free till : Int) : Prop := waitl per cost free0 till0 l = waitl per cost free till (l.drop k)

set_option maxHeartbeats 4000000 in
theorem wait_calls (p : Pol) (s : St) (A : Option Addr) (cap : Nat) (cost : Int) (w : World) (hA : Ents w A s.log) (hc : ∀ e ∈ s.log, 1 ≤ e.2) (ht : ∀ e ∈ s.log, 0 ≤ e.1 ∧ e.1 ≤ 9007199254740992) (hm : 0 ≤ s.tm ∧ s.tm ≤ 9007199254740992) (hp : 1 ≤ p.period ∧ p.period ≤ 1099511627776) (hl : tot s.log ≤ 1048576) (h1 : 0 ≤ p.limit) (h2 : p.limit ≤ 1048576) (h3 : 0 ≤ s.held) (h4 : s.held ≤ 1048576) (hn : s.log.length ≤ 1000) :
    Calls Try.prog 39 #[p.val, s.val A s.log.length cap, .int .i64 cost] w fun e w' => e = .returned (.int .i64 (waitl p.period cost (p.limit - s.held - tot s.log) s.tm s.log - s.tm)) ∧ Below w.heap.size w w' := by
  have HA := Lib.hid hA
  have HC := Lib.hid hc
  have HT := Lib.hid ht
  clear hA hc ht
  have g0 := tot_nonneg s.log HC.out
  unfold Pol.val St.val
  go_enter Try.func39, Try.ntmps39
  go_wp2_with fail
  go_step3
  go_wp2_with fail
  refine (room_calls p s A cap _ (HA.out.keep (below_two w p.box (s.box A s.log.length cap))) HC.out hl h1 h2 h3 h4 hn).mono ?_
  rintro e w1 ⟨rfl, hb1⟩
  have d1 : w1.cell? ⟨w.heap.size, 2, none⟩ = some (.int .i64 p.period) := by rw [hb1.cell (by simp; omega)]; simp [Pol.box, go_sem]
  have d2 : w1.cell? ⟨w.heap.size + 1, 0, none⟩ = some (.int .i64 s.tm) := by rw [hb1.cell (by simp)]; simp [St.box, go_sem]
  have d3 : w1.cell? ⟨w.heap.size + 1, 3, none⟩ = some (.slice A s.log.length cap) := by rw [hb1.cell (by simp)]; simp [St.box, go_sem]
  have z1 : w.heap.size + 2 ≤ w1.heap.size := by have := hb1.size; simpa using this
  have HB := Lib.hid hb1
  clear hb1
  go_wp2_with fail
  refine (sum_calls _ _).mono ?_
  rintro e w2 ⟨rfl, rfl⟩
  have z2 : w.heap.size + 1 < w1.heap.size := by omega
  have z3 : w.heap.size < w1.heap.size := by omega
  go_wp2_with fail
  go_step3
  go_wp2_with fail
  go_loopg [7, 9, 22] s.log.length (fun g f till i wr => ∃ (k : Nat) (n u : Int), k ≤ s.log.length ∧ g = s.log.length - k ∧ i = .int .i64 k ∧ f = .int .i64 n ∧ till = .int .i64 u ∧ 0 ≤ u ∧ u ≤ 9008306722504704768 ∧ Hid (n = p.limit - s.held - tot s.log + tot (s.log.take k)) ∧ Hid (waitIs p.period cost (p.limit - s.held - tot s.log) s.tm s.log k n u) ∧ Hid (Cnt w1 w1.heap.size n wr))
  case atStart => exact ⟨0, _, s.tm, Nat.zero_le _, rfl, rfl, rfl, rfl, by omega, by omega, by simp [tot, Hid], rfl, Cnt.start (Below.refl _ _) rfl rfl⟩
  case round =>
    obtain ⟨k, n, u, hk, hg, rfl, rfl, rfl, hu0, hu1, HN, HW, H⟩ := hrel
    have H : Cnt w1 w1.heap.size n wr := H
    have HG := Lib.hid hg
    clear hg
    by_cases hlt : k < s.log.length
    · by_cases hfree : n < cost
      · obtain ⟨a, rfl, c1, c2⟩ := (((HA.out.keep (below_two w p.box (s.box A s.log.length cap))).keep HB.out).keep H.1).at_ hlt
        have e1 : wr.cell? ⟨w.heap.size, 2, none⟩ = some (.int .i64 p.period) := by rw [H.1.cell z3]; exact d1
        have t1 := tot_take s.log k hlt
        have t2 := tot_take_le s.log k HC.out
        have t3 := tot_nonneg (s.log.take k) fun e he => HC.out e (List.mem_of_mem_take he)
        have t4 := tot_take_le s.log (k+1) HC.out
        have t5 := HC.out _ (List.getElem_mem hlt)
        have t6 := HT.out _ (List.getElem_mem hlt)
        have T1 := Lib.hid t1
        have b1 : s.log[k].2 ≤ 1048576 := by omega
        have b2 : -4611686018427387904 ≤ n + s.log[k].2 := by have := HN.out; omega
        have b3 : n + s.log[k].2 ≤ 4611686018427387904 := by have := HN.out; omega
        have z4 := H.2.2.2
        have z5 : w.heap.size < wr.heap.size := by omega
        clear t1 t4
        go_wp2_with fail
        refine (add_cnt (H.alloc _) (Nat.le_refl _) s.log[k].2 b2 b3).mono ?_
        rintro e w2 ⟨rfl, hC, hO, hz⟩
        have q1 : w2.cell? ⟨wr.heap.size, 0, none⟩ = some (.int .i64 s.log[k].1) := by rw [hO _ (by simp; omega)]; simp [go_sem]
        have q2 : w2.cell? ⟨w.heap.size, 2, none⟩ = some (.int .i64 p.period) := by rw [hO _ (by simp; omega), World.cell?_alloc_past _ _ _ z5]; exact e1
        go_wp2_with fail
        go_roundg (gk - 1)
        case rel => exact ⟨k + 1, n + s.log[k].2, s.log[k].1 + p.period, by omega, by have := HG.out; omega, by go_num, rfl, rfl, by omega, by omega, (by show _ = _; rw [T1.out]; have := HN.out; omega), (by show _ = _; rw [show waitl _ _ _ _ _ = _ from HW]; exact waitl_go hlt hfree), hC⟩
        case measure => have := HG.out; omega
      · obtain ⟨a, rfl, c1, c2⟩ := (((HA.out.keep (below_two w p.box (s.box A s.log.length cap))).keep HB.out).keep H.1).at_ hlt
        have e2 : wr.cell? ⟨w.heap.size + 1, 0, none⟩ = some (.int .i64 s.tm) := by rw [H.1.cell z2]; exact d2
        have z4 := H.2.2.2
        have z5 : w.heap.size + 1 < wr.heap.size := by omega
        go_wp2
        try rw [Exit.noGoto_ret]
        go_ret
        exact ⟨ret_int (by rw [show waitl _ _ _ _ _ = _ from HW, waitl_stop hlt (by omega)]), (((below_two w p.box (s.box (some a) s.log.length cap)).trans (HB.out.mono (by simp; omega))).trans ((H.alloc _).1.mono (by omega)))⟩
    · have e2 : wr.cell? ⟨w.heap.size + 1, 0, none⟩ = some (.int .i64 s.tm) := by rw [H.1.cell z2]; exact d2
      go_wp2
      try rw [Exit.noGoto_ret]
      go_ret
      exact ⟨ret_int (by rw [show waitl _ _ _ _ _ = _ from HW, waitl_end hlt]), ((below_two w p.box (s.box A s.log.length cap)).trans (HB.out.mono (by simp; omega))).trans (H.1.mono (by omega))⟩

end Wn
end Go.Proofs.Ytljaemiggeeghaa
