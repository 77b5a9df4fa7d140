/-
  What window.done answers, in any world.
-/
import Derived.Test.YtljaemiggeeghaaWinLog
namespace Go.Proofs.Ytljaemiggeeghaa
open Go.RowKit
namespace Wn

/-- what an act makes of a state -/
def dn (p : Pol) (s : St) (k cost : Int) : St :=
  if k = 1 then { s with log := put p s.tm s.log cost } else if k = 2 then { s with held := s.held + cost } else if k = 3 then { s with held := s.held - cost }
  else if k = 4 then { s with held := s.held - cost, log := put p s.tm s.log cost } else s
abbrev acells (k n c : Int) : Array Value := #[.int .i64 k, .int .i64 n, .int .i64 c]

theorem dn_1 (p : Pol) (s : St) (cost : Int) : dn p s 1 cost = { s with log := put p s.tm s.log cost } := by simp [dn]
theorem dn_2 (p : Pol) (s : St) (cost : Int) : dn p s 2 cost = { s with held := s.held + cost } := by simp [dn]
theorem dn_3 (p : Pol) (s : St) (cost : Int) : dn p s 3 cost = { s with held := s.held - cost } := by simp [dn]
theorem dn_4 (p : Pol) (s : St) (cost : Int) : dn p s 4 cost = { s with held := s.held - cost, log := put p s.tm s.log cost } := by simp [dn]
theorem Own.setOther {w : World} {B b : Nat} {v : Value} {l : List (Int × Int)} {c : Array Value} {fr : Nat × Nat} (h : Own w B v l) (hb : w.heap[b]? = some (.cells c 32 fr)) (j : Nat) (u : Value) : Own (w.setCell ⟨b, j, none⟩ u) B v l := by
  refine ⟨h.1, ?_⟩
  rcases h.2 with h2 | ⟨g, cap, cur, hv, hbg, hg, r⟩
  · exact .inl h2
  · refine .inr ⟨g, cap, cur, hv, hbg, ?_, r⟩
    have hne : g ≠ b := fun e => by
      subst e
      rw [hg] at hb
      injection hb with hb
      injection hb with _ h2 _
      exact absurd h2 (by decide)
    rw [Below.heap_setCell _ _ _ _ hne]; exact hg
theorem Own.setOther4 {w : World} {B b : Nat} {v : Value} {l : List (Int × Int)} {x y z u : Value} (h : Own w B v l) (hb : w.heap[b]? = some (.cells #[x, y, z, u] 32 (0, 0))) (a c d f : Value) : Own ((((w.setCell ⟨b, 0, none⟩ a).setCell ⟨b, 1, none⟩ c).setCell ⟨b, 2, none⟩ d).setCell ⟨b, 3, none⟩ f) B v l := by
  have h1 := heap_setCell_same _ _ 0 _ _ a hb
  have h2 := heap_setCell_same _ _ 1 _ _ c h1
  have h3 := heap_setCell_same _ _ 2 _ _ d h2
  exact (((h.setOther hb 0 a).setOther h1 1 c).setOther h2 2 d).setOther h3 3 f

theorem below_four (w : World) (o o' o'' o3 : Obj) : Below w.heap.size w ((((w.alloc o).alloc o').alloc o'').alloc o3) := (below_three w o o' o'').alloc (by simp <;> omega) _
theorem heap_alloc4 (w : World) (A B C D : Obj) : ((((w.alloc A).alloc B).alloc C).alloc D).heap[w.heap.size + 1 + 1 + 1]? = some D ∧ ((((w.alloc A).alloc B).alloc C).alloc D).heap[w.heap.size + 1]? = some B := by
  refine ⟨by simpa using heap_alloc3_new (w.alloc A) B C D, ?_⟩
  rw [heap_alloc_old _ _ (by simp <;> omega), heap_alloc_old _ _ (by simp <;> omega)]
  exact heap_alloc2_new _ _ _
theorem own_far {w : World} {B b : Nat} {v : Value} {l : List (Int × Int)} (h : Own w B v l) (hb : w.heap.size ≤ b) : some b ≠ v.ownBlock := fun e => by
  have := World.ownsRow.lt h b e.symm; omega

set_option maxHeartbeats 4000000 in
theorem done_take (p : Pol) (s : St) (v : Value) (n cost : Int) (B : Nat) (w : World) (ho : Own w B v s.log) (hB : B ≤ w.heap.size) (hn : s.log.length ≤ 1000) (hc : ∀ e ∈ s.log, 0 ≤ e.2 ∧ e.2 ≤ 1048576) (b2 : 0 ≤ cost ∧ cost ≤ 1048576) (_b3 : 0 ≤ s.held ∧ s.held ≤ 1048576) :
    Calls Try.prog 37 #[p.val, .agg (scells s.tm s.level s.held v), .agg (acells 1 n cost)] w fun e' w' => ∃ v', e' = .returned v' ∧ Has w' B v' (dn p s 1 cost) ∧ Below B w w' := by
  obtain ⟨A, cap, rfl, -⟩ := ho.ents
  have HOO := Lib.hid ho
  have HC := Lib.hid hc
  clear hc ho
  have hW := below_four w p.box (.cells (scells s.tm s.level s.held (.slice A s.log.length cap)) 32) (.cells (acells 1 n cost) 38) (.cells (scells 0 0 0 (.slice none 0 0)) 32)
  have HW := Lib.hid hW
  have HO4 := Lib.hid (HOO.out.keep hW)
  clear hW
  unfold Pol.val
  go_enter Try.func37, Try.ntmps37
  go_wp2_with fail
  refine (logged_calls p s _ cost B _ HO4.out (by simp <;> omega) hn HC.out b2).mono ?_
  rintro e w1 ⟨v', rfl, ho', hb', hk'⟩
  obtain ⟨A', c', rfl, -⟩ := ho'.ents
  have r1 : w1.heap[w.heap.size + 1]? = some (.cells (scells s.tm s.level (s.held) (.slice A s.log.length cap)) 32 (0, 0)) := by rw [hk' _ (by simp <;> omega) (own_far HOO.out (by omega))]; exact (heap_alloc4 _ _ _ _ _).2
  have r3 : w1.heap[w.heap.size + 1 + 1 + 1]? = some (.cells (scells 0 0 0 (.slice none 0 0)) 32 (0, 0)) := by rw [hk' _ (by simp <;> omega) (own_far HOO.out (by omega))]; exact (heap_alloc4 _ _ _ _ _).1
  have d0 : w1.cell? ⟨w.heap.size + 1, 0, none⟩ = some (.int .i64 s.tm) := by rw [cell_of_row _ _ _ _ _ _ r1]; rfl
  have d1 : w1.cell? ⟨w.heap.size + 1, 1, none⟩ = some (.int .i64 s.level) := by rw [cell_of_row _ _ _ _ _ _ r1]; rfl
  have d2 : w1.cell? ⟨w.heap.size + 1, 2, none⟩ = some (.int .i64 (s.held)) := by rw [cell_of_row _ _ _ _ _ _ r1]; rfl
  have d3 : w1.cell? ⟨w.heap.size + 1, 3, none⟩ = some (.slice A s.log.length cap) := by rw [cell_of_row _ _ _ _ _ _ r1]; rfl
  have d4 : ∀ j, w1.frozen? ⟨w.heap.size + 1, j, none⟩ = false := fun j => frozen_of_row _ _ _ _ _ r1
  have e0 : w1.cell? ⟨w.heap.size + 1 + 1 + 1, 0, none⟩ = some (.int .i64 0) := by rw [cell_of_row _ _ _ _ _ _ r3]; rfl
  have e1 : w1.cell? ⟨w.heap.size + 1 + 1 + 1, 1, none⟩ = some (.int .i64 0) := by rw [cell_of_row _ _ _ _ _ _ r3]; rfl
  have e2 : w1.cell? ⟨w.heap.size + 1 + 1 + 1, 2, none⟩ = some (.int .i64 0) := by rw [cell_of_row _ _ _ _ _ _ r3]; rfl
  have e3 : w1.cell? ⟨w.heap.size + 1 + 1 + 1, 3, none⟩ = some (.slice none 0 0) := by rw [cell_of_row _ _ _ _ _ _ r3]; rfl
  have e4 : ∀ j, w1.frozen? ⟨w.heap.size + 1 + 1 + 1, j, none⟩ = false := fun j => frozen_of_row _ _ _ _ _ r3
  have HO' := Lib.hid ho'
  have HB' := Lib.hid hb'
  have R1 := Lib.hid r1
  have R3 := Lib.hid r3
  clear ho' hb' hk' r1 r3
  have zn : ¬ (w.heap.size + 1 = w.heap.size + 1 + 1 + 1) := by omega
  go_wp2_with fail
  have r3' : (w1.setCell ⟨w.heap.size + 1, 3, none⟩ (.slice A' (put p s.tm s.log cost).length c')).heap[w.heap.size + 1 + 1 + 1]? = some (.cells (scells 0 0 0 (.slice none 0 0)) 32 (0, 0)) := by rw [Below.heap_setCell _ _ _ _ (by simp <;> omega)]; exact R3.out
  refine ret_st Try.results37 rfl rfl (set4_heap r3' _ _ _ _) ⟨_, rfl, ?_, ?_⟩
  · rw [dn_1]
    exact ⟨_, rfl, (HO'.out.setOther R1.out 3 _).setOther4 r3' _ _ _ _⟩
  · exact below_set4 (((HW.out.mono hB).trans HB'.out).setCell (by simp <;> omega) _) (by omega) _ _ _ _

set_option maxHeartbeats 4000000 in
theorem done_hold (p : Pol) (s : St) (v : Value) (n cost : Int) (B : Nat) (w : World) (ho : Own w B v s.log) (hB : B ≤ w.heap.size) (_hn : s.log.length ≤ 1000) (_hc : ∀ e ∈ s.log, 0 ≤ e.2 ∧ e.2 ≤ 1048576) (b2 : 0 ≤ cost ∧ cost ≤ 1048576) (b3 : 0 ≤ s.held ∧ s.held ≤ 1048576) :
    Calls Try.prog 37 #[p.val, .agg (scells s.tm s.level s.held v), .agg (acells 2 n cost)] w fun e' w' => ∃ v', e' = .returned v' ∧ Has w' B v' (dn p s 2 cost) ∧ Below B w w' := by
  obtain ⟨A, cap, rfl, -⟩ := ho.ents
  have HOO := Lib.hid ho
  clear ho
  have HW := Lib.hid (below_four w p.box (.cells (scells s.tm s.level (s.held + cost) (.slice A s.log.length cap)) 32) (.cells (acells 2 n cost) 38) (.cells (scells s.tm s.level (s.held + cost) (.slice A s.log.length cap)) 32))
  unfold Pol.val
  go_enter Try.func37, Try.ntmps37
  go_wp2_with fail
  refine ret_st Try.results37 rfl rfl (heap_alloc4 _ _ _ _ _).1 ⟨_, rfl, ?_, ?_⟩
  · rw [dn_2]
    exact ⟨_, rfl, HOO.out.keep HW.out⟩
  · exact HW.out.mono hB

set_option maxHeartbeats 4000000 in
theorem done_release (p : Pol) (s : St) (v : Value) (n cost : Int) (B : Nat) (w : World) (ho : Own w B v s.log) (hB : B ≤ w.heap.size) (_hn : s.log.length ≤ 1000) (_hc : ∀ e ∈ s.log, 0 ≤ e.2 ∧ e.2 ≤ 1048576) (b2 : 0 ≤ cost ∧ cost ≤ 1048576) (b3 : 0 ≤ s.held ∧ s.held ≤ 1048576) :
    Calls Try.prog 37 #[p.val, .agg (scells s.tm s.level s.held v), .agg (acells 3 n cost)] w fun e' w' => ∃ v', e' = .returned v' ∧ Has w' B v' (dn p s 3 cost) ∧ Below B w w' := by
  obtain ⟨A, cap, rfl, -⟩ := ho.ents
  have HOO := Lib.hid ho
  clear ho
  have HW := Lib.hid (below_four w p.box (.cells (scells s.tm s.level (s.held - cost) (.slice A s.log.length cap)) 32) (.cells (acells 3 n cost) 38) (.cells (scells s.tm s.level (s.held - cost) (.slice A s.log.length cap)) 32))
  unfold Pol.val
  go_enter Try.func37, Try.ntmps37
  go_wp2_with fail
  refine ret_st Try.results37 rfl rfl (heap_alloc4 _ _ _ _ _).1 ⟨_, rfl, ?_, ?_⟩
  · rw [dn_3]
    exact ⟨_, rfl, HOO.out.keep HW.out⟩
  · exact HW.out.mono hB

set_option maxHeartbeats 4000000 in
theorem done_commit (p : Pol) (s : St) (v : Value) (n cost : Int) (B : Nat) (w : World) (ho : Own w B v s.log) (hB : B ≤ w.heap.size) (hn : s.log.length ≤ 1000) (hc : ∀ e ∈ s.log, 0 ≤ e.2 ∧ e.2 ≤ 1048576) (b2 : 0 ≤ cost ∧ cost ≤ 1048576) (b3 : 0 ≤ s.held ∧ s.held ≤ 1048576) :
    Calls Try.prog 37 #[p.val, .agg (scells s.tm s.level s.held v), .agg (acells 4 n cost)] w fun e' w' => ∃ v', e' = .returned v' ∧ Has w' B v' (dn p s 4 cost) ∧ Below B w w' := by
  obtain ⟨A, cap, rfl, -⟩ := ho.ents
  have HOO := Lib.hid ho
  have HC := Lib.hid hc
  clear hc ho
  have hW := below_four w p.box (.cells (scells s.tm s.level (s.held - cost) (.slice A s.log.length cap)) 32) (.cells (acells 4 n cost) 38) (.cells (scells 0 0 0 (.slice none 0 0)) 32)
  have HW := Lib.hid hW
  have HO4 := Lib.hid (HOO.out.keep hW)
  clear hW
  unfold Pol.val
  go_enter Try.func37, Try.ntmps37
  go_wp2_with fail
  refine (logged_calls p { s with held := s.held - cost } _ cost B _ HO4.out (by simp <;> omega) hn HC.out b2).mono ?_
  rintro e w1 ⟨v', rfl, ho', hb', hk'⟩
  obtain ⟨A', c', rfl, -⟩ := ho'.ents
  have r1 : w1.heap[w.heap.size + 1]? = some (.cells (scells s.tm s.level ((s.held - cost)) (.slice A s.log.length cap)) 32 (0, 0)) := by rw [hk' _ (by simp <;> omega) (own_far HOO.out (by omega))]; exact (heap_alloc4 _ _ _ _ _).2
  have r3 : w1.heap[w.heap.size + 1 + 1 + 1]? = some (.cells (scells 0 0 0 (.slice none 0 0)) 32 (0, 0)) := by rw [hk' _ (by simp <;> omega) (own_far HOO.out (by omega))]; exact (heap_alloc4 _ _ _ _ _).1
  have d0 : w1.cell? ⟨w.heap.size + 1, 0, none⟩ = some (.int .i64 s.tm) := by rw [cell_of_row _ _ _ _ _ _ r1]; rfl
  have d1 : w1.cell? ⟨w.heap.size + 1, 1, none⟩ = some (.int .i64 s.level) := by rw [cell_of_row _ _ _ _ _ _ r1]; rfl
  have d2 : w1.cell? ⟨w.heap.size + 1, 2, none⟩ = some (.int .i64 ((s.held - cost))) := by rw [cell_of_row _ _ _ _ _ _ r1]; rfl
  have d3 : w1.cell? ⟨w.heap.size + 1, 3, none⟩ = some (.slice A s.log.length cap) := by rw [cell_of_row _ _ _ _ _ _ r1]; rfl
  have d4 : ∀ j, w1.frozen? ⟨w.heap.size + 1, j, none⟩ = false := fun j => frozen_of_row _ _ _ _ _ r1
  have e0 : w1.cell? ⟨w.heap.size + 1 + 1 + 1, 0, none⟩ = some (.int .i64 0) := by rw [cell_of_row _ _ _ _ _ _ r3]; rfl
  have e1 : w1.cell? ⟨w.heap.size + 1 + 1 + 1, 1, none⟩ = some (.int .i64 0) := by rw [cell_of_row _ _ _ _ _ _ r3]; rfl
  have e2 : w1.cell? ⟨w.heap.size + 1 + 1 + 1, 2, none⟩ = some (.int .i64 0) := by rw [cell_of_row _ _ _ _ _ _ r3]; rfl
  have e3 : w1.cell? ⟨w.heap.size + 1 + 1 + 1, 3, none⟩ = some (.slice none 0 0) := by rw [cell_of_row _ _ _ _ _ _ r3]; rfl
  have e4 : ∀ j, w1.frozen? ⟨w.heap.size + 1 + 1 + 1, j, none⟩ = false := fun j => frozen_of_row _ _ _ _ _ r3
  have HO' := Lib.hid ho'
  have HB' := Lib.hid hb'
  have R1 := Lib.hid r1
  have R3 := Lib.hid r3
  clear ho' hb' hk' r1 r3
  have zn : ¬ (w.heap.size + 1 = w.heap.size + 1 + 1 + 1) := by omega
  go_wp2_with fail
  have r3' : (w1.setCell ⟨w.heap.size + 1, 3, none⟩ (.slice A' (put p s.tm s.log cost).length c')).heap[w.heap.size + 1 + 1 + 1]? = some (.cells (scells 0 0 0 (.slice none 0 0)) 32 (0, 0)) := by rw [Below.heap_setCell _ _ _ _ (by simp <;> omega)]; exact R3.out
  refine ret_st Try.results37 rfl rfl (set4_heap r3' _ _ _ _) ⟨_, rfl, ?_, ?_⟩
  · rw [dn_4]
    exact ⟨_, rfl, (HO'.out.setOther R1.out 3 _).setOther4 r3' _ _ _ _⟩
  · exact below_set4 (((HW.out.mono hB).trans HB'.out).setCell (by simp <;> omega) _) (by omega) _ _ _ _

theorem done_calls (p : Pol) (s : St) (v : Value) (k n cost : Int) (B : Nat) (w : World) (ho : Own w B v s.log) (hB : B ≤ w.heap.size) (hn : s.log.length ≤ 1000) (hc : ∀ e ∈ s.log, 0 ≤ e.2 ∧ e.2 ≤ 1048576) (b2 : 0 ≤ cost ∧ cost ≤ 1048576) (b3 : 0 ≤ s.held ∧ s.held ≤ 1048576) (hk : k = 1 ∨ k = 2 ∨ k = 3 ∨ k = 4) :
    Calls Try.prog 37 #[p.val, .agg (scells s.tm s.level s.held v), .agg (acells k n cost)] w fun e' w' => ∃ v', e' = .returned v' ∧ Has w' B v' (dn p s k cost) ∧ Below B w w' := by
  rcases hk with rfl | rfl | rfl | rfl
  · exact done_take p s v n cost B w ho hB hn hc b2 b3
  · exact done_hold p s v n cost B w ho hB hn hc b2 b3
  · exact done_release p s v n cost B w ho hB hn hc b2 b3
  · exact done_commit p s v n cost B w ho hB hn hc b2 b3

end Wn
end Go.Proofs.Ytljaemiggeeghaa
