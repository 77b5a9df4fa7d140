/-
  What the document's own Do answers where nothing is done, in any world.
-/
import Derived.Test.YtljaemiggeeghaaWinRfE
import Derived.Test.YtljaemiggeeghaaWinGrow
namespace Go.Proofs.Ytljaemiggeeghaa
open Go.RowKit
attribute [local go_sem ↓] Go.wp_at_zero Go.wp_at_succ
namespace Wn

theorem radv_is {p : Pol} {s a : St} {now : Int} (h : adv p s now = a) (A : Option Addr) (cap : Nat) (w : World) (hA : Ents w A s.log) :
    Calls Try.prog 31 #[p.val, s.val A s.log.length cap, .int .i64 now] w fun e w' => ∃ v, e = .returned v ∧ Has w' w.heap.size v a ∧ Below w.heap.size w w' := by
  have := radvance_calls p s A cap now w hA; rw [h] at this; exact this
theorem rroom_is {p : Pol} {s : St} {now r : Int} (h : roomAt p s now = r) (A : Option Addr) (cap : Nat) (w : World) (hA : Ents w A s.log) :
    Calls Try.prog 33 #[p.val, s.val A s.log.length cap, .int .i64 now] w fun e w' => e = .returned (.int .i64 r) ∧ Below w.heap.size w w' := by
  have := rroom_calls p s A cap now w hA; rw [h] at this; exact this

set_option maxHeartbeats 16000000 in
set_option maxRecDepth 100000 in
theorem rdo_zero (p : Pol) (s : St) (A : Option Addr) (cap : Nat) (k now cost : Int) (w : World) (hA : Ents w A s.log) (h0 : right p s = false) :
    Calls Try.prog 19 #[p.val, s.val A s.log.length cap, .agg (acells k now cost)] w fun e w' => ∃ A' cap', e = .returned (.tuple #[.agg (scells zero.tm zero.level zero.held (.slice A' zero.log.length cap')), .bool false]) ∧ ((A' = A ∧ cap' = cap ∧ zero = s) ∨ Sl w' 0 A' cap' zero.log) ∧ Below w.heap.size w w' := by
  have HA := Lib.hid hA
  clear hA
  have HB4 := Lib.hid (below_four w p.box (s.box A s.log.length cap) (.cells (acells k now cost) 38) (.cells (scells 0 0 0 (.slice none 0 0)) 32))
  have H0 := Lib.hid h0
  clear h0
  unfold Pol.val St.val
  go_enter Try.func19, Try.ntmps19
  go_wp2_with fail
  refine (rright_no H0.out A cap _ (HA.out.keep HB4.out)).mono ?_
  rintro e w1 ⟨rfl, hb1⟩
  have hg : w1.heap[w.heap.size + 1 + 1 + 1]? = some (.cells (scells 0 0 0 (.slice none 0 0)) 32 (0, 0)) := by rw [hb1.block _ (by simp)]; exact (heap_alloc4 _ _ _ _ _).1
  have HB1 := Lib.hid hb1
  clear hb1
  go_wp2_with (refine wpList_store_row rfl 32 _ _ rfl (w.heap.size + 1 + 1 + 1) (scells 0 0 0 (.slice none 0 0)) rfl rfl 32 _ hg st_size rfl (scells_one _ _ _ _ (slice_one _ _ _)) ?_)
  refine ret_st2 Try.results19 rfl rfl rfl (setRow_heap _ _ _ _ _ _ hg) ⟨none, 0, rfl, .inr (Sl.nil _ _), ?_⟩
  exact below_setRow (HB4.out.trans (HB1.out.mono (by simp <;> omega))) (by omega) _

set_option maxHeartbeats 16000000 in
set_option maxRecDepth 100000 in
theorem rdo_noA (p : Pol) (s : St) (A : Option Addr) (cap : Nat) (k now cost : Int) (w : World) (hA : Ents w A s.log) (a : St) (h0 : right p s = true) (ha : adv p s now = a) (hc : cost < 1) :
    Calls Try.prog 19 #[p.val, s.val A s.log.length cap, .agg (acells k now cost)] w fun e w' => ∃ A' cap', e = .returned (.tuple #[.agg (scells s.tm s.level s.held (.slice A' s.log.length cap')), .bool false]) ∧ ((A' = A ∧ cap' = cap ∧ s = s) ∨ Sl w' 0 A' cap' s.log) ∧ Below w.heap.size w w' := by
  have g1 : decide (cost < 1) = true := by simp; omega
  clear hc
  have HA := Lib.hid hA
  clear hA
  have HB4 := Lib.hid (below_four w p.box (s.box A s.log.length cap) (.cells (acells k now cost) 38) (.cells (scells 0 0 0 (.slice none 0 0)) 32))
  have H0 := Lib.hid h0
  have HADV := Lib.hid ha
  have HS := Lib.hid (right_ok h0)
  have HO := Lib.hid (show Ok p a by rw [← ha]; exact (right_ok h0).adv now)
  have l1 := HO.out.lim
  have l2 := HO.out.tot1
  have l3 := HO.out.held0
  have l4 := HO.out.held1
  have l5 := HO.out.n
  have l6 := HS.out.held0
  have l7 := HS.out.held1
  clear h0 ha
  unfold Pol.val St.val
  go_enter Try.func19, Try.ntmps19
  go_wp2_with fail
  refine (rright_yes H0.out A cap _ (HA.out.keep HB4.out)).mono ?_
  rintro e w1 ⟨rfl, hb1⟩
  have BP1 := Lib.hid (Box.keep (Box.alloc (Box.alloc (Box.alloc (Box.new w 23 (pcells p)) (s.box A s.log.length cap)) (.cells (acells k now cost) 38)) (.cells (scells 0 0 0 (.slice none 0 0)) 32)) hb1)
  have BS1 := Lib.hid (Box.keep (Box.alloc (Box.alloc (Box.new1 w 32 (scells s.tm s.level s.held (.slice A s.log.length cap)) p.box) (.cells (acells k now cost) 38)) (.cells (scells 0 0 0 (.slice none 0 0)) 32)) hb1)
  have BA1 := Lib.hid (show Box w1 (w.heap.size + 1 + 1) 38 (acells k now cost) from by unfold Box; rw [hb1.block _ (by simp)]; rw [heap_alloc_old _ _ (by simp)]; exact heap_alloc3_new _ _ _ _)
  have BZ1 := Lib.hid (show Box w1 (w.heap.size + 1 + 1 + 1) 32 (scells 0 0 0 (.slice none 0 0)) from by unfold Box; rw [hb1.block _ (by simp)]; exact (heap_alloc4 _ _ _ _ _).1)
  have ep0 : w1.cell? ⟨w.heap.size, 0, none⟩ = some (.int .i64 p.kind) := BP1.out.cell 0
  have ep1 : w1.cell? ⟨w.heap.size, 1, none⟩ = some (.int .i64 p.limit) := BP1.out.cell 1
  have ep2 : w1.cell? ⟨w.heap.size, 2, none⟩ = some (.int .i64 p.period) := BP1.out.cell 2
  have ep3 : w1.cell? ⟨w.heap.size, 3, none⟩ = some (.int .i64 p.burst) := BP1.out.cell 3
  have ep4 : w1.cell? ⟨w.heap.size, 4, none⟩ = some (.int .i64 p.cap) := BP1.out.cell 4
  have ep5 : w1.cell? ⟨w.heap.size, 5, none⟩ = some (.bool p.opn) := BP1.out.cell 5
  have es0 : w1.cell? ⟨w.heap.size + 1, 0, none⟩ = some (.int .i64 (s).tm) := BS1.out.cell 0
  have es1 : w1.cell? ⟨w.heap.size + 1, 1, none⟩ = some (.int .i64 (s).level) := BS1.out.cell 1
  have es2 : w1.cell? ⟨w.heap.size + 1, 2, none⟩ = some (.int .i64 (s).held) := BS1.out.cell 2
  have es3 : w1.cell? ⟨w.heap.size + 1, 3, none⟩ = some (.slice A (s).log.length cap) := BS1.out.cell 3
  have ea0 : w1.cell? ⟨w.heap.size + 1 + 1, 0, none⟩ = some (.int .i64 k) := BA1.out.cell 0
  have ea1 : w1.cell? ⟨w.heap.size + 1 + 1, 1, none⟩ = some (.int .i64 now) := BA1.out.cell 1
  have ea2 : w1.cell? ⟨w.heap.size + 1 + 1, 2, none⟩ = some (.int .i64 cost) := BA1.out.cell 2
  have z1 : w.heap.size + 1 + 1 + 1 < w1.heap.size := BZ1.out.lt
  have HE := Lib.hid ((HA.out.keep HB4.out).keep hb1)
  have HB1 := Lib.hid (HB4.out.trans (hb1.mono (by simp <;> omega)))
  clear hb1
  go_wp2_with fail
  refine (radv_is HADV.out A cap _ HE.out).mono ?_
  rintro e w2 ⟨v, rfl, ⟨u, rfl, ho⟩, hb2⟩
  obtain ⟨A', c', rfl, hE'⟩ := ho.ents
  have BP2 := Lib.hid (Box.keep BP1.out hb2)
  have BS2 := Lib.hid (Box.keep BS1.out hb2)
  have BA2 := Lib.hid (Box.keep BA1.out hb2)
  have BZ2 := Lib.hid (Box.keep BZ1.out hb2)
  have HE2 := Lib.hid (HE.out.keep hb2)
  have HB2 := Lib.hid (HB1.out.trans (hb2.mono HB1.out.size))
  have HO2 := Lib.hid ho
  have z2 : w.heap.size + 1 + 1 + 1 < w2.heap.size := BZ2.out.lt
  clear hE' hb2 ho ep0 ep1 ep2 ep3 ep4 ep5 es0 es1 es2 es3 ea0 ea1 ea2
  have fp0 : w2.cell? ⟨w.heap.size, 0, none⟩ = some (.int .i64 p.kind) := BP2.out.cell 0
  have fp1 : w2.cell? ⟨w.heap.size, 1, none⟩ = some (.int .i64 p.limit) := BP2.out.cell 1
  have fp2 : w2.cell? ⟨w.heap.size, 2, none⟩ = some (.int .i64 p.period) := BP2.out.cell 2
  have fp3 : w2.cell? ⟨w.heap.size, 3, none⟩ = some (.int .i64 p.burst) := BP2.out.cell 3
  have fp4 : w2.cell? ⟨w.heap.size, 4, none⟩ = some (.int .i64 p.cap) := BP2.out.cell 4
  have fp5 : w2.cell? ⟨w.heap.size, 5, none⟩ = some (.bool p.opn) := BP2.out.cell 5
  have fs0 : w2.cell? ⟨w.heap.size + 1, 0, none⟩ = some (.int .i64 (s).tm) := BS2.out.cell 0
  have fs1 : w2.cell? ⟨w.heap.size + 1, 1, none⟩ = some (.int .i64 (s).level) := BS2.out.cell 1
  have fs2 : w2.cell? ⟨w.heap.size + 1, 2, none⟩ = some (.int .i64 (s).held) := BS2.out.cell 2
  have fs3 : w2.cell? ⟨w.heap.size + 1, 3, none⟩ = some (.slice A (s).log.length cap) := BS2.out.cell 3
  have fa0 : w2.cell? ⟨w.heap.size + 1 + 1, 0, none⟩ = some (.int .i64 k) := BA2.out.cell 0
  have fa1 : w2.cell? ⟨w.heap.size + 1 + 1, 1, none⟩ = some (.int .i64 now) := BA2.out.cell 1
  have fa2 : w2.cell? ⟨w.heap.size + 1 + 1, 2, none⟩ = some (.int .i64 cost) := BA2.out.cell 2
  have y0 : w.heap.size < w2.heap.size := by omega
  have y1 : w.heap.size + 1 < w2.heap.size := by omega
  have y2 : w.heap.size + 1 + 1 < w2.heap.size := by omega
  go_wp2_with fail
  have HBQ := Lib.hid (fun n => below_drewN (HB2.out.alloc HB2.out.size (.cells (scells a.tm a.level a.held (.slice A' a.log.length c')) 32)) n)
  go_quiet (fail)
  go_upto_region 5 with (fail)
  go_wp2_with (refine wpList_store_row rfl 32 _ _ rfl (w.heap.size + 1 + 1 + 1) (scells s.tm s.level s.held (.slice A s.log.length cap)) rfl rfl 32 _ ((BZ2.out.alloc _).drewN nq) st_size rfl (scells_one _ _ _ _ (slice_one _ _ _)) ?_)
  refine ret_st2 Try.results19 rfl rfl rfl (setRow_heap _ _ _ _ _ _ ((BZ2.out.alloc _).drewN nq)) ⟨A, cap, rfl, ?_, ?_⟩
  · exact .inl ⟨rfl, rfl, trivial⟩
  · exact below_setRow (HBQ.out nq) (by omega) _

set_option maxHeartbeats 16000000 in
set_option maxRecDepth 100000 in
theorem rdo_noB (p : Pol) (s : St) (A : Option Addr) (cap : Nat) (k now cost : Int) (w : World) (hA : Ents w A s.log) (a : St) (h0 : right p s = true) (ha : adv p s now = a) (hc : ¬ cost < 1) (hk : k < 1) :
    Calls Try.prog 19 #[p.val, s.val A s.log.length cap, .agg (acells k now cost)] w fun e w' => ∃ A' cap', e = .returned (.tuple #[.agg (scells s.tm s.level s.held (.slice A' s.log.length cap')), .bool false]) ∧ ((A' = A ∧ cap' = cap ∧ s = s) ∨ Sl w' 0 A' cap' s.log) ∧ Below w.heap.size w w' := by
  have g1 : decide (cost < 1) = false := by simp; omega
  have g2 : decide (k < 1) = true := by simp; omega
  clear hc hk
  have HA := Lib.hid hA
  clear hA
  have HB4 := Lib.hid (below_four w p.box (s.box A s.log.length cap) (.cells (acells k now cost) 38) (.cells (scells 0 0 0 (.slice none 0 0)) 32))
  have H0 := Lib.hid h0
  have HADV := Lib.hid ha
  have HS := Lib.hid (right_ok h0)
  have HO := Lib.hid (show Ok p a by rw [← ha]; exact (right_ok h0).adv now)
  have l1 := HO.out.lim
  have l2 := HO.out.tot1
  have l3 := HO.out.held0
  have l4 := HO.out.held1
  have l5 := HO.out.n
  have l6 := HS.out.held0
  have l7 := HS.out.held1
  clear h0 ha
  unfold Pol.val St.val
  go_enter Try.func19, Try.ntmps19
  go_wp2_with fail
  refine (rright_yes H0.out A cap _ (HA.out.keep HB4.out)).mono ?_
  rintro e w1 ⟨rfl, hb1⟩
  have BP1 := Lib.hid (Box.keep (Box.alloc (Box.alloc (Box.alloc (Box.new w 23 (pcells p)) (s.box A s.log.length cap)) (.cells (acells k now cost) 38)) (.cells (scells 0 0 0 (.slice none 0 0)) 32)) hb1)
  have BS1 := Lib.hid (Box.keep (Box.alloc (Box.alloc (Box.new1 w 32 (scells s.tm s.level s.held (.slice A s.log.length cap)) p.box) (.cells (acells k now cost) 38)) (.cells (scells 0 0 0 (.slice none 0 0)) 32)) hb1)
  have BA1 := Lib.hid (show Box w1 (w.heap.size + 1 + 1) 38 (acells k now cost) from by unfold Box; rw [hb1.block _ (by simp)]; rw [heap_alloc_old _ _ (by simp)]; exact heap_alloc3_new _ _ _ _)
  have BZ1 := Lib.hid (show Box w1 (w.heap.size + 1 + 1 + 1) 32 (scells 0 0 0 (.slice none 0 0)) from by unfold Box; rw [hb1.block _ (by simp)]; exact (heap_alloc4 _ _ _ _ _).1)
  have ep0 : w1.cell? ⟨w.heap.size, 0, none⟩ = some (.int .i64 p.kind) := BP1.out.cell 0
  have ep1 : w1.cell? ⟨w.heap.size, 1, none⟩ = some (.int .i64 p.limit) := BP1.out.cell 1
  have ep2 : w1.cell? ⟨w.heap.size, 2, none⟩ = some (.int .i64 p.period) := BP1.out.cell 2
  have ep3 : w1.cell? ⟨w.heap.size, 3, none⟩ = some (.int .i64 p.burst) := BP1.out.cell 3
  have ep4 : w1.cell? ⟨w.heap.size, 4, none⟩ = some (.int .i64 p.cap) := BP1.out.cell 4
  have ep5 : w1.cell? ⟨w.heap.size, 5, none⟩ = some (.bool p.opn) := BP1.out.cell 5
  have es0 : w1.cell? ⟨w.heap.size + 1, 0, none⟩ = some (.int .i64 (s).tm) := BS1.out.cell 0
  have es1 : w1.cell? ⟨w.heap.size + 1, 1, none⟩ = some (.int .i64 (s).level) := BS1.out.cell 1
  have es2 : w1.cell? ⟨w.heap.size + 1, 2, none⟩ = some (.int .i64 (s).held) := BS1.out.cell 2
  have es3 : w1.cell? ⟨w.heap.size + 1, 3, none⟩ = some (.slice A (s).log.length cap) := BS1.out.cell 3
  have ea0 : w1.cell? ⟨w.heap.size + 1 + 1, 0, none⟩ = some (.int .i64 k) := BA1.out.cell 0
  have ea1 : w1.cell? ⟨w.heap.size + 1 + 1, 1, none⟩ = some (.int .i64 now) := BA1.out.cell 1
  have ea2 : w1.cell? ⟨w.heap.size + 1 + 1, 2, none⟩ = some (.int .i64 cost) := BA1.out.cell 2
  have z1 : w.heap.size + 1 + 1 + 1 < w1.heap.size := BZ1.out.lt
  have HE := Lib.hid ((HA.out.keep HB4.out).keep hb1)
  have HB1 := Lib.hid (HB4.out.trans (hb1.mono (by simp <;> omega)))
  clear hb1
  go_wp2_with fail
  refine (radv_is HADV.out A cap _ HE.out).mono ?_
  rintro e w2 ⟨v, rfl, ⟨u, rfl, ho⟩, hb2⟩
  obtain ⟨A', c', rfl, hE'⟩ := ho.ents
  have BP2 := Lib.hid (Box.keep BP1.out hb2)
  have BS2 := Lib.hid (Box.keep BS1.out hb2)
  have BA2 := Lib.hid (Box.keep BA1.out hb2)
  have BZ2 := Lib.hid (Box.keep BZ1.out hb2)
  have HE2 := Lib.hid (HE.out.keep hb2)
  have HB2 := Lib.hid (HB1.out.trans (hb2.mono HB1.out.size))
  have HO2 := Lib.hid ho
  have z2 : w.heap.size + 1 + 1 + 1 < w2.heap.size := BZ2.out.lt
  clear hE' hb2 ho ep0 ep1 ep2 ep3 ep4 ep5 es0 es1 es2 es3 ea0 ea1 ea2
  have fp0 : w2.cell? ⟨w.heap.size, 0, none⟩ = some (.int .i64 p.kind) := BP2.out.cell 0
  have fp1 : w2.cell? ⟨w.heap.size, 1, none⟩ = some (.int .i64 p.limit) := BP2.out.cell 1
  have fp2 : w2.cell? ⟨w.heap.size, 2, none⟩ = some (.int .i64 p.period) := BP2.out.cell 2
  have fp3 : w2.cell? ⟨w.heap.size, 3, none⟩ = some (.int .i64 p.burst) := BP2.out.cell 3
  have fp4 : w2.cell? ⟨w.heap.size, 4, none⟩ = some (.int .i64 p.cap) := BP2.out.cell 4
  have fp5 : w2.cell? ⟨w.heap.size, 5, none⟩ = some (.bool p.opn) := BP2.out.cell 5
  have fs0 : w2.cell? ⟨w.heap.size + 1, 0, none⟩ = some (.int .i64 (s).tm) := BS2.out.cell 0
  have fs1 : w2.cell? ⟨w.heap.size + 1, 1, none⟩ = some (.int .i64 (s).level) := BS2.out.cell 1
  have fs2 : w2.cell? ⟨w.heap.size + 1, 2, none⟩ = some (.int .i64 (s).held) := BS2.out.cell 2
  have fs3 : w2.cell? ⟨w.heap.size + 1, 3, none⟩ = some (.slice A (s).log.length cap) := BS2.out.cell 3
  have fa0 : w2.cell? ⟨w.heap.size + 1 + 1, 0, none⟩ = some (.int .i64 k) := BA2.out.cell 0
  have fa1 : w2.cell? ⟨w.heap.size + 1 + 1, 1, none⟩ = some (.int .i64 now) := BA2.out.cell 1
  have fa2 : w2.cell? ⟨w.heap.size + 1 + 1, 2, none⟩ = some (.int .i64 cost) := BA2.out.cell 2
  have y0 : w.heap.size < w2.heap.size := by omega
  have y1 : w.heap.size + 1 < w2.heap.size := by omega
  have y2 : w.heap.size + 1 + 1 < w2.heap.size := by omega
  go_wp2_with fail
  have HBQ := Lib.hid (fun n => below_drewN (HB2.out.alloc HB2.out.size (.cells (scells a.tm a.level a.held (.slice A' a.log.length c')) 32)) n)
  go_quiet (fail)
  go_upto_region 5 with (fail)
  go_wp2_with (refine wpList_store_row rfl 32 _ _ rfl (w.heap.size + 1 + 1 + 1) (scells s.tm s.level s.held (.slice A s.log.length cap)) rfl rfl 32 _ ((BZ2.out.alloc _).drewN nq) st_size rfl (scells_one _ _ _ _ (slice_one _ _ _)) ?_)
  refine ret_st2 Try.results19 rfl rfl rfl (setRow_heap _ _ _ _ _ _ ((BZ2.out.alloc _).drewN nq)) ⟨A, cap, rfl, ?_, ?_⟩
  · exact .inl ⟨rfl, rfl, trivial⟩
  · exact below_setRow (HBQ.out nq) (by omega) _

set_option maxHeartbeats 16000000 in
set_option maxRecDepth 100000 in
theorem rdo_noC (p : Pol) (s : St) (A : Option Addr) (cap : Nat) (k now cost : Int) (w : World) (hA : Ents w A s.log) (a : St) (h0 : right p s = true) (ha : adv p s now = a) (hc : ¬ cost < 1) (hk : 4 < k) :
    Calls Try.prog 19 #[p.val, s.val A s.log.length cap, .agg (acells k now cost)] w fun e w' => ∃ A' cap', e = .returned (.tuple #[.agg (scells s.tm s.level s.held (.slice A' s.log.length cap')), .bool false]) ∧ ((A' = A ∧ cap' = cap ∧ s = s) ∨ Sl w' 0 A' cap' s.log) ∧ Below w.heap.size w w' := by
  have g1 : decide (cost < 1) = false := by simp; omega
  have g2 : decide (k < 1) = false := by simp; omega
  have g3 : decide (4 < k) = true := by simp; omega
  clear hc hk
  have HA := Lib.hid hA
  clear hA
  have HB4 := Lib.hid (below_four w p.box (s.box A s.log.length cap) (.cells (acells k now cost) 38) (.cells (scells 0 0 0 (.slice none 0 0)) 32))
  have H0 := Lib.hid h0
  have HADV := Lib.hid ha
  have HS := Lib.hid (right_ok h0)
  have HO := Lib.hid (show Ok p a by rw [← ha]; exact (right_ok h0).adv now)
  have l1 := HO.out.lim
  have l2 := HO.out.tot1
  have l3 := HO.out.held0
  have l4 := HO.out.held1
  have l5 := HO.out.n
  have l6 := HS.out.held0
  have l7 := HS.out.held1
  clear h0 ha
  unfold Pol.val St.val
  go_enter Try.func19, Try.ntmps19
  go_wp2_with fail
  refine (rright_yes H0.out A cap _ (HA.out.keep HB4.out)).mono ?_
  rintro e w1 ⟨rfl, hb1⟩
  have BP1 := Lib.hid (Box.keep (Box.alloc (Box.alloc (Box.alloc (Box.new w 23 (pcells p)) (s.box A s.log.length cap)) (.cells (acells k now cost) 38)) (.cells (scells 0 0 0 (.slice none 0 0)) 32)) hb1)
  have BS1 := Lib.hid (Box.keep (Box.alloc (Box.alloc (Box.new1 w 32 (scells s.tm s.level s.held (.slice A s.log.length cap)) p.box) (.cells (acells k now cost) 38)) (.cells (scells 0 0 0 (.slice none 0 0)) 32)) hb1)
  have BA1 := Lib.hid (show Box w1 (w.heap.size + 1 + 1) 38 (acells k now cost) from by unfold Box; rw [hb1.block _ (by simp)]; rw [heap_alloc_old _ _ (by simp)]; exact heap_alloc3_new _ _ _ _)
  have BZ1 := Lib.hid (show Box w1 (w.heap.size + 1 + 1 + 1) 32 (scells 0 0 0 (.slice none 0 0)) from by unfold Box; rw [hb1.block _ (by simp)]; exact (heap_alloc4 _ _ _ _ _).1)
  have ep0 : w1.cell? ⟨w.heap.size, 0, none⟩ = some (.int .i64 p.kind) := BP1.out.cell 0
  have ep1 : w1.cell? ⟨w.heap.size, 1, none⟩ = some (.int .i64 p.limit) := BP1.out.cell 1
  have ep2 : w1.cell? ⟨w.heap.size, 2, none⟩ = some (.int .i64 p.period) := BP1.out.cell 2
  have ep3 : w1.cell? ⟨w.heap.size, 3, none⟩ = some (.int .i64 p.burst) := BP1.out.cell 3
  have ep4 : w1.cell? ⟨w.heap.size, 4, none⟩ = some (.int .i64 p.cap) := BP1.out.cell 4
  have ep5 : w1.cell? ⟨w.heap.size, 5, none⟩ = some (.bool p.opn) := BP1.out.cell 5
  have es0 : w1.cell? ⟨w.heap.size + 1, 0, none⟩ = some (.int .i64 (s).tm) := BS1.out.cell 0
  have es1 : w1.cell? ⟨w.heap.size + 1, 1, none⟩ = some (.int .i64 (s).level) := BS1.out.cell 1
  have es2 : w1.cell? ⟨w.heap.size + 1, 2, none⟩ = some (.int .i64 (s).held) := BS1.out.cell 2
  have es3 : w1.cell? ⟨w.heap.size + 1, 3, none⟩ = some (.slice A (s).log.length cap) := BS1.out.cell 3
  have ea0 : w1.cell? ⟨w.heap.size + 1 + 1, 0, none⟩ = some (.int .i64 k) := BA1.out.cell 0
  have ea1 : w1.cell? ⟨w.heap.size + 1 + 1, 1, none⟩ = some (.int .i64 now) := BA1.out.cell 1
  have ea2 : w1.cell? ⟨w.heap.size + 1 + 1, 2, none⟩ = some (.int .i64 cost) := BA1.out.cell 2
  have z1 : w.heap.size + 1 + 1 + 1 < w1.heap.size := BZ1.out.lt
  have HE := Lib.hid ((HA.out.keep HB4.out).keep hb1)
  have HB1 := Lib.hid (HB4.out.trans (hb1.mono (by simp <;> omega)))
  clear hb1
  go_wp2_with fail
  refine (radv_is HADV.out A cap _ HE.out).mono ?_
  rintro e w2 ⟨v, rfl, ⟨u, rfl, ho⟩, hb2⟩
  obtain ⟨A', c', rfl, hE'⟩ := ho.ents
  have BP2 := Lib.hid (Box.keep BP1.out hb2)
  have BS2 := Lib.hid (Box.keep BS1.out hb2)
  have BA2 := Lib.hid (Box.keep BA1.out hb2)
  have BZ2 := Lib.hid (Box.keep BZ1.out hb2)
  have HE2 := Lib.hid (HE.out.keep hb2)
  have HB2 := Lib.hid (HB1.out.trans (hb2.mono HB1.out.size))
  have HO2 := Lib.hid ho
  have z2 : w.heap.size + 1 + 1 + 1 < w2.heap.size := BZ2.out.lt
  clear hE' hb2 ho ep0 ep1 ep2 ep3 ep4 ep5 es0 es1 es2 es3 ea0 ea1 ea2
  have fp0 : w2.cell? ⟨w.heap.size, 0, none⟩ = some (.int .i64 p.kind) := BP2.out.cell 0
  have fp1 : w2.cell? ⟨w.heap.size, 1, none⟩ = some (.int .i64 p.limit) := BP2.out.cell 1
  have fp2 : w2.cell? ⟨w.heap.size, 2, none⟩ = some (.int .i64 p.period) := BP2.out.cell 2
  have fp3 : w2.cell? ⟨w.heap.size, 3, none⟩ = some (.int .i64 p.burst) := BP2.out.cell 3
  have fp4 : w2.cell? ⟨w.heap.size, 4, none⟩ = some (.int .i64 p.cap) := BP2.out.cell 4
  have fp5 : w2.cell? ⟨w.heap.size, 5, none⟩ = some (.bool p.opn) := BP2.out.cell 5
  have fs0 : w2.cell? ⟨w.heap.size + 1, 0, none⟩ = some (.int .i64 (s).tm) := BS2.out.cell 0
  have fs1 : w2.cell? ⟨w.heap.size + 1, 1, none⟩ = some (.int .i64 (s).level) := BS2.out.cell 1
  have fs2 : w2.cell? ⟨w.heap.size + 1, 2, none⟩ = some (.int .i64 (s).held) := BS2.out.cell 2
  have fs3 : w2.cell? ⟨w.heap.size + 1, 3, none⟩ = some (.slice A (s).log.length cap) := BS2.out.cell 3
  have fa0 : w2.cell? ⟨w.heap.size + 1 + 1, 0, none⟩ = some (.int .i64 k) := BA2.out.cell 0
  have fa1 : w2.cell? ⟨w.heap.size + 1 + 1, 1, none⟩ = some (.int .i64 now) := BA2.out.cell 1
  have fa2 : w2.cell? ⟨w.heap.size + 1 + 1, 2, none⟩ = some (.int .i64 cost) := BA2.out.cell 2
  have y0 : w.heap.size < w2.heap.size := by omega
  have y1 : w.heap.size + 1 < w2.heap.size := by omega
  have y2 : w.heap.size + 1 + 1 < w2.heap.size := by omega
  go_wp2_with fail
  have HBQ := Lib.hid (fun n => below_drewN (HB2.out.alloc HB2.out.size (.cells (scells a.tm a.level a.held (.slice A' a.log.length c')) 32)) n)
  go_quiet (fail)
  go_upto_region 5 with (fail)
  go_wp2_with (refine wpList_store_row rfl 32 _ _ rfl (w.heap.size + 1 + 1 + 1) (scells s.tm s.level s.held (.slice A s.log.length cap)) rfl rfl 32 _ ((BZ2.out.alloc _).drewN nq) st_size rfl (scells_one _ _ _ _ (slice_one _ _ _)) ?_)
  refine ret_st2 Try.results19 rfl rfl rfl (setRow_heap _ _ _ _ _ _ ((BZ2.out.alloc _).drewN nq)) ⟨A, cap, rfl, ?_, ?_⟩
  · exact .inl ⟨rfl, rfl, trivial⟩
  · exact below_setRow (HBQ.out nq) (by omega) _

set_option maxHeartbeats 16000000 in
set_option maxRecDepth 100000 in
theorem rdo_noE (p : Pol) (s : St) (A : Option Addr) (cap : Nat) (k now cost : Int) (w : World) (hA : Ents w A s.log) (a : St) (h0 : right p s = true) (ha : adv p s now = a) (hc : ¬ cost < 1) (hk : 3 ≤ k ∧ k ≤ 4) (hh : s.held < cost) :
    Calls Try.prog 19 #[p.val, s.val A s.log.length cap, .agg (acells k now cost)] w fun e w' => ∃ A' cap', e = .returned (.tuple #[.agg (scells s.tm s.level s.held (.slice A' s.log.length cap')), .bool false]) ∧ ((A' = A ∧ cap' = cap ∧ s = s) ∨ Sl w' 0 A' cap' s.log) ∧ Below w.heap.size w w' := by
  have g1 : decide (cost < 1) = false := by simp; omega
  have g2 : decide (k < 1) = false := by simp; omega
  have g3 : decide (4 < k) = false := by simp; omega
  have g4 : decide (k ≤ 2) = false := by simp; omega
  have g5 : decide (3 ≤ k) = true := by simp; omega
  have g6 : decide (s.held < cost) = true := by simp; omega
  clear hc hk hh
  have HA := Lib.hid hA
  clear hA
  have HB4 := Lib.hid (below_four w p.box (s.box A s.log.length cap) (.cells (acells k now cost) 38) (.cells (scells 0 0 0 (.slice none 0 0)) 32))
  have H0 := Lib.hid h0
  have HADV := Lib.hid ha
  have HS := Lib.hid (right_ok h0)
  have HO := Lib.hid (show Ok p a by rw [← ha]; exact (right_ok h0).adv now)
  have l1 := HO.out.lim
  have l2 := HO.out.tot1
  have l3 := HO.out.held0
  have l4 := HO.out.held1
  have l5 := HO.out.n
  have l6 := HS.out.held0
  have l7 := HS.out.held1
  clear h0 ha
  unfold Pol.val St.val
  go_enter Try.func19, Try.ntmps19
  go_wp2_with fail
  refine (rright_yes H0.out A cap _ (HA.out.keep HB4.out)).mono ?_
  rintro e w1 ⟨rfl, hb1⟩
  have BP1 := Lib.hid (Box.keep (Box.alloc (Box.alloc (Box.alloc (Box.new w 23 (pcells p)) (s.box A s.log.length cap)) (.cells (acells k now cost) 38)) (.cells (scells 0 0 0 (.slice none 0 0)) 32)) hb1)
  have BS1 := Lib.hid (Box.keep (Box.alloc (Box.alloc (Box.new1 w 32 (scells s.tm s.level s.held (.slice A s.log.length cap)) p.box) (.cells (acells k now cost) 38)) (.cells (scells 0 0 0 (.slice none 0 0)) 32)) hb1)
  have BA1 := Lib.hid (show Box w1 (w.heap.size + 1 + 1) 38 (acells k now cost) from by unfold Box; rw [hb1.block _ (by simp)]; rw [heap_alloc_old _ _ (by simp)]; exact heap_alloc3_new _ _ _ _)
  have BZ1 := Lib.hid (show Box w1 (w.heap.size + 1 + 1 + 1) 32 (scells 0 0 0 (.slice none 0 0)) from by unfold Box; rw [hb1.block _ (by simp)]; exact (heap_alloc4 _ _ _ _ _).1)
  have ep0 : w1.cell? ⟨w.heap.size, 0, none⟩ = some (.int .i64 p.kind) := BP1.out.cell 0
  have ep1 : w1.cell? ⟨w.heap.size, 1, none⟩ = some (.int .i64 p.limit) := BP1.out.cell 1
  have ep2 : w1.cell? ⟨w.heap.size, 2, none⟩ = some (.int .i64 p.period) := BP1.out.cell 2
  have ep3 : w1.cell? ⟨w.heap.size, 3, none⟩ = some (.int .i64 p.burst) := BP1.out.cell 3
  have ep4 : w1.cell? ⟨w.heap.size, 4, none⟩ = some (.int .i64 p.cap) := BP1.out.cell 4
  have ep5 : w1.cell? ⟨w.heap.size, 5, none⟩ = some (.bool p.opn) := BP1.out.cell 5
  have es0 : w1.cell? ⟨w.heap.size + 1, 0, none⟩ = some (.int .i64 (s).tm) := BS1.out.cell 0
  have es1 : w1.cell? ⟨w.heap.size + 1, 1, none⟩ = some (.int .i64 (s).level) := BS1.out.cell 1
  have es2 : w1.cell? ⟨w.heap.size + 1, 2, none⟩ = some (.int .i64 (s).held) := BS1.out.cell 2
  have es3 : w1.cell? ⟨w.heap.size + 1, 3, none⟩ = some (.slice A (s).log.length cap) := BS1.out.cell 3
  have ea0 : w1.cell? ⟨w.heap.size + 1 + 1, 0, none⟩ = some (.int .i64 k) := BA1.out.cell 0
  have ea1 : w1.cell? ⟨w.heap.size + 1 + 1, 1, none⟩ = some (.int .i64 now) := BA1.out.cell 1
  have ea2 : w1.cell? ⟨w.heap.size + 1 + 1, 2, none⟩ = some (.int .i64 cost) := BA1.out.cell 2
  have z1 : w.heap.size + 1 + 1 + 1 < w1.heap.size := BZ1.out.lt
  have HE := Lib.hid ((HA.out.keep HB4.out).keep hb1)
  have HB1 := Lib.hid (HB4.out.trans (hb1.mono (by simp <;> omega)))
  clear hb1
  go_wp2_with fail
  refine (radv_is HADV.out A cap _ HE.out).mono ?_
  rintro e w2 ⟨v, rfl, ⟨u, rfl, ho⟩, hb2⟩
  obtain ⟨A', c', rfl, hE'⟩ := ho.ents
  have BP2 := Lib.hid (Box.keep BP1.out hb2)
  have BS2 := Lib.hid (Box.keep BS1.out hb2)
  have BA2 := Lib.hid (Box.keep BA1.out hb2)
  have BZ2 := Lib.hid (Box.keep BZ1.out hb2)
  have HE2 := Lib.hid (HE.out.keep hb2)
  have HB2 := Lib.hid (HB1.out.trans (hb2.mono HB1.out.size))
  have HO2 := Lib.hid ho
  have z2 : w.heap.size + 1 + 1 + 1 < w2.heap.size := BZ2.out.lt
  clear hE' hb2 ho ep0 ep1 ep2 ep3 ep4 ep5 es0 es1 es2 es3 ea0 ea1 ea2
  have fp0 : w2.cell? ⟨w.heap.size, 0, none⟩ = some (.int .i64 p.kind) := BP2.out.cell 0
  have fp1 : w2.cell? ⟨w.heap.size, 1, none⟩ = some (.int .i64 p.limit) := BP2.out.cell 1
  have fp2 : w2.cell? ⟨w.heap.size, 2, none⟩ = some (.int .i64 p.period) := BP2.out.cell 2
  have fp3 : w2.cell? ⟨w.heap.size, 3, none⟩ = some (.int .i64 p.burst) := BP2.out.cell 3
  have fp4 : w2.cell? ⟨w.heap.size, 4, none⟩ = some (.int .i64 p.cap) := BP2.out.cell 4
  have fp5 : w2.cell? ⟨w.heap.size, 5, none⟩ = some (.bool p.opn) := BP2.out.cell 5
  have fs0 : w2.cell? ⟨w.heap.size + 1, 0, none⟩ = some (.int .i64 (s).tm) := BS2.out.cell 0
  have fs1 : w2.cell? ⟨w.heap.size + 1, 1, none⟩ = some (.int .i64 (s).level) := BS2.out.cell 1
  have fs2 : w2.cell? ⟨w.heap.size + 1, 2, none⟩ = some (.int .i64 (s).held) := BS2.out.cell 2
  have fs3 : w2.cell? ⟨w.heap.size + 1, 3, none⟩ = some (.slice A (s).log.length cap) := BS2.out.cell 3
  have fa0 : w2.cell? ⟨w.heap.size + 1 + 1, 0, none⟩ = some (.int .i64 k) := BA2.out.cell 0
  have fa1 : w2.cell? ⟨w.heap.size + 1 + 1, 1, none⟩ = some (.int .i64 now) := BA2.out.cell 1
  have fa2 : w2.cell? ⟨w.heap.size + 1 + 1, 2, none⟩ = some (.int .i64 cost) := BA2.out.cell 2
  have y0 : w.heap.size < w2.heap.size := by omega
  have y1 : w.heap.size + 1 < w2.heap.size := by omega
  have y2 : w.heap.size + 1 + 1 < w2.heap.size := by omega
  go_wp2_with fail
  have HBQ := Lib.hid (fun n => below_drewN (HB2.out.alloc HB2.out.size (.cells (scells a.tm a.level a.held (.slice A' a.log.length c')) 32)) n)
  go_quiet (fail)
  go_upto_region 5 with (fail)
  go_wp2_with (refine wpList_store_row rfl 32 _ _ rfl (w.heap.size + 1 + 1 + 1) (scells s.tm s.level s.held (.slice A s.log.length cap)) rfl rfl 32 _ ((BZ2.out.alloc _).drewN nq) st_size rfl (scells_one _ _ _ _ (slice_one _ _ _)) ?_)
  refine ret_st2 Try.results19 rfl rfl rfl (setRow_heap _ _ _ _ _ _ ((BZ2.out.alloc _).drewN nq)) ⟨A, cap, rfl, ?_, ?_⟩
  · exact .inl ⟨rfl, rfl, trivial⟩
  · exact below_setRow (HBQ.out nq) (by omega) _

set_option maxHeartbeats 16000000 in
set_option maxRecDepth 100000 in
theorem rdo_noD (p : Pol) (s : St) (A : Option Addr) (cap : Nat) (k now cost : Int) (w : World) (hA : Ents w A s.log) (a : St) (h0 : right p s = true) (ha : adv p s now = a) (hc : ¬ cost < 1) (hk : 1 ≤ k ∧ k ≤ 2) (hh : roomAt p s now < cost) :
    Calls Try.prog 19 #[p.val, s.val A s.log.length cap, .agg (acells k now cost)] w fun e w' => ∃ A' cap', e = .returned (.tuple #[.agg (scells s.tm s.level s.held (.slice A' s.log.length cap')), .bool false]) ∧ ((A' = A ∧ cap' = cap ∧ s = s) ∨ Sl w' 0 A' cap' s.log) ∧ Below w.heap.size w w' := by
  obtain ⟨r, hr⟩ : ∃ r, roomAt p s now = r := ⟨_, rfl⟩
  rw [hr] at hh
  have HR := Lib.hid hr
  have g1 : decide (cost < 1) = false := by simp; omega
  have g2 : decide (k < 1) = false := by simp; omega
  have g3 : decide (4 < k) = false := by simp; omega
  have g4 : decide (k ≤ 2) = true := by simp; omega
  have g5 : decide (r < cost) = true := by simp; omega
  clear hc hk hh hr
  have HA := Lib.hid hA
  clear hA
  have HB4 := Lib.hid (below_four w p.box (s.box A s.log.length cap) (.cells (acells k now cost) 38) (.cells (scells 0 0 0 (.slice none 0 0)) 32))
  have H0 := Lib.hid h0
  have HADV := Lib.hid ha
  have HS := Lib.hid (right_ok h0)
  have HO := Lib.hid (show Ok p a by rw [← ha]; exact (right_ok h0).adv now)
  have l1 := HO.out.lim
  have l2 := HO.out.tot1
  have l3 := HO.out.held0
  have l4 := HO.out.held1
  have l5 := HO.out.n
  have l6 := HS.out.held0
  have l7 := HS.out.held1
  clear h0 ha
  unfold Pol.val St.val
  go_enter Try.func19, Try.ntmps19
  go_wp2_with fail
  refine (rright_yes H0.out A cap _ (HA.out.keep HB4.out)).mono ?_
  rintro e w1 ⟨rfl, hb1⟩
  have BP1 := Lib.hid (Box.keep (Box.alloc (Box.alloc (Box.alloc (Box.new w 23 (pcells p)) (s.box A s.log.length cap)) (.cells (acells k now cost) 38)) (.cells (scells 0 0 0 (.slice none 0 0)) 32)) hb1)
  have BS1 := Lib.hid (Box.keep (Box.alloc (Box.alloc (Box.new1 w 32 (scells s.tm s.level s.held (.slice A s.log.length cap)) p.box) (.cells (acells k now cost) 38)) (.cells (scells 0 0 0 (.slice none 0 0)) 32)) hb1)
  have BA1 := Lib.hid (show Box w1 (w.heap.size + 1 + 1) 38 (acells k now cost) from by unfold Box; rw [hb1.block _ (by simp)]; rw [heap_alloc_old _ _ (by simp)]; exact heap_alloc3_new _ _ _ _)
  have BZ1 := Lib.hid (show Box w1 (w.heap.size + 1 + 1 + 1) 32 (scells 0 0 0 (.slice none 0 0)) from by unfold Box; rw [hb1.block _ (by simp)]; exact (heap_alloc4 _ _ _ _ _).1)
  have ep0 : w1.cell? ⟨w.heap.size, 0, none⟩ = some (.int .i64 p.kind) := BP1.out.cell 0
  have ep1 : w1.cell? ⟨w.heap.size, 1, none⟩ = some (.int .i64 p.limit) := BP1.out.cell 1
  have ep2 : w1.cell? ⟨w.heap.size, 2, none⟩ = some (.int .i64 p.period) := BP1.out.cell 2
  have ep3 : w1.cell? ⟨w.heap.size, 3, none⟩ = some (.int .i64 p.burst) := BP1.out.cell 3
  have ep4 : w1.cell? ⟨w.heap.size, 4, none⟩ = some (.int .i64 p.cap) := BP1.out.cell 4
  have ep5 : w1.cell? ⟨w.heap.size, 5, none⟩ = some (.bool p.opn) := BP1.out.cell 5
  have es0 : w1.cell? ⟨w.heap.size + 1, 0, none⟩ = some (.int .i64 (s).tm) := BS1.out.cell 0
  have es1 : w1.cell? ⟨w.heap.size + 1, 1, none⟩ = some (.int .i64 (s).level) := BS1.out.cell 1
  have es2 : w1.cell? ⟨w.heap.size + 1, 2, none⟩ = some (.int .i64 (s).held) := BS1.out.cell 2
  have es3 : w1.cell? ⟨w.heap.size + 1, 3, none⟩ = some (.slice A (s).log.length cap) := BS1.out.cell 3
  have ea0 : w1.cell? ⟨w.heap.size + 1 + 1, 0, none⟩ = some (.int .i64 k) := BA1.out.cell 0
  have ea1 : w1.cell? ⟨w.heap.size + 1 + 1, 1, none⟩ = some (.int .i64 now) := BA1.out.cell 1
  have ea2 : w1.cell? ⟨w.heap.size + 1 + 1, 2, none⟩ = some (.int .i64 cost) := BA1.out.cell 2
  have z1 : w.heap.size + 1 + 1 + 1 < w1.heap.size := BZ1.out.lt
  have HE := Lib.hid ((HA.out.keep HB4.out).keep hb1)
  have HB1 := Lib.hid (HB4.out.trans (hb1.mono (by simp <;> omega)))
  clear hb1
  go_wp2_with fail
  refine (radv_is HADV.out A cap _ HE.out).mono ?_
  rintro e w2 ⟨v, rfl, ⟨u, rfl, ho⟩, hb2⟩
  obtain ⟨A', c', rfl, hE'⟩ := ho.ents
  have BP2 := Lib.hid (Box.keep BP1.out hb2)
  have BS2 := Lib.hid (Box.keep BS1.out hb2)
  have BA2 := Lib.hid (Box.keep BA1.out hb2)
  have BZ2 := Lib.hid (Box.keep BZ1.out hb2)
  have HE2 := Lib.hid (HE.out.keep hb2)
  have HB2 := Lib.hid (HB1.out.trans (hb2.mono HB1.out.size))
  have HO2 := Lib.hid ho
  have z2 : w.heap.size + 1 + 1 + 1 < w2.heap.size := BZ2.out.lt
  clear hE' hb2 ho ep0 ep1 ep2 ep3 ep4 ep5 es0 es1 es2 es3 ea0 ea1 ea2
  have fp0 : w2.cell? ⟨w.heap.size, 0, none⟩ = some (.int .i64 p.kind) := BP2.out.cell 0
  have fp1 : w2.cell? ⟨w.heap.size, 1, none⟩ = some (.int .i64 p.limit) := BP2.out.cell 1
  have fp2 : w2.cell? ⟨w.heap.size, 2, none⟩ = some (.int .i64 p.period) := BP2.out.cell 2
  have fp3 : w2.cell? ⟨w.heap.size, 3, none⟩ = some (.int .i64 p.burst) := BP2.out.cell 3
  have fp4 : w2.cell? ⟨w.heap.size, 4, none⟩ = some (.int .i64 p.cap) := BP2.out.cell 4
  have fp5 : w2.cell? ⟨w.heap.size, 5, none⟩ = some (.bool p.opn) := BP2.out.cell 5
  have fs0 : w2.cell? ⟨w.heap.size + 1, 0, none⟩ = some (.int .i64 (s).tm) := BS2.out.cell 0
  have fs1 : w2.cell? ⟨w.heap.size + 1, 1, none⟩ = some (.int .i64 (s).level) := BS2.out.cell 1
  have fs2 : w2.cell? ⟨w.heap.size + 1, 2, none⟩ = some (.int .i64 (s).held) := BS2.out.cell 2
  have fs3 : w2.cell? ⟨w.heap.size + 1, 3, none⟩ = some (.slice A (s).log.length cap) := BS2.out.cell 3
  have fa0 : w2.cell? ⟨w.heap.size + 1 + 1, 0, none⟩ = some (.int .i64 k) := BA2.out.cell 0
  have fa1 : w2.cell? ⟨w.heap.size + 1 + 1, 1, none⟩ = some (.int .i64 now) := BA2.out.cell 1
  have fa2 : w2.cell? ⟨w.heap.size + 1 + 1, 2, none⟩ = some (.int .i64 cost) := BA2.out.cell 2
  have y0 : w.heap.size < w2.heap.size := by omega
  have y1 : w.heap.size + 1 < w2.heap.size := by omega
  have y2 : w.heap.size + 1 + 1 < w2.heap.size := by omega
  go_wp2_with fail
  have BP3 := Lib.hid (Box.alloc BP2.out (.cells (scells a.tm a.level a.held (.slice A' a.log.length c')) 32))
  have BS3 := Lib.hid (Box.alloc BS2.out (.cells (scells a.tm a.level a.held (.slice A' a.log.length c')) 32))
  have BA3 := Lib.hid (Box.alloc BA2.out (.cells (scells a.tm a.level a.held (.slice A' a.log.length c')) 32))
  have BZ3 := Lib.hid (Box.alloc BZ2.out (.cells (scells a.tm a.level a.held (.slice A' a.log.length c')) 32))
  have BT3 := Lib.hid (Box.new w2 32 (scells a.tm a.level a.held (.slice A' a.log.length c')))
  have HE3 := Lib.hid (HE2.out.alloc (.cells (scells a.tm a.level a.held (.slice A' a.log.length c')) 32))
  have HO3 := Lib.hid (HO2.out.alloc (.cells (scells a.tm a.level a.held (.slice A' a.log.length c')) 32))
  have HB3 := Lib.hid (HB2.out.alloc HB2.out.size (.cells (scells a.tm a.level a.held (.slice A' a.log.length c')) 32))
  clear fp0 fp1 fp2 fp3 fp4 fp5 fs0 fs1 fs2 fs3 fa0 fa1 fa2
  generalize w2.alloc (.cells (scells a.tm a.level a.held (.slice A' a.log.length c')) 32) = W3 at BP3 BS3 BA3 BZ3 BT3 HE3 HO3 HB3 ⊢
  have gp0 : ∀ g : Grow W3, g.w.cell? ⟨w.heap.size, 0, none⟩ = some (.int .i64 p.kind) := fun g => Grow.cell BP3.out g 0
  have gp1 : ∀ g : Grow W3, g.w.cell? ⟨w.heap.size, 1, none⟩ = some (.int .i64 p.limit) := fun g => Grow.cell BP3.out g 1
  have gp2 : ∀ g : Grow W3, g.w.cell? ⟨w.heap.size, 2, none⟩ = some (.int .i64 p.period) := fun g => Grow.cell BP3.out g 2
  have gp3 : ∀ g : Grow W3, g.w.cell? ⟨w.heap.size, 3, none⟩ = some (.int .i64 p.burst) := fun g => Grow.cell BP3.out g 3
  have gp4 : ∀ g : Grow W3, g.w.cell? ⟨w.heap.size, 4, none⟩ = some (.int .i64 p.cap) := fun g => Grow.cell BP3.out g 4
  have gp5 : ∀ g : Grow W3, g.w.cell? ⟨w.heap.size, 5, none⟩ = some (.bool p.opn) := fun g => Grow.cell BP3.out g 5
  have gs0 : ∀ g : Grow W3, g.w.cell? ⟨w.heap.size + 1, 0, none⟩ = some (.int .i64 (s).tm) := fun g => Grow.cell BS3.out g 0
  have gs1 : ∀ g : Grow W3, g.w.cell? ⟨w.heap.size + 1, 1, none⟩ = some (.int .i64 (s).level) := fun g => Grow.cell BS3.out g 1
  have gs2 : ∀ g : Grow W3, g.w.cell? ⟨w.heap.size + 1, 2, none⟩ = some (.int .i64 (s).held) := fun g => Grow.cell BS3.out g 2
  have gs3 : ∀ g : Grow W3, g.w.cell? ⟨w.heap.size + 1, 3, none⟩ = some (.slice A (s).log.length cap) := fun g => Grow.cell BS3.out g 3
  have ga0 : ∀ g : Grow W3, g.w.cell? ⟨w.heap.size + 1 + 1, 0, none⟩ = some (.int .i64 k) := fun g => Grow.cell BA3.out g 0
  have ga1 : ∀ g : Grow W3, g.w.cell? ⟨w.heap.size + 1 + 1, 1, none⟩ = some (.int .i64 now) := fun g => Grow.cell BA3.out g 1
  have ga2 : ∀ g : Grow W3, g.w.cell? ⟨w.heap.size + 1 + 1, 2, none⟩ = some (.int .i64 cost) := fun g => Grow.cell BA3.out g 2
  refine wp_region_grow (by kernel_rfl) (by kernel_rfl) ?_
  repeat (go_big_quiet_step ((go_at_call 33; exact grow_call (rroom_is HR.out A cap _ (HE3.out.keep (Grow.below _))))))
  refine wpQuiet_nil ?_
  intro _ hw'
  obtain ⟨gq, hw''⟩ := hw'
  subst hw''
  clear gp0 gp1 gp2 gp3 gp4 gp5 gs0 gs1 gs2 gs3 ga0 ga1 ga2
  have hbq := gq.below
  have BP4 := Lib.hid (BP3.out.keep hbq)
  have BS4 := Lib.hid (BS3.out.keep hbq)
  have BA4 := Lib.hid (BA3.out.keep hbq)
  have BZ4 := Lib.hid (BZ3.out.keep hbq)
  have BT4 := Lib.hid (BT3.out.keep hbq)
  have HO4 := Lib.hid (HO3.out.keep hbq)
  have HB4w := Lib.hid (HB3.out.trans (hbq.mono HB3.out.size))
  clear hbq
  generalize gq.w = W4 at BP4 BS4 BA4 BZ4 BT4 HO4 HB4w ⊢
  have kp0 : W4.cell? ⟨w.heap.size, 0, none⟩ = some (.int .i64 p.kind) := BP4.out.cell 0
  have kp1 : W4.cell? ⟨w.heap.size, 1, none⟩ = some (.int .i64 p.limit) := BP4.out.cell 1
  have kp2 : W4.cell? ⟨w.heap.size, 2, none⟩ = some (.int .i64 p.period) := BP4.out.cell 2
  have kp3 : W4.cell? ⟨w.heap.size, 3, none⟩ = some (.int .i64 p.burst) := BP4.out.cell 3
  have kp4 : W4.cell? ⟨w.heap.size, 4, none⟩ = some (.int .i64 p.cap) := BP4.out.cell 4
  have kp5 : W4.cell? ⟨w.heap.size, 5, none⟩ = some (.bool p.opn) := BP4.out.cell 5
  have ks0 : W4.cell? ⟨w.heap.size + 1, 0, none⟩ = some (.int .i64 (s).tm) := BS4.out.cell 0
  have ks1 : W4.cell? ⟨w.heap.size + 1, 1, none⟩ = some (.int .i64 (s).level) := BS4.out.cell 1
  have ks2 : W4.cell? ⟨w.heap.size + 1, 2, none⟩ = some (.int .i64 (s).held) := BS4.out.cell 2
  have ks3 : W4.cell? ⟨w.heap.size + 1, 3, none⟩ = some (.slice A (s).log.length cap) := BS4.out.cell 3
  have ka0 : W4.cell? ⟨w.heap.size + 1 + 1, 0, none⟩ = some (.int .i64 k) := BA4.out.cell 0
  have ka1 : W4.cell? ⟨w.heap.size + 1 + 1, 1, none⟩ = some (.int .i64 now) := BA4.out.cell 1
  have ka2 : W4.cell? ⟨w.heap.size + 1 + 1, 2, none⟩ = some (.int .i64 cost) := BA4.out.cell 2
  go_upto_region 5 with (fail)
  go_wp2_with (refine wpList_store_row rfl 32 _ _ rfl (w.heap.size + 1 + 1 + 1) (scells s.tm s.level s.held (.slice A s.log.length cap)) rfl rfl 32 _ BZ4.out st_size rfl (scells_one _ _ _ _ (slice_one _ _ _)) ?_)
  refine ret_st2 Try.results19 rfl rfl rfl (setRow_heap _ _ _ _ _ _ BZ4.out) ⟨A, cap, rfl, ?_, ?_⟩
  · exact .inl ⟨rfl, rfl, trivial⟩
  · exact below_setRow HB4w.out (by omega) _
end Wn
end Go.Proofs.Ytljaemiggeeghaa
