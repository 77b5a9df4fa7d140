/-
  What the document's own Do answers, in any world.
-/
import Derived.Test.YtikfjdpkjifcdaaCtrRfB
namespace Go.Proofs.Ytikfjdpkjifcdaa
open Go.RowKit
namespace Wn

theorem rroom_is {p : Pol} {s : St} {now r : Int} (h : roomAt p s now = r) (A : Option Addr) (cap : Nat) (w : World) :
    Calls Try.prog 32 #[p.val, s.val A s.log.length cap, .int .i64 now] w fun e w' => e = .returned (.int .i64 r) ∧ Below w.heap.size w w' := by
  have := rroom_calls p s A cap now w; rw [h] at this; exact this
set_option maxHeartbeats 16000000 in
set_option maxRecDepth 100000 in
theorem rdo_zero (p : Pol) (s : St) (A : Option Addr) (cap : Nat) (k now cost : Int) (w : World) (h0 : right p s = false) :
    Calls Try.prog 18 #[p.val, s.val A s.log.length cap, .agg (acells k now cost)] w fun e w' => e = .returned (.tuple #[zero.val none 0 0, .bool false]) ∧ Below w.heap.size w w' := by
  have HB4 := Lib.hid (below_four w p.box (s.box A s.log.length cap) (.cells (acells k now cost) 38) (.cells (scells 0 0 0 (.slice none 0 0)) 32))
  have H0 := Lib.hid h0
  clear h0
  unfold Pol.val St.val
  go_enter Try.func18, Try.ntmps18
  go_wp2_with fail
  refine (rright_no H0.out A cap _).mono ?_
  rintro e w1 ⟨rfl, hb1⟩
  have hg : w1.heap[w.heap.size + 1 + 1 + 1]? = some (.cells (scells 0 0 0 (.slice none 0 0)) 32 (0, 0)) := by rw [hb1.block _ (by simp)]; exact (heap_alloc4 _ _ _ _ _).1
  have HB1 := Lib.hid hb1
  clear hb1
  go_wp2_with (refine wpList_store_row rfl 32 _ _ rfl (w.heap.size + 1 + 1 + 1) (scells 0 0 0 (.slice none 0 0)) rfl rfl 32 _ hg st_size rfl (scells_one _ _ _ _ (slice_one _ _ _)) ?_)
  refine ret_st2 Try.results18 rfl rfl rfl (setRow_heap _ _ _ _ _ _ hg) ⟨rfl, ?_⟩
  exact below_setRow (HB4.out.trans (HB1.out.mono (by simp <;> omega))) (by omega) _
set_option maxHeartbeats 16000000 in
set_option maxRecDepth 100000 in
theorem rdo_noA (p : Pol) (s : St) (A : Option Addr) (cap : Nat) (k now cost : Int) (w : World) (a : St) (h0 : right p s = true) (ha : adv p s now = a) (r : Int) (hr : roomAt p s now = r) (hc : cost < 1) :
    Calls Try.prog 18 #[p.val, s.val A s.log.length cap, .agg (acells k now cost)] w fun e w' => e = .returned (.tuple #[s.val A s.log.length cap, .bool false]) ∧ Below w.heap.size w w' := by
  have HR := Lib.hid hr
  clear hr
  have g1 : decide (cost < 1) = true := by simp; omega
  clear hc
  have HB4 := Lib.hid (below_four w p.box (s.box A s.log.length cap) (.cells (acells k now cost) 38) (.cells (scells 0 0 0 (.slice none 0 0)) 32))
  have BP0 := Lib.hid (Box.alloc (Box.alloc (Box.alloc (Box.new w 23 (pcells p)) (s.box A s.log.length cap)) (.cells (acells k now cost) 38)) (.cells (scells 0 0 0 (.slice none 0 0)) 32))
  have BS0 := Lib.hid (Box.alloc (Box.alloc (Box.new1 w 32 (scells s.tm s.level s.held (.slice A s.log.length cap)) p.box) (.cells (acells k now cost) 38)) (.cells (scells 0 0 0 (.slice none 0 0)) 32))
  have H0 := Lib.hid h0
  have HA := Lib.hid ha
  have HOA := Lib.hid (show Ok p a by rw [← ha]; exact (right_ok h0).adv now)
  have l1 := HOA.out.rl
  have l2 := (right_ok h0).rl
  clear h0 ha
  unfold Pol.val St.val
  go_enter Try.func18, Try.ntmps18
  go_wp2_with fail
  refine (rright_yes H0.out A cap _).mono ?_
  rintro e w1 ⟨rfl, hb1⟩
  have BP1 := Lib.hid (BP0.out.keep hb1)
  have BS1 := Lib.hid (BS0.out.keep hb1)
  have BA1 := Lib.hid (show Box w1 (w.heap.size + 1 + 1) 38 (acells k now cost) from by unfold Box; rw [hb1.block _ (by simp)]; rw [heap_alloc_old _ _ (by simp)]; exact heap_alloc3_new _ _ _ _)
  have BZ1 := Lib.hid (show Box w1 (w.heap.size + 1 + 1 + 1) 32 (scells 0 0 0 (.slice none 0 0)) from by unfold Box; rw [hb1.block _ (by simp)]; exact (heap_alloc4 _ _ _ _ _).1)
  have HB1 := Lib.hid (HB4.out.trans (hb1.mono (by simp <;> omega)))
  clear hb1
  have ep0 : w1.cell? ⟨w.heap.size, 0, none⟩ = some (.int .i64 p.kind) := BP1.out.cell 0
  have ep1 : w1.cell? ⟨w.heap.size, 1, none⟩ = some (.int .i64 p.limit) := BP1.out.cell 1
  have ep2 : w1.cell? ⟨w.heap.size, 2, none⟩ = some (.int .i64 p.period) := BP1.out.cell 2
  have ep3 : w1.cell? ⟨w.heap.size, 3, none⟩ = some (.int .i64 p.burst) := BP1.out.cell 3
  have ep4 : w1.cell? ⟨w.heap.size, 4, none⟩ = some (.int .i64 p.cap) := BP1.out.cell 4
  have ep5 : w1.cell? ⟨w.heap.size, 5, none⟩ = some (.bool p.opn) := BP1.out.cell 5
  have es0 : w1.cell? ⟨w.heap.size + 1, 0, none⟩ = some (.int .i64 s.tm) := BS1.out.cell 0
  have es1 : w1.cell? ⟨w.heap.size + 1, 1, none⟩ = some (.int .i64 s.level) := BS1.out.cell 1
  have es2 : w1.cell? ⟨w.heap.size + 1, 2, none⟩ = some (.int .i64 s.held) := BS1.out.cell 2
  have es3 : w1.cell? ⟨w.heap.size + 1, 3, none⟩ = some (.slice A s.log.length cap) := BS1.out.cell 3
  have ea0 : w1.cell? ⟨w.heap.size + 1 + 1, 0, none⟩ = some (.int .i64 k) := BA1.out.cell 0
  have ea1 : w1.cell? ⟨w.heap.size + 1 + 1, 1, none⟩ = some (.int .i64 now) := BA1.out.cell 1
  have ea2 : w1.cell? ⟨w.heap.size + 1 + 1, 2, none⟩ = some (.int .i64 cost) := BA1.out.cell 2
  go_wp2_with fail
  refine (radvance_is H0.out HA.out A cap _).mono ?_
  rintro e w2 ⟨rfl, hb2⟩
  clear ep0 ep1 ep2 ep3 ep4 ep5 es0 es1 es2 es3 ea0 ea1 ea2
  have BP2 := Lib.hid ((BP1.out.keep hb2).alloc (.cells (scells a.tm a.level a.held (.slice A 0 cap)) 32))
  have BS2 := Lib.hid ((BS1.out.keep hb2).alloc (.cells (scells a.tm a.level a.held (.slice A 0 cap)) 32))
  have BA2 := Lib.hid ((BA1.out.keep hb2).alloc (.cells (scells a.tm a.level a.held (.slice A 0 cap)) 32))
  have BZ2 := Lib.hid ((BZ1.out.keep hb2).alloc (.cells (scells a.tm a.level a.held (.slice A 0 cap)) 32))
  have BT2 := Lib.hid (Box.new w2 32 (scells a.tm a.level a.held (.slice A 0 cap)))
  have hB2 := HB1.out.trans (hb2.mono HB1.out.size)
  have HB2 := Lib.hid (hB2.alloc hB2.size (.cells (scells a.tm a.level a.held (.slice A 0 cap)) 32))
  have zb0 : w.heap.size + 1 + 1 + 1 < w2.heap.size := (BZ1.out.keep hb2).lt
  obtain ⟨b, hb⟩ : ∃ b, w2.heap.size = b := ⟨_, rfl⟩
  rw [hb] at BT2 zb0
  clear hb2 hB2
  go_wp2_with fail
  generalize w2.alloc (.cells (scells a.tm a.level a.held (.slice A 0 cap)) 32) = W2 at BP2 BS2 BA2 BZ2 BT2 HB2 ⊢
  have gp0 : ∀ g : Grow W2, g.w.cell? ⟨w.heap.size, 0, none⟩ = some (.int .i64 p.kind) := fun g => Grow.cell BP2.out g 0
  have gp1 : ∀ g : Grow W2, g.w.cell? ⟨w.heap.size, 1, none⟩ = some (.int .i64 p.limit) := fun g => Grow.cell BP2.out g 1
  have gp2 : ∀ g : Grow W2, g.w.cell? ⟨w.heap.size, 2, none⟩ = some (.int .i64 p.period) := fun g => Grow.cell BP2.out g 2
  have gp3 : ∀ g : Grow W2, g.w.cell? ⟨w.heap.size, 3, none⟩ = some (.int .i64 p.burst) := fun g => Grow.cell BP2.out g 3
  have gp4 : ∀ g : Grow W2, g.w.cell? ⟨w.heap.size, 4, none⟩ = some (.int .i64 p.cap) := fun g => Grow.cell BP2.out g 4
  have gp5 : ∀ g : Grow W2, g.w.cell? ⟨w.heap.size, 5, none⟩ = some (.bool p.opn) := fun g => Grow.cell BP2.out g 5
  have gs0 : ∀ g : Grow W2, g.w.cell? ⟨w.heap.size + 1, 0, none⟩ = some (.int .i64 s.tm) := fun g => Grow.cell BS2.out g 0
  have gs1 : ∀ g : Grow W2, g.w.cell? ⟨w.heap.size + 1, 1, none⟩ = some (.int .i64 s.level) := fun g => Grow.cell BS2.out g 1
  have gs2 : ∀ g : Grow W2, g.w.cell? ⟨w.heap.size + 1, 2, none⟩ = some (.int .i64 s.held) := fun g => Grow.cell BS2.out g 2
  have gs3 : ∀ g : Grow W2, g.w.cell? ⟨w.heap.size + 1, 3, none⟩ = some (.slice A s.log.length cap) := fun g => Grow.cell BS2.out g 3
  have ga0 : ∀ g : Grow W2, g.w.cell? ⟨w.heap.size + 1 + 1, 0, none⟩ = some (.int .i64 k) := fun g => Grow.cell BA2.out g 0
  have ga1 : ∀ g : Grow W2, g.w.cell? ⟨w.heap.size + 1 + 1, 1, none⟩ = some (.int .i64 now) := fun g => Grow.cell BA2.out g 1
  have ga2 : ∀ g : Grow W2, g.w.cell? ⟨w.heap.size + 1 + 1, 2, none⟩ = some (.int .i64 cost) := fun g => Grow.cell BA2.out g 2
  refine wp_region_grow (by kernel_rfl) (by kernel_rfl) ?_
  repeat (go_big_quiet_step ((go_at_call 32; exact grow_call (rroom_is HR.out A cap _))))
  refine wpQuiet_nil ?_
  intro _ hw'
  obtain ⟨gq, hw''⟩ := hw'
  subst hw''
  clear gp0 gp1 gp2 gp3 gp4 gp5 gs0 gs1 gs2 gs3 ga0 ga1 ga2
  have hbq := gq.below
  have BS3 := Lib.hid (BS2.out.keep hbq)
  have BA3 := Lib.hid (BA2.out.keep hbq)
  have BZ3 := Lib.hid (BZ2.out.keep hbq)
  have BT3 := Lib.hid (BT2.out.keep hbq)
  have HB3 := Lib.hid (HB2.out.trans (hbq.mono HB2.out.size))
  clear hbq hb
  generalize gq.w = W3 at BS3 BA3 BZ3 BT3 HB3 ⊢
  have hs0 : W3.cell? ⟨w.heap.size + 1, 0, none⟩ = some (.int .i64 s.tm) := BS3.out.cell 0
  have hs1 : W3.cell? ⟨w.heap.size + 1, 1, none⟩ = some (.int .i64 s.level) := BS3.out.cell 1
  have hs2 : W3.cell? ⟨w.heap.size + 1, 2, none⟩ = some (.int .i64 s.held) := BS3.out.cell 2
  have hs3 : W3.cell? ⟨w.heap.size + 1, 3, none⟩ = some (.slice A s.log.length cap) := BS3.out.cell 3
  have ha0 : W3.cell? ⟨w.heap.size + 1 + 1, 0, none⟩ = some (.int .i64 k) := BA3.out.cell 0
  have ha1 : W3.cell? ⟨w.heap.size + 1 + 1, 1, none⟩ = some (.int .i64 now) := BA3.out.cell 1
  have ha2 : W3.cell? ⟨w.heap.size + 1 + 1, 2, none⟩ = some (.int .i64 cost) := BA3.out.cell 2
  have ht0 : W3.cell? ⟨b, 0, none⟩ = some (.int .i64 a.tm) := BT3.out.cell 0
  have ht1 : W3.cell? ⟨b, 1, none⟩ = some (.int .i64 a.level) := BT3.out.cell 1
  have ht2 : W3.cell? ⟨b, 2, none⟩ = some (.int .i64 a.held) := BT3.out.cell 2
  have ht3 : W3.cell? ⟨b, 3, none⟩ = some (.slice A 0 cap) := BT3.out.cell 3
  have hf0 := BT3.out.free 0
  have hf1 := BT3.out.free 1
  have hf2 := BT3.out.free 2
  have hf3 := BT3.out.free 3
  have zn1 : ¬ (b = w.heap.size + 1 + 1) := by omega
  have zn2 : ¬ (w.heap.size + 1 + 1 = b) := by omega
  go_wp2_with (refine wpList_store_row rfl 32 _ _ rfl (w.heap.size + 1 + 1 + 1) (scells s.tm s.level s.held (.slice A s.log.length cap)) rfl rfl 32 _ BZ3.out st_size rfl (scells_one _ _ _ _ (slice_one _ _ _)) ?_)
  refine ret_st2 Try.results18 rfl rfl rfl (setRow_heap _ _ _ _ _ _ BZ3.out) ⟨rfl, ?_⟩
  exact below_setRow HB3.out (by omega) _
set_option maxHeartbeats 16000000 in
set_option maxRecDepth 100000 in
theorem rdo_noB (p : Pol) (s : St) (A : Option Addr) (cap : Nat) (k now cost : Int) (w : World) (a : St) (h0 : right p s = true) (ha : adv p s now = a) (r : Int) (hr : roomAt p s now = r) (hc : ¬ cost < 1) (hk : k < 1) :
    Calls Try.prog 18 #[p.val, s.val A s.log.length cap, .agg (acells k now cost)] w fun e w' => e = .returned (.tuple #[s.val A s.log.length cap, .bool false]) ∧ Below w.heap.size w w' := by
  have HR := Lib.hid hr
  clear hr
  have g1 : decide (cost < 1) = false := by simp; omega
  have g2 : decide (k < 1) = true := by simp; omega
  clear hc hk
  have HB4 := Lib.hid (below_four w p.box (s.box A s.log.length cap) (.cells (acells k now cost) 38) (.cells (scells 0 0 0 (.slice none 0 0)) 32))
  have BP0 := Lib.hid (Box.alloc (Box.alloc (Box.alloc (Box.new w 23 (pcells p)) (s.box A s.log.length cap)) (.cells (acells k now cost) 38)) (.cells (scells 0 0 0 (.slice none 0 0)) 32))
  have BS0 := Lib.hid (Box.alloc (Box.alloc (Box.new1 w 32 (scells s.tm s.level s.held (.slice A s.log.length cap)) p.box) (.cells (acells k now cost) 38)) (.cells (scells 0 0 0 (.slice none 0 0)) 32))
  have H0 := Lib.hid h0
  have HA := Lib.hid ha
  have HOA := Lib.hid (show Ok p a by rw [← ha]; exact (right_ok h0).adv now)
  have l1 := HOA.out.rl
  have l2 := (right_ok h0).rl
  clear h0 ha
  unfold Pol.val St.val
  go_enter Try.func18, Try.ntmps18
  go_wp2_with fail
  refine (rright_yes H0.out A cap _).mono ?_
  rintro e w1 ⟨rfl, hb1⟩
  have BP1 := Lib.hid (BP0.out.keep hb1)
  have BS1 := Lib.hid (BS0.out.keep hb1)
  have BA1 := Lib.hid (show Box w1 (w.heap.size + 1 + 1) 38 (acells k now cost) from by unfold Box; rw [hb1.block _ (by simp)]; rw [heap_alloc_old _ _ (by simp)]; exact heap_alloc3_new _ _ _ _)
  have BZ1 := Lib.hid (show Box w1 (w.heap.size + 1 + 1 + 1) 32 (scells 0 0 0 (.slice none 0 0)) from by unfold Box; rw [hb1.block _ (by simp)]; exact (heap_alloc4 _ _ _ _ _).1)
  have HB1 := Lib.hid (HB4.out.trans (hb1.mono (by simp <;> omega)))
  clear hb1
  have ep0 : w1.cell? ⟨w.heap.size, 0, none⟩ = some (.int .i64 p.kind) := BP1.out.cell 0
  have ep1 : w1.cell? ⟨w.heap.size, 1, none⟩ = some (.int .i64 p.limit) := BP1.out.cell 1
  have ep2 : w1.cell? ⟨w.heap.size, 2, none⟩ = some (.int .i64 p.period) := BP1.out.cell 2
  have ep3 : w1.cell? ⟨w.heap.size, 3, none⟩ = some (.int .i64 p.burst) := BP1.out.cell 3
  have ep4 : w1.cell? ⟨w.heap.size, 4, none⟩ = some (.int .i64 p.cap) := BP1.out.cell 4
  have ep5 : w1.cell? ⟨w.heap.size, 5, none⟩ = some (.bool p.opn) := BP1.out.cell 5
  have es0 : w1.cell? ⟨w.heap.size + 1, 0, none⟩ = some (.int .i64 s.tm) := BS1.out.cell 0
  have es1 : w1.cell? ⟨w.heap.size + 1, 1, none⟩ = some (.int .i64 s.level) := BS1.out.cell 1
  have es2 : w1.cell? ⟨w.heap.size + 1, 2, none⟩ = some (.int .i64 s.held) := BS1.out.cell 2
  have es3 : w1.cell? ⟨w.heap.size + 1, 3, none⟩ = some (.slice A s.log.length cap) := BS1.out.cell 3
  have ea0 : w1.cell? ⟨w.heap.size + 1 + 1, 0, none⟩ = some (.int .i64 k) := BA1.out.cell 0
  have ea1 : w1.cell? ⟨w.heap.size + 1 + 1, 1, none⟩ = some (.int .i64 now) := BA1.out.cell 1
  have ea2 : w1.cell? ⟨w.heap.size + 1 + 1, 2, none⟩ = some (.int .i64 cost) := BA1.out.cell 2
  go_wp2_with fail
  refine (radvance_is H0.out HA.out A cap _).mono ?_
  rintro e w2 ⟨rfl, hb2⟩
  clear ep0 ep1 ep2 ep3 ep4 ep5 es0 es1 es2 es3 ea0 ea1 ea2
  have BP2 := Lib.hid ((BP1.out.keep hb2).alloc (.cells (scells a.tm a.level a.held (.slice A 0 cap)) 32))
  have BS2 := Lib.hid ((BS1.out.keep hb2).alloc (.cells (scells a.tm a.level a.held (.slice A 0 cap)) 32))
  have BA2 := Lib.hid ((BA1.out.keep hb2).alloc (.cells (scells a.tm a.level a.held (.slice A 0 cap)) 32))
  have BZ2 := Lib.hid ((BZ1.out.keep hb2).alloc (.cells (scells a.tm a.level a.held (.slice A 0 cap)) 32))
  have BT2 := Lib.hid (Box.new w2 32 (scells a.tm a.level a.held (.slice A 0 cap)))
  have hB2 := HB1.out.trans (hb2.mono HB1.out.size)
  have HB2 := Lib.hid (hB2.alloc hB2.size (.cells (scells a.tm a.level a.held (.slice A 0 cap)) 32))
  have zb0 : w.heap.size + 1 + 1 + 1 < w2.heap.size := (BZ1.out.keep hb2).lt
  obtain ⟨b, hb⟩ : ∃ b, w2.heap.size = b := ⟨_, rfl⟩
  rw [hb] at BT2 zb0
  clear hb2 hB2
  go_wp2_with fail
  generalize w2.alloc (.cells (scells a.tm a.level a.held (.slice A 0 cap)) 32) = W2 at BP2 BS2 BA2 BZ2 BT2 HB2 ⊢
  have gp0 : ∀ g : Grow W2, g.w.cell? ⟨w.heap.size, 0, none⟩ = some (.int .i64 p.kind) := fun g => Grow.cell BP2.out g 0
  have gp1 : ∀ g : Grow W2, g.w.cell? ⟨w.heap.size, 1, none⟩ = some (.int .i64 p.limit) := fun g => Grow.cell BP2.out g 1
  have gp2 : ∀ g : Grow W2, g.w.cell? ⟨w.heap.size, 2, none⟩ = some (.int .i64 p.period) := fun g => Grow.cell BP2.out g 2
  have gp3 : ∀ g : Grow W2, g.w.cell? ⟨w.heap.size, 3, none⟩ = some (.int .i64 p.burst) := fun g => Grow.cell BP2.out g 3
  have gp4 : ∀ g : Grow W2, g.w.cell? ⟨w.heap.size, 4, none⟩ = some (.int .i64 p.cap) := fun g => Grow.cell BP2.out g 4
  have gp5 : ∀ g : Grow W2, g.w.cell? ⟨w.heap.size, 5, none⟩ = some (.bool p.opn) := fun g => Grow.cell BP2.out g 5
  have gs0 : ∀ g : Grow W2, g.w.cell? ⟨w.heap.size + 1, 0, none⟩ = some (.int .i64 s.tm) := fun g => Grow.cell BS2.out g 0
  have gs1 : ∀ g : Grow W2, g.w.cell? ⟨w.heap.size + 1, 1, none⟩ = some (.int .i64 s.level) := fun g => Grow.cell BS2.out g 1
  have gs2 : ∀ g : Grow W2, g.w.cell? ⟨w.heap.size + 1, 2, none⟩ = some (.int .i64 s.held) := fun g => Grow.cell BS2.out g 2
  have gs3 : ∀ g : Grow W2, g.w.cell? ⟨w.heap.size + 1, 3, none⟩ = some (.slice A s.log.length cap) := fun g => Grow.cell BS2.out g 3
  have ga0 : ∀ g : Grow W2, g.w.cell? ⟨w.heap.size + 1 + 1, 0, none⟩ = some (.int .i64 k) := fun g => Grow.cell BA2.out g 0
  have ga1 : ∀ g : Grow W2, g.w.cell? ⟨w.heap.size + 1 + 1, 1, none⟩ = some (.int .i64 now) := fun g => Grow.cell BA2.out g 1
  have ga2 : ∀ g : Grow W2, g.w.cell? ⟨w.heap.size + 1 + 1, 2, none⟩ = some (.int .i64 cost) := fun g => Grow.cell BA2.out g 2
  refine wp_region_grow (by kernel_rfl) (by kernel_rfl) ?_
  repeat (go_big_quiet_step ((go_at_call 32; exact grow_call (rroom_is HR.out A cap _))))
  refine wpQuiet_nil ?_
  intro _ hw'
  obtain ⟨gq, hw''⟩ := hw'
  subst hw''
  clear gp0 gp1 gp2 gp3 gp4 gp5 gs0 gs1 gs2 gs3 ga0 ga1 ga2
  have hbq := gq.below
  have BS3 := Lib.hid (BS2.out.keep hbq)
  have BA3 := Lib.hid (BA2.out.keep hbq)
  have BZ3 := Lib.hid (BZ2.out.keep hbq)
  have BT3 := Lib.hid (BT2.out.keep hbq)
  have HB3 := Lib.hid (HB2.out.trans (hbq.mono HB2.out.size))
  clear hbq hb
  generalize gq.w = W3 at BS3 BA3 BZ3 BT3 HB3 ⊢
  have hs0 : W3.cell? ⟨w.heap.size + 1, 0, none⟩ = some (.int .i64 s.tm) := BS3.out.cell 0
  have hs1 : W3.cell? ⟨w.heap.size + 1, 1, none⟩ = some (.int .i64 s.level) := BS3.out.cell 1
  have hs2 : W3.cell? ⟨w.heap.size + 1, 2, none⟩ = some (.int .i64 s.held) := BS3.out.cell 2
  have hs3 : W3.cell? ⟨w.heap.size + 1, 3, none⟩ = some (.slice A s.log.length cap) := BS3.out.cell 3
  have ha0 : W3.cell? ⟨w.heap.size + 1 + 1, 0, none⟩ = some (.int .i64 k) := BA3.out.cell 0
  have ha1 : W3.cell? ⟨w.heap.size + 1 + 1, 1, none⟩ = some (.int .i64 now) := BA3.out.cell 1
  have ha2 : W3.cell? ⟨w.heap.size + 1 + 1, 2, none⟩ = some (.int .i64 cost) := BA3.out.cell 2
  have ht0 : W3.cell? ⟨b, 0, none⟩ = some (.int .i64 a.tm) := BT3.out.cell 0
  have ht1 : W3.cell? ⟨b, 1, none⟩ = some (.int .i64 a.level) := BT3.out.cell 1
  have ht2 : W3.cell? ⟨b, 2, none⟩ = some (.int .i64 a.held) := BT3.out.cell 2
  have ht3 : W3.cell? ⟨b, 3, none⟩ = some (.slice A 0 cap) := BT3.out.cell 3
  have hf0 := BT3.out.free 0
  have hf1 := BT3.out.free 1
  have hf2 := BT3.out.free 2
  have hf3 := BT3.out.free 3
  have zn1 : ¬ (b = w.heap.size + 1 + 1) := by omega
  have zn2 : ¬ (w.heap.size + 1 + 1 = b) := by omega
  go_wp2_with (refine wpList_store_row rfl 32 _ _ rfl (w.heap.size + 1 + 1 + 1) (scells s.tm s.level s.held (.slice A s.log.length cap)) rfl rfl 32 _ BZ3.out st_size rfl (scells_one _ _ _ _ (slice_one _ _ _)) ?_)
  refine ret_st2 Try.results18 rfl rfl rfl (setRow_heap _ _ _ _ _ _ BZ3.out) ⟨rfl, ?_⟩
  exact below_setRow HB3.out (by omega) _
set_option maxHeartbeats 16000000 in
set_option maxRecDepth 100000 in
theorem rdo_noC (p : Pol) (s : St) (A : Option Addr) (cap : Nat) (k now cost : Int) (w : World) (a : St) (h0 : right p s = true) (ha : adv p s now = a) (r : Int) (hr : roomAt p s now = r) (hc : ¬ cost < 1) (hk : 4 < k) :
    Calls Try.prog 18 #[p.val, s.val A s.log.length cap, .agg (acells k now cost)] w fun e w' => e = .returned (.tuple #[s.val A s.log.length cap, .bool false]) ∧ Below w.heap.size w w' := by
  have HR := Lib.hid hr
  clear hr
  have g1 : decide (cost < 1) = false := by simp; omega
  have g2 : decide (k < 1) = false := by simp; omega
  have g3 : decide (4 < k) = true := by simp; omega
  clear hc hk
  have HB4 := Lib.hid (below_four w p.box (s.box A s.log.length cap) (.cells (acells k now cost) 38) (.cells (scells 0 0 0 (.slice none 0 0)) 32))
  have BP0 := Lib.hid (Box.alloc (Box.alloc (Box.alloc (Box.new w 23 (pcells p)) (s.box A s.log.length cap)) (.cells (acells k now cost) 38)) (.cells (scells 0 0 0 (.slice none 0 0)) 32))
  have BS0 := Lib.hid (Box.alloc (Box.alloc (Box.new1 w 32 (scells s.tm s.level s.held (.slice A s.log.length cap)) p.box) (.cells (acells k now cost) 38)) (.cells (scells 0 0 0 (.slice none 0 0)) 32))
  have H0 := Lib.hid h0
  have HA := Lib.hid ha
  have HOA := Lib.hid (show Ok p a by rw [← ha]; exact (right_ok h0).adv now)
  have l1 := HOA.out.rl
  have l2 := (right_ok h0).rl
  clear h0 ha
  unfold Pol.val St.val
  go_enter Try.func18, Try.ntmps18
  go_wp2_with fail
  refine (rright_yes H0.out A cap _).mono ?_
  rintro e w1 ⟨rfl, hb1⟩
  have BP1 := Lib.hid (BP0.out.keep hb1)
  have BS1 := Lib.hid (BS0.out.keep hb1)
  have BA1 := Lib.hid (show Box w1 (w.heap.size + 1 + 1) 38 (acells k now cost) from by unfold Box; rw [hb1.block _ (by simp)]; rw [heap_alloc_old _ _ (by simp)]; exact heap_alloc3_new _ _ _ _)
  have BZ1 := Lib.hid (show Box w1 (w.heap.size + 1 + 1 + 1) 32 (scells 0 0 0 (.slice none 0 0)) from by unfold Box; rw [hb1.block _ (by simp)]; exact (heap_alloc4 _ _ _ _ _).1)
  have HB1 := Lib.hid (HB4.out.trans (hb1.mono (by simp <;> omega)))
  clear hb1
  have ep0 : w1.cell? ⟨w.heap.size, 0, none⟩ = some (.int .i64 p.kind) := BP1.out.cell 0
  have ep1 : w1.cell? ⟨w.heap.size, 1, none⟩ = some (.int .i64 p.limit) := BP1.out.cell 1
  have ep2 : w1.cell? ⟨w.heap.size, 2, none⟩ = some (.int .i64 p.period) := BP1.out.cell 2
  have ep3 : w1.cell? ⟨w.heap.size, 3, none⟩ = some (.int .i64 p.burst) := BP1.out.cell 3
  have ep4 : w1.cell? ⟨w.heap.size, 4, none⟩ = some (.int .i64 p.cap) := BP1.out.cell 4
  have ep5 : w1.cell? ⟨w.heap.size, 5, none⟩ = some (.bool p.opn) := BP1.out.cell 5
  have es0 : w1.cell? ⟨w.heap.size + 1, 0, none⟩ = some (.int .i64 s.tm) := BS1.out.cell 0
  have es1 : w1.cell? ⟨w.heap.size + 1, 1, none⟩ = some (.int .i64 s.level) := BS1.out.cell 1
  have es2 : w1.cell? ⟨w.heap.size + 1, 2, none⟩ = some (.int .i64 s.held) := BS1.out.cell 2
  have es3 : w1.cell? ⟨w.heap.size + 1, 3, none⟩ = some (.slice A s.log.length cap) := BS1.out.cell 3
  have ea0 : w1.cell? ⟨w.heap.size + 1 + 1, 0, none⟩ = some (.int .i64 k) := BA1.out.cell 0
  have ea1 : w1.cell? ⟨w.heap.size + 1 + 1, 1, none⟩ = some (.int .i64 now) := BA1.out.cell 1
  have ea2 : w1.cell? ⟨w.heap.size + 1 + 1, 2, none⟩ = some (.int .i64 cost) := BA1.out.cell 2
  go_wp2_with fail
  refine (radvance_is H0.out HA.out A cap _).mono ?_
  rintro e w2 ⟨rfl, hb2⟩
  clear ep0 ep1 ep2 ep3 ep4 ep5 es0 es1 es2 es3 ea0 ea1 ea2
  have BP2 := Lib.hid ((BP1.out.keep hb2).alloc (.cells (scells a.tm a.level a.held (.slice A 0 cap)) 32))
  have BS2 := Lib.hid ((BS1.out.keep hb2).alloc (.cells (scells a.tm a.level a.held (.slice A 0 cap)) 32))
  have BA2 := Lib.hid ((BA1.out.keep hb2).alloc (.cells (scells a.tm a.level a.held (.slice A 0 cap)) 32))
  have BZ2 := Lib.hid ((BZ1.out.keep hb2).alloc (.cells (scells a.tm a.level a.held (.slice A 0 cap)) 32))
  have BT2 := Lib.hid (Box.new w2 32 (scells a.tm a.level a.held (.slice A 0 cap)))
  have hB2 := HB1.out.trans (hb2.mono HB1.out.size)
  have HB2 := Lib.hid (hB2.alloc hB2.size (.cells (scells a.tm a.level a.held (.slice A 0 cap)) 32))
  have zb0 : w.heap.size + 1 + 1 + 1 < w2.heap.size := (BZ1.out.keep hb2).lt
  obtain ⟨b, hb⟩ : ∃ b, w2.heap.size = b := ⟨_, rfl⟩
  rw [hb] at BT2 zb0
  clear hb2 hB2
  go_wp2_with fail
  generalize w2.alloc (.cells (scells a.tm a.level a.held (.slice A 0 cap)) 32) = W2 at BP2 BS2 BA2 BZ2 BT2 HB2 ⊢
  have gp0 : ∀ g : Grow W2, g.w.cell? ⟨w.heap.size, 0, none⟩ = some (.int .i64 p.kind) := fun g => Grow.cell BP2.out g 0
  have gp1 : ∀ g : Grow W2, g.w.cell? ⟨w.heap.size, 1, none⟩ = some (.int .i64 p.limit) := fun g => Grow.cell BP2.out g 1
  have gp2 : ∀ g : Grow W2, g.w.cell? ⟨w.heap.size, 2, none⟩ = some (.int .i64 p.period) := fun g => Grow.cell BP2.out g 2
  have gp3 : ∀ g : Grow W2, g.w.cell? ⟨w.heap.size, 3, none⟩ = some (.int .i64 p.burst) := fun g => Grow.cell BP2.out g 3
  have gp4 : ∀ g : Grow W2, g.w.cell? ⟨w.heap.size, 4, none⟩ = some (.int .i64 p.cap) := fun g => Grow.cell BP2.out g 4
  have gp5 : ∀ g : Grow W2, g.w.cell? ⟨w.heap.size, 5, none⟩ = some (.bool p.opn) := fun g => Grow.cell BP2.out g 5
  have gs0 : ∀ g : Grow W2, g.w.cell? ⟨w.heap.size + 1, 0, none⟩ = some (.int .i64 s.tm) := fun g => Grow.cell BS2.out g 0
  have gs1 : ∀ g : Grow W2, g.w.cell? ⟨w.heap.size + 1, 1, none⟩ = some (.int .i64 s.level) := fun g => Grow.cell BS2.out g 1
  have gs2 : ∀ g : Grow W2, g.w.cell? ⟨w.heap.size + 1, 2, none⟩ = some (.int .i64 s.held) := fun g => Grow.cell BS2.out g 2
  have gs3 : ∀ g : Grow W2, g.w.cell? ⟨w.heap.size + 1, 3, none⟩ = some (.slice A s.log.length cap) := fun g => Grow.cell BS2.out g 3
  have ga0 : ∀ g : Grow W2, g.w.cell? ⟨w.heap.size + 1 + 1, 0, none⟩ = some (.int .i64 k) := fun g => Grow.cell BA2.out g 0
  have ga1 : ∀ g : Grow W2, g.w.cell? ⟨w.heap.size + 1 + 1, 1, none⟩ = some (.int .i64 now) := fun g => Grow.cell BA2.out g 1
  have ga2 : ∀ g : Grow W2, g.w.cell? ⟨w.heap.size + 1 + 1, 2, none⟩ = some (.int .i64 cost) := fun g => Grow.cell BA2.out g 2
  refine wp_region_grow (by kernel_rfl) (by kernel_rfl) ?_
  repeat (go_big_quiet_step ((go_at_call 32; exact grow_call (rroom_is HR.out A cap _))))
  refine wpQuiet_nil ?_
  intro _ hw'
  obtain ⟨gq, hw''⟩ := hw'
  subst hw''
  clear gp0 gp1 gp2 gp3 gp4 gp5 gs0 gs1 gs2 gs3 ga0 ga1 ga2
  have hbq := gq.below
  have BS3 := Lib.hid (BS2.out.keep hbq)
  have BA3 := Lib.hid (BA2.out.keep hbq)
  have BZ3 := Lib.hid (BZ2.out.keep hbq)
  have BT3 := Lib.hid (BT2.out.keep hbq)
  have HB3 := Lib.hid (HB2.out.trans (hbq.mono HB2.out.size))
  clear hbq hb
  generalize gq.w = W3 at BS3 BA3 BZ3 BT3 HB3 ⊢
  have hs0 : W3.cell? ⟨w.heap.size + 1, 0, none⟩ = some (.int .i64 s.tm) := BS3.out.cell 0
  have hs1 : W3.cell? ⟨w.heap.size + 1, 1, none⟩ = some (.int .i64 s.level) := BS3.out.cell 1
  have hs2 : W3.cell? ⟨w.heap.size + 1, 2, none⟩ = some (.int .i64 s.held) := BS3.out.cell 2
  have hs3 : W3.cell? ⟨w.heap.size + 1, 3, none⟩ = some (.slice A s.log.length cap) := BS3.out.cell 3
  have ha0 : W3.cell? ⟨w.heap.size + 1 + 1, 0, none⟩ = some (.int .i64 k) := BA3.out.cell 0
  have ha1 : W3.cell? ⟨w.heap.size + 1 + 1, 1, none⟩ = some (.int .i64 now) := BA3.out.cell 1
  have ha2 : W3.cell? ⟨w.heap.size + 1 + 1, 2, none⟩ = some (.int .i64 cost) := BA3.out.cell 2
  have ht0 : W3.cell? ⟨b, 0, none⟩ = some (.int .i64 a.tm) := BT3.out.cell 0
  have ht1 : W3.cell? ⟨b, 1, none⟩ = some (.int .i64 a.level) := BT3.out.cell 1
  have ht2 : W3.cell? ⟨b, 2, none⟩ = some (.int .i64 a.held) := BT3.out.cell 2
  have ht3 : W3.cell? ⟨b, 3, none⟩ = some (.slice A 0 cap) := BT3.out.cell 3
  have hf0 := BT3.out.free 0
  have hf1 := BT3.out.free 1
  have hf2 := BT3.out.free 2
  have hf3 := BT3.out.free 3
  have zn1 : ¬ (b = w.heap.size + 1 + 1) := by omega
  have zn2 : ¬ (w.heap.size + 1 + 1 = b) := by omega
  go_wp2_with (refine wpList_store_row rfl 32 _ _ rfl (w.heap.size + 1 + 1 + 1) (scells s.tm s.level s.held (.slice A s.log.length cap)) rfl rfl 32 _ BZ3.out st_size rfl (scells_one _ _ _ _ (slice_one _ _ _)) ?_)
  refine ret_st2 Try.results18 rfl rfl rfl (setRow_heap _ _ _ _ _ _ BZ3.out) ⟨rfl, ?_⟩
  exact below_setRow HB3.out (by omega) _
set_option maxHeartbeats 16000000 in
set_option maxRecDepth 100000 in
theorem rdo_noD (p : Pol) (s : St) (A : Option Addr) (cap : Nat) (k now cost : Int) (w : World) (a : St) (h0 : right p s = true) (ha : adv p s now = a) (r : Int) (hr : roomAt p s now = r) (hc : ¬ cost < 1) (hk : 1 ≤ k ∧ k ≤ 2) (hh : r < cost) :
    Calls Try.prog 18 #[p.val, s.val A s.log.length cap, .agg (acells k now cost)] w fun e w' => e = .returned (.tuple #[s.val A s.log.length cap, .bool false]) ∧ Below w.heap.size w w' := by
  have HR := Lib.hid hr
  clear hr
  have g1 : decide (cost < 1) = false := by simp; omega
  have g2 : decide (k < 1) = false := by simp; omega
  have g3 : decide (4 < k) = false := by simp; omega
  have g4 : decide (k ≤ 2) = true := by simp; omega
  have g5 : decide (r < cost) = true := by simp; omega
  clear hc hk hh
  have HB4 := Lib.hid (below_four w p.box (s.box A s.log.length cap) (.cells (acells k now cost) 38) (.cells (scells 0 0 0 (.slice none 0 0)) 32))
  have BP0 := Lib.hid (Box.alloc (Box.alloc (Box.alloc (Box.new w 23 (pcells p)) (s.box A s.log.length cap)) (.cells (acells k now cost) 38)) (.cells (scells 0 0 0 (.slice none 0 0)) 32))
  have BS0 := Lib.hid (Box.alloc (Box.alloc (Box.new1 w 32 (scells s.tm s.level s.held (.slice A s.log.length cap)) p.box) (.cells (acells k now cost) 38)) (.cells (scells 0 0 0 (.slice none 0 0)) 32))
  have H0 := Lib.hid h0
  have HA := Lib.hid ha
  have HOA := Lib.hid (show Ok p a by rw [← ha]; exact (right_ok h0).adv now)
  have l1 := HOA.out.rl
  have l2 := (right_ok h0).rl
  clear h0 ha
  unfold Pol.val St.val
  go_enter Try.func18, Try.ntmps18
  go_wp2_with fail
  refine (rright_yes H0.out A cap _).mono ?_
  rintro e w1 ⟨rfl, hb1⟩
  have BP1 := Lib.hid (BP0.out.keep hb1)
  have BS1 := Lib.hid (BS0.out.keep hb1)
  have BA1 := Lib.hid (show Box w1 (w.heap.size + 1 + 1) 38 (acells k now cost) from by unfold Box; rw [hb1.block _ (by simp)]; rw [heap_alloc_old _ _ (by simp)]; exact heap_alloc3_new _ _ _ _)
  have BZ1 := Lib.hid (show Box w1 (w.heap.size + 1 + 1 + 1) 32 (scells 0 0 0 (.slice none 0 0)) from by unfold Box; rw [hb1.block _ (by simp)]; exact (heap_alloc4 _ _ _ _ _).1)
  have HB1 := Lib.hid (HB4.out.trans (hb1.mono (by simp <;> omega)))
  clear hb1
  have ep0 : w1.cell? ⟨w.heap.size, 0, none⟩ = some (.int .i64 p.kind) := BP1.out.cell 0
  have ep1 : w1.cell? ⟨w.heap.size, 1, none⟩ = some (.int .i64 p.limit) := BP1.out.cell 1
  have ep2 : w1.cell? ⟨w.heap.size, 2, none⟩ = some (.int .i64 p.period) := BP1.out.cell 2
  have ep3 : w1.cell? ⟨w.heap.size, 3, none⟩ = some (.int .i64 p.burst) := BP1.out.cell 3
  have ep4 : w1.cell? ⟨w.heap.size, 4, none⟩ = some (.int .i64 p.cap) := BP1.out.cell 4
  have ep5 : w1.cell? ⟨w.heap.size, 5, none⟩ = some (.bool p.opn) := BP1.out.cell 5
  have es0 : w1.cell? ⟨w.heap.size + 1, 0, none⟩ = some (.int .i64 s.tm) := BS1.out.cell 0
  have es1 : w1.cell? ⟨w.heap.size + 1, 1, none⟩ = some (.int .i64 s.level) := BS1.out.cell 1
  have es2 : w1.cell? ⟨w.heap.size + 1, 2, none⟩ = some (.int .i64 s.held) := BS1.out.cell 2
  have es3 : w1.cell? ⟨w.heap.size + 1, 3, none⟩ = some (.slice A s.log.length cap) := BS1.out.cell 3
  have ea0 : w1.cell? ⟨w.heap.size + 1 + 1, 0, none⟩ = some (.int .i64 k) := BA1.out.cell 0
  have ea1 : w1.cell? ⟨w.heap.size + 1 + 1, 1, none⟩ = some (.int .i64 now) := BA1.out.cell 1
  have ea2 : w1.cell? ⟨w.heap.size + 1 + 1, 2, none⟩ = some (.int .i64 cost) := BA1.out.cell 2
  go_wp2_with fail
  refine (radvance_is H0.out HA.out A cap _).mono ?_
  rintro e w2 ⟨rfl, hb2⟩
  clear ep0 ep1 ep2 ep3 ep4 ep5 es0 es1 es2 es3 ea0 ea1 ea2
  have BP2 := Lib.hid ((BP1.out.keep hb2).alloc (.cells (scells a.tm a.level a.held (.slice A 0 cap)) 32))
  have BS2 := Lib.hid ((BS1.out.keep hb2).alloc (.cells (scells a.tm a.level a.held (.slice A 0 cap)) 32))
  have BA2 := Lib.hid ((BA1.out.keep hb2).alloc (.cells (scells a.tm a.level a.held (.slice A 0 cap)) 32))
  have BZ2 := Lib.hid ((BZ1.out.keep hb2).alloc (.cells (scells a.tm a.level a.held (.slice A 0 cap)) 32))
  have BT2 := Lib.hid (Box.new w2 32 (scells a.tm a.level a.held (.slice A 0 cap)))
  have hB2 := HB1.out.trans (hb2.mono HB1.out.size)
  have HB2 := Lib.hid (hB2.alloc hB2.size (.cells (scells a.tm a.level a.held (.slice A 0 cap)) 32))
  have zb0 : w.heap.size + 1 + 1 + 1 < w2.heap.size := (BZ1.out.keep hb2).lt
  obtain ⟨b, hb⟩ : ∃ b, w2.heap.size = b := ⟨_, rfl⟩
  rw [hb] at BT2 zb0
  clear hb2 hB2
  go_wp2_with fail
  generalize w2.alloc (.cells (scells a.tm a.level a.held (.slice A 0 cap)) 32) = W2 at BP2 BS2 BA2 BZ2 BT2 HB2 ⊢
  have gp0 : ∀ g : Grow W2, g.w.cell? ⟨w.heap.size, 0, none⟩ = some (.int .i64 p.kind) := fun g => Grow.cell BP2.out g 0
  have gp1 : ∀ g : Grow W2, g.w.cell? ⟨w.heap.size, 1, none⟩ = some (.int .i64 p.limit) := fun g => Grow.cell BP2.out g 1
  have gp2 : ∀ g : Grow W2, g.w.cell? ⟨w.heap.size, 2, none⟩ = some (.int .i64 p.period) := fun g => Grow.cell BP2.out g 2
  have gp3 : ∀ g : Grow W2, g.w.cell? ⟨w.heap.size, 3, none⟩ = some (.int .i64 p.burst) := fun g => Grow.cell BP2.out g 3
  have gp4 : ∀ g : Grow W2, g.w.cell? ⟨w.heap.size, 4, none⟩ = some (.int .i64 p.cap) := fun g => Grow.cell BP2.out g 4
  have gp5 : ∀ g : Grow W2, g.w.cell? ⟨w.heap.size, 5, none⟩ = some (.bool p.opn) := fun g => Grow.cell BP2.out g 5
  have gs0 : ∀ g : Grow W2, g.w.cell? ⟨w.heap.size + 1, 0, none⟩ = some (.int .i64 s.tm) := fun g => Grow.cell BS2.out g 0
  have gs1 : ∀ g : Grow W2, g.w.cell? ⟨w.heap.size + 1, 1, none⟩ = some (.int .i64 s.level) := fun g => Grow.cell BS2.out g 1
  have gs2 : ∀ g : Grow W2, g.w.cell? ⟨w.heap.size + 1, 2, none⟩ = some (.int .i64 s.held) := fun g => Grow.cell BS2.out g 2
  have gs3 : ∀ g : Grow W2, g.w.cell? ⟨w.heap.size + 1, 3, none⟩ = some (.slice A s.log.length cap) := fun g => Grow.cell BS2.out g 3
  have ga0 : ∀ g : Grow W2, g.w.cell? ⟨w.heap.size + 1 + 1, 0, none⟩ = some (.int .i64 k) := fun g => Grow.cell BA2.out g 0
  have ga1 : ∀ g : Grow W2, g.w.cell? ⟨w.heap.size + 1 + 1, 1, none⟩ = some (.int .i64 now) := fun g => Grow.cell BA2.out g 1
  have ga2 : ∀ g : Grow W2, g.w.cell? ⟨w.heap.size + 1 + 1, 2, none⟩ = some (.int .i64 cost) := fun g => Grow.cell BA2.out g 2
  refine wp_region_grow (by kernel_rfl) (by kernel_rfl) ?_
  repeat (go_big_quiet_step ((go_at_call 32; exact grow_call (rroom_is HR.out A cap _))))
  refine wpQuiet_nil ?_
  intro _ hw'
  obtain ⟨gq, hw''⟩ := hw'
  subst hw''
  clear gp0 gp1 gp2 gp3 gp4 gp5 gs0 gs1 gs2 gs3 ga0 ga1 ga2
  have hbq := gq.below
  have BS3 := Lib.hid (BS2.out.keep hbq)
  have BA3 := Lib.hid (BA2.out.keep hbq)
  have BZ3 := Lib.hid (BZ2.out.keep hbq)
  have BT3 := Lib.hid (BT2.out.keep hbq)
  have HB3 := Lib.hid (HB2.out.trans (hbq.mono HB2.out.size))
  clear hbq hb
  generalize gq.w = W3 at BS3 BA3 BZ3 BT3 HB3 ⊢
  have hs0 : W3.cell? ⟨w.heap.size + 1, 0, none⟩ = some (.int .i64 s.tm) := BS3.out.cell 0
  have hs1 : W3.cell? ⟨w.heap.size + 1, 1, none⟩ = some (.int .i64 s.level) := BS3.out.cell 1
  have hs2 : W3.cell? ⟨w.heap.size + 1, 2, none⟩ = some (.int .i64 s.held) := BS3.out.cell 2
  have hs3 : W3.cell? ⟨w.heap.size + 1, 3, none⟩ = some (.slice A s.log.length cap) := BS3.out.cell 3
  have ha0 : W3.cell? ⟨w.heap.size + 1 + 1, 0, none⟩ = some (.int .i64 k) := BA3.out.cell 0
  have ha1 : W3.cell? ⟨w.heap.size + 1 + 1, 1, none⟩ = some (.int .i64 now) := BA3.out.cell 1
  have ha2 : W3.cell? ⟨w.heap.size + 1 + 1, 2, none⟩ = some (.int .i64 cost) := BA3.out.cell 2
  have ht0 : W3.cell? ⟨b, 0, none⟩ = some (.int .i64 a.tm) := BT3.out.cell 0
  have ht1 : W3.cell? ⟨b, 1, none⟩ = some (.int .i64 a.level) := BT3.out.cell 1
  have ht2 : W3.cell? ⟨b, 2, none⟩ = some (.int .i64 a.held) := BT3.out.cell 2
  have ht3 : W3.cell? ⟨b, 3, none⟩ = some (.slice A 0 cap) := BT3.out.cell 3
  have hf0 := BT3.out.free 0
  have hf1 := BT3.out.free 1
  have hf2 := BT3.out.free 2
  have hf3 := BT3.out.free 3
  have zn1 : ¬ (b = w.heap.size + 1 + 1) := by omega
  have zn2 : ¬ (w.heap.size + 1 + 1 = b) := by omega
  go_wp2_with (refine wpList_store_row rfl 32 _ _ rfl (w.heap.size + 1 + 1 + 1) (scells s.tm s.level s.held (.slice A s.log.length cap)) rfl rfl 32 _ BZ3.out st_size rfl (scells_one _ _ _ _ (slice_one _ _ _)) ?_)
  refine ret_st2 Try.results18 rfl rfl rfl (setRow_heap _ _ _ _ _ _ BZ3.out) ⟨rfl, ?_⟩
  exact below_setRow HB3.out (by omega) _
set_option maxHeartbeats 16000000 in
set_option maxRecDepth 100000 in
theorem rdo_noE (p : Pol) (s : St) (A : Option Addr) (cap : Nat) (k now cost : Int) (w : World) (a : St) (h0 : right p s = true) (ha : adv p s now = a) (r : Int) (hr : roomAt p s now = r) (hc : ¬ cost < 1) (hk : 3 ≤ k ∧ k ≤ 4) (hh : s.held < cost) :
    Calls Try.prog 18 #[p.val, s.val A s.log.length cap, .agg (acells k now cost)] w fun e w' => e = .returned (.tuple #[s.val A s.log.length cap, .bool false]) ∧ Below w.heap.size w w' := by
  have HR := Lib.hid hr
  clear hr
  have g1 : decide (cost < 1) = false := by simp; omega
  have g2 : decide (k < 1) = false := by simp; omega
  have g3 : decide (4 < k) = false := by simp; omega
  have g4 : decide (k ≤ 2) = false := by simp; omega
  have g5 : decide (3 ≤ k) = true := by simp; omega
  have g6 : decide (s.held < cost) = true := by simp; omega
  clear hc hk hh
  have HB4 := Lib.hid (below_four w p.box (s.box A s.log.length cap) (.cells (acells k now cost) 38) (.cells (scells 0 0 0 (.slice none 0 0)) 32))
  have BP0 := Lib.hid (Box.alloc (Box.alloc (Box.alloc (Box.new w 23 (pcells p)) (s.box A s.log.length cap)) (.cells (acells k now cost) 38)) (.cells (scells 0 0 0 (.slice none 0 0)) 32))
  have BS0 := Lib.hid (Box.alloc (Box.alloc (Box.new1 w 32 (scells s.tm s.level s.held (.slice A s.log.length cap)) p.box) (.cells (acells k now cost) 38)) (.cells (scells 0 0 0 (.slice none 0 0)) 32))
  have H0 := Lib.hid h0
  have HA := Lib.hid ha
  have HOA := Lib.hid (show Ok p a by rw [← ha]; exact (right_ok h0).adv now)
  have l1 := HOA.out.rl
  have l2 := (right_ok h0).rl
  clear h0 ha
  unfold Pol.val St.val
  go_enter Try.func18, Try.ntmps18
  go_wp2_with fail
  refine (rright_yes H0.out A cap _).mono ?_
  rintro e w1 ⟨rfl, hb1⟩
  have BP1 := Lib.hid (BP0.out.keep hb1)
  have BS1 := Lib.hid (BS0.out.keep hb1)
  have BA1 := Lib.hid (show Box w1 (w.heap.size + 1 + 1) 38 (acells k now cost) from by unfold Box; rw [hb1.block _ (by simp)]; rw [heap_alloc_old _ _ (by simp)]; exact heap_alloc3_new _ _ _ _)
  have BZ1 := Lib.hid (show Box w1 (w.heap.size + 1 + 1 + 1) 32 (scells 0 0 0 (.slice none 0 0)) from by unfold Box; rw [hb1.block _ (by simp)]; exact (heap_alloc4 _ _ _ _ _).1)
  have HB1 := Lib.hid (HB4.out.trans (hb1.mono (by simp <;> omega)))
  clear hb1
  have ep0 : w1.cell? ⟨w.heap.size, 0, none⟩ = some (.int .i64 p.kind) := BP1.out.cell 0
  have ep1 : w1.cell? ⟨w.heap.size, 1, none⟩ = some (.int .i64 p.limit) := BP1.out.cell 1
  have ep2 : w1.cell? ⟨w.heap.size, 2, none⟩ = some (.int .i64 p.period) := BP1.out.cell 2
  have ep3 : w1.cell? ⟨w.heap.size, 3, none⟩ = some (.int .i64 p.burst) := BP1.out.cell 3
  have ep4 : w1.cell? ⟨w.heap.size, 4, none⟩ = some (.int .i64 p.cap) := BP1.out.cell 4
  have ep5 : w1.cell? ⟨w.heap.size, 5, none⟩ = some (.bool p.opn) := BP1.out.cell 5
  have es0 : w1.cell? ⟨w.heap.size + 1, 0, none⟩ = some (.int .i64 s.tm) := BS1.out.cell 0
  have es1 : w1.cell? ⟨w.heap.size + 1, 1, none⟩ = some (.int .i64 s.level) := BS1.out.cell 1
  have es2 : w1.cell? ⟨w.heap.size + 1, 2, none⟩ = some (.int .i64 s.held) := BS1.out.cell 2
  have es3 : w1.cell? ⟨w.heap.size + 1, 3, none⟩ = some (.slice A s.log.length cap) := BS1.out.cell 3
  have ea0 : w1.cell? ⟨w.heap.size + 1 + 1, 0, none⟩ = some (.int .i64 k) := BA1.out.cell 0
  have ea1 : w1.cell? ⟨w.heap.size + 1 + 1, 1, none⟩ = some (.int .i64 now) := BA1.out.cell 1
  have ea2 : w1.cell? ⟨w.heap.size + 1 + 1, 2, none⟩ = some (.int .i64 cost) := BA1.out.cell 2
  go_wp2_with fail
  refine (radvance_is H0.out HA.out A cap _).mono ?_
  rintro e w2 ⟨rfl, hb2⟩
  clear ep0 ep1 ep2 ep3 ep4 ep5 es0 es1 es2 es3 ea0 ea1 ea2
  have BP2 := Lib.hid ((BP1.out.keep hb2).alloc (.cells (scells a.tm a.level a.held (.slice A 0 cap)) 32))
  have BS2 := Lib.hid ((BS1.out.keep hb2).alloc (.cells (scells a.tm a.level a.held (.slice A 0 cap)) 32))
  have BA2 := Lib.hid ((BA1.out.keep hb2).alloc (.cells (scells a.tm a.level a.held (.slice A 0 cap)) 32))
  have BZ2 := Lib.hid ((BZ1.out.keep hb2).alloc (.cells (scells a.tm a.level a.held (.slice A 0 cap)) 32))
  have BT2 := Lib.hid (Box.new w2 32 (scells a.tm a.level a.held (.slice A 0 cap)))
  have hB2 := HB1.out.trans (hb2.mono HB1.out.size)
  have HB2 := Lib.hid (hB2.alloc hB2.size (.cells (scells a.tm a.level a.held (.slice A 0 cap)) 32))
  have zb0 : w.heap.size + 1 + 1 + 1 < w2.heap.size := (BZ1.out.keep hb2).lt
  obtain ⟨b, hb⟩ : ∃ b, w2.heap.size = b := ⟨_, rfl⟩
  rw [hb] at BT2 zb0
  clear hb2 hB2
  go_wp2_with fail
  generalize w2.alloc (.cells (scells a.tm a.level a.held (.slice A 0 cap)) 32) = W2 at BP2 BS2 BA2 BZ2 BT2 HB2 ⊢
  have gp0 : ∀ g : Grow W2, g.w.cell? ⟨w.heap.size, 0, none⟩ = some (.int .i64 p.kind) := fun g => Grow.cell BP2.out g 0
  have gp1 : ∀ g : Grow W2, g.w.cell? ⟨w.heap.size, 1, none⟩ = some (.int .i64 p.limit) := fun g => Grow.cell BP2.out g 1
  have gp2 : ∀ g : Grow W2, g.w.cell? ⟨w.heap.size, 2, none⟩ = some (.int .i64 p.period) := fun g => Grow.cell BP2.out g 2
  have gp3 : ∀ g : Grow W2, g.w.cell? ⟨w.heap.size, 3, none⟩ = some (.int .i64 p.burst) := fun g => Grow.cell BP2.out g 3
  have gp4 : ∀ g : Grow W2, g.w.cell? ⟨w.heap.size, 4, none⟩ = some (.int .i64 p.cap) := fun g => Grow.cell BP2.out g 4
  have gp5 : ∀ g : Grow W2, g.w.cell? ⟨w.heap.size, 5, none⟩ = some (.bool p.opn) := fun g => Grow.cell BP2.out g 5
  have gs0 : ∀ g : Grow W2, g.w.cell? ⟨w.heap.size + 1, 0, none⟩ = some (.int .i64 s.tm) := fun g => Grow.cell BS2.out g 0
  have gs1 : ∀ g : Grow W2, g.w.cell? ⟨w.heap.size + 1, 1, none⟩ = some (.int .i64 s.level) := fun g => Grow.cell BS2.out g 1
  have gs2 : ∀ g : Grow W2, g.w.cell? ⟨w.heap.size + 1, 2, none⟩ = some (.int .i64 s.held) := fun g => Grow.cell BS2.out g 2
  have gs3 : ∀ g : Grow W2, g.w.cell? ⟨w.heap.size + 1, 3, none⟩ = some (.slice A s.log.length cap) := fun g => Grow.cell BS2.out g 3
  have ga0 : ∀ g : Grow W2, g.w.cell? ⟨w.heap.size + 1 + 1, 0, none⟩ = some (.int .i64 k) := fun g => Grow.cell BA2.out g 0
  have ga1 : ∀ g : Grow W2, g.w.cell? ⟨w.heap.size + 1 + 1, 1, none⟩ = some (.int .i64 now) := fun g => Grow.cell BA2.out g 1
  have ga2 : ∀ g : Grow W2, g.w.cell? ⟨w.heap.size + 1 + 1, 2, none⟩ = some (.int .i64 cost) := fun g => Grow.cell BA2.out g 2
  refine wp_region_grow (by kernel_rfl) (by kernel_rfl) ?_
  repeat (go_big_quiet_step ((go_at_call 32; exact grow_call (rroom_is HR.out A cap _))))
  refine wpQuiet_nil ?_
  intro _ hw'
  obtain ⟨gq, hw''⟩ := hw'
  subst hw''
  clear gp0 gp1 gp2 gp3 gp4 gp5 gs0 gs1 gs2 gs3 ga0 ga1 ga2
  have hbq := gq.below
  have BS3 := Lib.hid (BS2.out.keep hbq)
  have BA3 := Lib.hid (BA2.out.keep hbq)
  have BZ3 := Lib.hid (BZ2.out.keep hbq)
  have BT3 := Lib.hid (BT2.out.keep hbq)
  have HB3 := Lib.hid (HB2.out.trans (hbq.mono HB2.out.size))
  clear hbq hb
  generalize gq.w = W3 at BS3 BA3 BZ3 BT3 HB3 ⊢
  have hs0 : W3.cell? ⟨w.heap.size + 1, 0, none⟩ = some (.int .i64 s.tm) := BS3.out.cell 0
  have hs1 : W3.cell? ⟨w.heap.size + 1, 1, none⟩ = some (.int .i64 s.level) := BS3.out.cell 1
  have hs2 : W3.cell? ⟨w.heap.size + 1, 2, none⟩ = some (.int .i64 s.held) := BS3.out.cell 2
  have hs3 : W3.cell? ⟨w.heap.size + 1, 3, none⟩ = some (.slice A s.log.length cap) := BS3.out.cell 3
  have ha0 : W3.cell? ⟨w.heap.size + 1 + 1, 0, none⟩ = some (.int .i64 k) := BA3.out.cell 0
  have ha1 : W3.cell? ⟨w.heap.size + 1 + 1, 1, none⟩ = some (.int .i64 now) := BA3.out.cell 1
  have ha2 : W3.cell? ⟨w.heap.size + 1 + 1, 2, none⟩ = some (.int .i64 cost) := BA3.out.cell 2
  have ht0 : W3.cell? ⟨b, 0, none⟩ = some (.int .i64 a.tm) := BT3.out.cell 0
  have ht1 : W3.cell? ⟨b, 1, none⟩ = some (.int .i64 a.level) := BT3.out.cell 1
  have ht2 : W3.cell? ⟨b, 2, none⟩ = some (.int .i64 a.held) := BT3.out.cell 2
  have ht3 : W3.cell? ⟨b, 3, none⟩ = some (.slice A 0 cap) := BT3.out.cell 3
  have hf0 := BT3.out.free 0
  have hf1 := BT3.out.free 1
  have hf2 := BT3.out.free 2
  have hf3 := BT3.out.free 3
  have zn1 : ¬ (b = w.heap.size + 1 + 1) := by omega
  have zn2 : ¬ (w.heap.size + 1 + 1 = b) := by omega
  go_wp2_with (refine wpList_store_row rfl 32 _ _ rfl (w.heap.size + 1 + 1 + 1) (scells s.tm s.level s.held (.slice A s.log.length cap)) rfl rfl 32 _ BZ3.out st_size rfl (scells_one _ _ _ _ (slice_one _ _ _)) ?_)
  refine ret_st2 Try.results18 rfl rfl rfl (setRow_heap _ _ _ _ _ _ BZ3.out) ⟨rfl, ?_⟩
  exact below_setRow HB3.out (by omega) _
set_option maxHeartbeats 16000000 in
set_option maxRecDepth 100000 in
theorem rdo_yes1 (p : Pol) (s : St) (A : Option Addr) (cap : Nat) (now cost : Int) (w : World) (a : St) (h0 : right p s = true) (ha : adv p s now = a) (r : Int) (hr : roomAt p s now = r) (hc : ¬ cost < 1) (hh : ¬ r < cost) (hm : cost ≤ 1048576) :
    Calls Try.prog 18 #[p.val, s.val A s.log.length cap, .agg (acells 1 now cost)] w fun e w' => e = .returned (.tuple #[(dn a 1 cost).val A 0 cap, .bool true]) ∧ Below w.heap.size w w' := by
  have HR := Lib.hid hr
  clear hr
  have g1 : decide (cost < 1) = false := by simp; omega
  have g5 : decide (r < cost) = false := by simp; omega
  rw [dn_1]
  have HB4 := Lib.hid (below_four w p.box (s.box A s.log.length cap) (.cells (acells 1 now cost) 38) (.cells (scells 0 0 0 (.slice none 0 0)) 32))
  have BP0 := Lib.hid (Box.alloc (Box.alloc (Box.alloc (Box.new w 23 (pcells p)) (s.box A s.log.length cap)) (.cells (acells 1 now cost) 38)) (.cells (scells 0 0 0 (.slice none 0 0)) 32))
  have BS0 := Lib.hid (Box.alloc (Box.alloc (Box.new1 w 32 (scells s.tm s.level s.held (.slice A s.log.length cap)) p.box) (.cells (acells 1 now cost) 38)) (.cells (scells 0 0 0 (.slice none 0 0)) 32))
  have H0 := Lib.hid h0
  have HA := Lib.hid ha
  have HOA := Lib.hid (show Ok p a by rw [← ha]; exact (right_ok h0).adv now)
  have l1 := HOA.out.rl
  have l2 := (right_ok h0).rl
  clear h0 ha
  unfold Pol.val St.val
  go_enter Try.func18, Try.ntmps18
  go_wp2_with fail
  refine (rright_yes H0.out A cap _).mono ?_
  rintro e w1 ⟨rfl, hb1⟩
  have BP1 := Lib.hid (BP0.out.keep hb1)
  have BS1 := Lib.hid (BS0.out.keep hb1)
  have BA1 := Lib.hid (show Box w1 (w.heap.size + 1 + 1) 38 (acells 1 now cost) from by unfold Box; rw [hb1.block _ (by simp)]; rw [heap_alloc_old _ _ (by simp)]; exact heap_alloc3_new _ _ _ _)
  have BZ1 := Lib.hid (show Box w1 (w.heap.size + 1 + 1 + 1) 32 (scells 0 0 0 (.slice none 0 0)) from by unfold Box; rw [hb1.block _ (by simp)]; exact (heap_alloc4 _ _ _ _ _).1)
  have HB1 := Lib.hid (HB4.out.trans (hb1.mono (by simp <;> omega)))
  clear hb1
  have ep0 : w1.cell? ⟨w.heap.size, 0, none⟩ = some (.int .i64 p.kind) := BP1.out.cell 0
  have ep1 : w1.cell? ⟨w.heap.size, 1, none⟩ = some (.int .i64 p.limit) := BP1.out.cell 1
  have ep2 : w1.cell? ⟨w.heap.size, 2, none⟩ = some (.int .i64 p.period) := BP1.out.cell 2
  have ep3 : w1.cell? ⟨w.heap.size, 3, none⟩ = some (.int .i64 p.burst) := BP1.out.cell 3
  have ep4 : w1.cell? ⟨w.heap.size, 4, none⟩ = some (.int .i64 p.cap) := BP1.out.cell 4
  have ep5 : w1.cell? ⟨w.heap.size, 5, none⟩ = some (.bool p.opn) := BP1.out.cell 5
  have es0 : w1.cell? ⟨w.heap.size + 1, 0, none⟩ = some (.int .i64 s.tm) := BS1.out.cell 0
  have es1 : w1.cell? ⟨w.heap.size + 1, 1, none⟩ = some (.int .i64 s.level) := BS1.out.cell 1
  have es2 : w1.cell? ⟨w.heap.size + 1, 2, none⟩ = some (.int .i64 s.held) := BS1.out.cell 2
  have es3 : w1.cell? ⟨w.heap.size + 1, 3, none⟩ = some (.slice A s.log.length cap) := BS1.out.cell 3
  have ea0 : w1.cell? ⟨w.heap.size + 1 + 1, 0, none⟩ = some (.int .i64 1) := BA1.out.cell 0
  have ea1 : w1.cell? ⟨w.heap.size + 1 + 1, 1, none⟩ = some (.int .i64 now) := BA1.out.cell 1
  have ea2 : w1.cell? ⟨w.heap.size + 1 + 1, 2, none⟩ = some (.int .i64 cost) := BA1.out.cell 2
  go_wp2_with fail
  refine (radvance_is H0.out HA.out A cap _).mono ?_
  rintro e w2 ⟨rfl, hb2⟩
  clear ep0 ep1 ep2 ep3 ep4 ep5 es0 es1 es2 es3 ea0 ea1 ea2
  have BP2 := Lib.hid ((BP1.out.keep hb2).alloc (.cells (scells a.tm a.level a.held (.slice A 0 cap)) 32))
  have BS2 := Lib.hid ((BS1.out.keep hb2).alloc (.cells (scells a.tm a.level a.held (.slice A 0 cap)) 32))
  have BA2 := Lib.hid ((BA1.out.keep hb2).alloc (.cells (scells a.tm a.level a.held (.slice A 0 cap)) 32))
  have BZ2 := Lib.hid ((BZ1.out.keep hb2).alloc (.cells (scells a.tm a.level a.held (.slice A 0 cap)) 32))
  have BT2 := Lib.hid (Box.new w2 32 (scells a.tm a.level a.held (.slice A 0 cap)))
  have hB2 := HB1.out.trans (hb2.mono HB1.out.size)
  have HB2 := Lib.hid (hB2.alloc hB2.size (.cells (scells a.tm a.level a.held (.slice A 0 cap)) 32))
  have zb0 : w.heap.size + 1 + 1 + 1 < w2.heap.size := (BZ1.out.keep hb2).lt
  obtain ⟨b, hb⟩ : ∃ b, w2.heap.size = b := ⟨_, rfl⟩
  rw [hb] at BT2 zb0
  clear hb2 hB2
  go_wp2_with fail
  generalize w2.alloc (.cells (scells a.tm a.level a.held (.slice A 0 cap)) 32) = W2 at BP2 BS2 BA2 BZ2 BT2 HB2 ⊢
  have gp0 : ∀ g : Grow W2, g.w.cell? ⟨w.heap.size, 0, none⟩ = some (.int .i64 p.kind) := fun g => Grow.cell BP2.out g 0
  have gp1 : ∀ g : Grow W2, g.w.cell? ⟨w.heap.size, 1, none⟩ = some (.int .i64 p.limit) := fun g => Grow.cell BP2.out g 1
  have gp2 : ∀ g : Grow W2, g.w.cell? ⟨w.heap.size, 2, none⟩ = some (.int .i64 p.period) := fun g => Grow.cell BP2.out g 2
  have gp3 : ∀ g : Grow W2, g.w.cell? ⟨w.heap.size, 3, none⟩ = some (.int .i64 p.burst) := fun g => Grow.cell BP2.out g 3
  have gp4 : ∀ g : Grow W2, g.w.cell? ⟨w.heap.size, 4, none⟩ = some (.int .i64 p.cap) := fun g => Grow.cell BP2.out g 4
  have gp5 : ∀ g : Grow W2, g.w.cell? ⟨w.heap.size, 5, none⟩ = some (.bool p.opn) := fun g => Grow.cell BP2.out g 5
  have gs0 : ∀ g : Grow W2, g.w.cell? ⟨w.heap.size + 1, 0, none⟩ = some (.int .i64 s.tm) := fun g => Grow.cell BS2.out g 0
  have gs1 : ∀ g : Grow W2, g.w.cell? ⟨w.heap.size + 1, 1, none⟩ = some (.int .i64 s.level) := fun g => Grow.cell BS2.out g 1
  have gs2 : ∀ g : Grow W2, g.w.cell? ⟨w.heap.size + 1, 2, none⟩ = some (.int .i64 s.held) := fun g => Grow.cell BS2.out g 2
  have gs3 : ∀ g : Grow W2, g.w.cell? ⟨w.heap.size + 1, 3, none⟩ = some (.slice A s.log.length cap) := fun g => Grow.cell BS2.out g 3
  have ga0 : ∀ g : Grow W2, g.w.cell? ⟨w.heap.size + 1 + 1, 0, none⟩ = some (.int .i64 1) := fun g => Grow.cell BA2.out g 0
  have ga1 : ∀ g : Grow W2, g.w.cell? ⟨w.heap.size + 1 + 1, 1, none⟩ = some (.int .i64 now) := fun g => Grow.cell BA2.out g 1
  have ga2 : ∀ g : Grow W2, g.w.cell? ⟨w.heap.size + 1 + 1, 2, none⟩ = some (.int .i64 cost) := fun g => Grow.cell BA2.out g 2
  refine wp_region_grow (by kernel_rfl) (by kernel_rfl) ?_
  repeat (go_big_quiet_step ((go_at_call 32; exact grow_call (rroom_is HR.out A cap _))))
  refine wpQuiet_nil ?_
  intro _ hw'
  obtain ⟨gq, hw''⟩ := hw'
  subst hw''
  clear gp0 gp1 gp2 gp3 gp4 gp5 gs0 gs1 gs2 gs3 ga0 ga1 ga2
  have hbq := gq.below
  have BS3 := Lib.hid (BS2.out.keep hbq)
  have BA3 := Lib.hid (BA2.out.keep hbq)
  have BZ3 := Lib.hid (BZ2.out.keep hbq)
  have BT3 := Lib.hid (BT2.out.keep hbq)
  have HB3 := Lib.hid (HB2.out.trans (hbq.mono HB2.out.size))
  clear hbq hb
  generalize gq.w = W3 at BS3 BA3 BZ3 BT3 HB3 ⊢
  have hs0 : W3.cell? ⟨w.heap.size + 1, 0, none⟩ = some (.int .i64 s.tm) := BS3.out.cell 0
  have hs1 : W3.cell? ⟨w.heap.size + 1, 1, none⟩ = some (.int .i64 s.level) := BS3.out.cell 1
  have hs2 : W3.cell? ⟨w.heap.size + 1, 2, none⟩ = some (.int .i64 s.held) := BS3.out.cell 2
  have hs3 : W3.cell? ⟨w.heap.size + 1, 3, none⟩ = some (.slice A s.log.length cap) := BS3.out.cell 3
  have ha0 : W3.cell? ⟨w.heap.size + 1 + 1, 0, none⟩ = some (.int .i64 1) := BA3.out.cell 0
  have ha1 : W3.cell? ⟨w.heap.size + 1 + 1, 1, none⟩ = some (.int .i64 now) := BA3.out.cell 1
  have ha2 : W3.cell? ⟨w.heap.size + 1 + 1, 2, none⟩ = some (.int .i64 cost) := BA3.out.cell 2
  have ht0 : W3.cell? ⟨b, 0, none⟩ = some (.int .i64 a.tm) := BT3.out.cell 0
  have ht1 : W3.cell? ⟨b, 1, none⟩ = some (.int .i64 a.level) := BT3.out.cell 1
  have ht2 : W3.cell? ⟨b, 2, none⟩ = some (.int .i64 a.held) := BT3.out.cell 2
  have ht3 : W3.cell? ⟨b, 3, none⟩ = some (.slice A 0 cap) := BT3.out.cell 3
  have hf0 := BT3.out.free 0
  have hf1 := BT3.out.free 1
  have hf2 := BT3.out.free 2
  have hf3 := BT3.out.free 3
  have zn1 : ¬ (b = w.heap.size + 1 + 1) := by omega
  have zn2 : ¬ (w.heap.size + 1 + 1 = b) := by omega
  go_wp2_with (refine wpList_store_row rfl 32 _ _ rfl (w.heap.size + 1 + 1 + 1) (scells a.tm (a.level + cost) (a.held) (.slice A 0 cap)) rfl rfl 32 _ (Box.far1 BZ3.out (Nat.ne_of_lt zb0) 1 _) st_size rfl (scells_one _ _ _ _ (slice_one _ _ _)) ?_)
  refine ret_st2 Try.results18 rfl rfl rfl (setRow_heap _ _ _ _ _ _ (Box.far1 BZ3.out (Nat.ne_of_lt zb0) 1 _)) ⟨rfl, ?_⟩
  exact below_setRow (Below.setCell HB3.out (show w.heap.size ≤ (⟨b, 1, none⟩ : Addr).block from by show w.heap.size ≤ b; omega) _) (by omega) _
set_option maxHeartbeats 16000000 in
set_option maxRecDepth 100000 in
theorem rdo_yes2 (p : Pol) (s : St) (A : Option Addr) (cap : Nat) (now cost : Int) (w : World) (a : St) (h0 : right p s = true) (ha : adv p s now = a) (r : Int) (hr : roomAt p s now = r) (hc : ¬ cost < 1) (hh : ¬ r < cost) (hm : cost ≤ 1048576) :
    Calls Try.prog 18 #[p.val, s.val A s.log.length cap, .agg (acells 2 now cost)] w fun e w' => e = .returned (.tuple #[(dn a 2 cost).val A 0 cap, .bool true]) ∧ Below w.heap.size w w' := by
  have HR := Lib.hid hr
  clear hr
  have g1 : decide (cost < 1) = false := by simp; omega
  have g5 : decide (r < cost) = false := by simp; omega
  rw [dn_2]
  have HB4 := Lib.hid (below_four w p.box (s.box A s.log.length cap) (.cells (acells 2 now cost) 38) (.cells (scells 0 0 0 (.slice none 0 0)) 32))
  have BP0 := Lib.hid (Box.alloc (Box.alloc (Box.alloc (Box.new w 23 (pcells p)) (s.box A s.log.length cap)) (.cells (acells 2 now cost) 38)) (.cells (scells 0 0 0 (.slice none 0 0)) 32))
  have BS0 := Lib.hid (Box.alloc (Box.alloc (Box.new1 w 32 (scells s.tm s.level s.held (.slice A s.log.length cap)) p.box) (.cells (acells 2 now cost) 38)) (.cells (scells 0 0 0 (.slice none 0 0)) 32))
  have H0 := Lib.hid h0
  have HA := Lib.hid ha
  have HOA := Lib.hid (show Ok p a by rw [← ha]; exact (right_ok h0).adv now)
  have l1 := HOA.out.rl
  have l2 := (right_ok h0).rl
  clear h0 ha
  unfold Pol.val St.val
  go_enter Try.func18, Try.ntmps18
  go_wp2_with fail
  refine (rright_yes H0.out A cap _).mono ?_
  rintro e w1 ⟨rfl, hb1⟩
  have BP1 := Lib.hid (BP0.out.keep hb1)
  have BS1 := Lib.hid (BS0.out.keep hb1)
  have BA1 := Lib.hid (show Box w1 (w.heap.size + 1 + 1) 38 (acells 2 now cost) from by unfold Box; rw [hb1.block _ (by simp)]; rw [heap_alloc_old _ _ (by simp)]; exact heap_alloc3_new _ _ _ _)
  have BZ1 := Lib.hid (show Box w1 (w.heap.size + 1 + 1 + 1) 32 (scells 0 0 0 (.slice none 0 0)) from by unfold Box; rw [hb1.block _ (by simp)]; exact (heap_alloc4 _ _ _ _ _).1)
  have HB1 := Lib.hid (HB4.out.trans (hb1.mono (by simp <;> omega)))
  clear hb1
  have ep0 : w1.cell? ⟨w.heap.size, 0, none⟩ = some (.int .i64 p.kind) := BP1.out.cell 0
  have ep1 : w1.cell? ⟨w.heap.size, 1, none⟩ = some (.int .i64 p.limit) := BP1.out.cell 1
  have ep2 : w1.cell? ⟨w.heap.size, 2, none⟩ = some (.int .i64 p.period) := BP1.out.cell 2
  have ep3 : w1.cell? ⟨w.heap.size, 3, none⟩ = some (.int .i64 p.burst) := BP1.out.cell 3
  have ep4 : w1.cell? ⟨w.heap.size, 4, none⟩ = some (.int .i64 p.cap) := BP1.out.cell 4
  have ep5 : w1.cell? ⟨w.heap.size, 5, none⟩ = some (.bool p.opn) := BP1.out.cell 5
  have es0 : w1.cell? ⟨w.heap.size + 1, 0, none⟩ = some (.int .i64 s.tm) := BS1.out.cell 0
  have es1 : w1.cell? ⟨w.heap.size + 1, 1, none⟩ = some (.int .i64 s.level) := BS1.out.cell 1
  have es2 : w1.cell? ⟨w.heap.size + 1, 2, none⟩ = some (.int .i64 s.held) := BS1.out.cell 2
  have es3 : w1.cell? ⟨w.heap.size + 1, 3, none⟩ = some (.slice A s.log.length cap) := BS1.out.cell 3
  have ea0 : w1.cell? ⟨w.heap.size + 1 + 1, 0, none⟩ = some (.int .i64 2) := BA1.out.cell 0
  have ea1 : w1.cell? ⟨w.heap.size + 1 + 1, 1, none⟩ = some (.int .i64 now) := BA1.out.cell 1
  have ea2 : w1.cell? ⟨w.heap.size + 1 + 1, 2, none⟩ = some (.int .i64 cost) := BA1.out.cell 2
  go_wp2_with fail
  refine (radvance_is H0.out HA.out A cap _).mono ?_
  rintro e w2 ⟨rfl, hb2⟩
  clear ep0 ep1 ep2 ep3 ep4 ep5 es0 es1 es2 es3 ea0 ea1 ea2
  have BP2 := Lib.hid ((BP1.out.keep hb2).alloc (.cells (scells a.tm a.level a.held (.slice A 0 cap)) 32))
  have BS2 := Lib.hid ((BS1.out.keep hb2).alloc (.cells (scells a.tm a.level a.held (.slice A 0 cap)) 32))
  have BA2 := Lib.hid ((BA1.out.keep hb2).alloc (.cells (scells a.tm a.level a.held (.slice A 0 cap)) 32))
  have BZ2 := Lib.hid ((BZ1.out.keep hb2).alloc (.cells (scells a.tm a.level a.held (.slice A 0 cap)) 32))
  have BT2 := Lib.hid (Box.new w2 32 (scells a.tm a.level a.held (.slice A 0 cap)))
  have hB2 := HB1.out.trans (hb2.mono HB1.out.size)
  have HB2 := Lib.hid (hB2.alloc hB2.size (.cells (scells a.tm a.level a.held (.slice A 0 cap)) 32))
  have zb0 : w.heap.size + 1 + 1 + 1 < w2.heap.size := (BZ1.out.keep hb2).lt
  obtain ⟨b, hb⟩ : ∃ b, w2.heap.size = b := ⟨_, rfl⟩
  rw [hb] at BT2 zb0
  clear hb2 hB2
  go_wp2_with fail
  generalize w2.alloc (.cells (scells a.tm a.level a.held (.slice A 0 cap)) 32) = W2 at BP2 BS2 BA2 BZ2 BT2 HB2 ⊢
  have gp0 : ∀ g : Grow W2, g.w.cell? ⟨w.heap.size, 0, none⟩ = some (.int .i64 p.kind) := fun g => Grow.cell BP2.out g 0
  have gp1 : ∀ g : Grow W2, g.w.cell? ⟨w.heap.size, 1, none⟩ = some (.int .i64 p.limit) := fun g => Grow.cell BP2.out g 1
  have gp2 : ∀ g : Grow W2, g.w.cell? ⟨w.heap.size, 2, none⟩ = some (.int .i64 p.period) := fun g => Grow.cell BP2.out g 2
  have gp3 : ∀ g : Grow W2, g.w.cell? ⟨w.heap.size, 3, none⟩ = some (.int .i64 p.burst) := fun g => Grow.cell BP2.out g 3
  have gp4 : ∀ g : Grow W2, g.w.cell? ⟨w.heap.size, 4, none⟩ = some (.int .i64 p.cap) := fun g => Grow.cell BP2.out g 4
  have gp5 : ∀ g : Grow W2, g.w.cell? ⟨w.heap.size, 5, none⟩ = some (.bool p.opn) := fun g => Grow.cell BP2.out g 5
  have gs0 : ∀ g : Grow W2, g.w.cell? ⟨w.heap.size + 1, 0, none⟩ = some (.int .i64 s.tm) := fun g => Grow.cell BS2.out g 0
  have gs1 : ∀ g : Grow W2, g.w.cell? ⟨w.heap.size + 1, 1, none⟩ = some (.int .i64 s.level) := fun g => Grow.cell BS2.out g 1
  have gs2 : ∀ g : Grow W2, g.w.cell? ⟨w.heap.size + 1, 2, none⟩ = some (.int .i64 s.held) := fun g => Grow.cell BS2.out g 2
  have gs3 : ∀ g : Grow W2, g.w.cell? ⟨w.heap.size + 1, 3, none⟩ = some (.slice A s.log.length cap) := fun g => Grow.cell BS2.out g 3
  have ga0 : ∀ g : Grow W2, g.w.cell? ⟨w.heap.size + 1 + 1, 0, none⟩ = some (.int .i64 2) := fun g => Grow.cell BA2.out g 0
  have ga1 : ∀ g : Grow W2, g.w.cell? ⟨w.heap.size + 1 + 1, 1, none⟩ = some (.int .i64 now) := fun g => Grow.cell BA2.out g 1
  have ga2 : ∀ g : Grow W2, g.w.cell? ⟨w.heap.size + 1 + 1, 2, none⟩ = some (.int .i64 cost) := fun g => Grow.cell BA2.out g 2
  refine wp_region_grow (by kernel_rfl) (by kernel_rfl) ?_
  repeat (go_big_quiet_step ((go_at_call 32; exact grow_call (rroom_is HR.out A cap _))))
  refine wpQuiet_nil ?_
  intro _ hw'
  obtain ⟨gq, hw''⟩ := hw'
  subst hw''
  clear gp0 gp1 gp2 gp3 gp4 gp5 gs0 gs1 gs2 gs3 ga0 ga1 ga2
  have hbq := gq.below
  have BS3 := Lib.hid (BS2.out.keep hbq)
  have BA3 := Lib.hid (BA2.out.keep hbq)
  have BZ3 := Lib.hid (BZ2.out.keep hbq)
  have BT3 := Lib.hid (BT2.out.keep hbq)
  have HB3 := Lib.hid (HB2.out.trans (hbq.mono HB2.out.size))
  clear hbq hb
  generalize gq.w = W3 at BS3 BA3 BZ3 BT3 HB3 ⊢
  have hs0 : W3.cell? ⟨w.heap.size + 1, 0, none⟩ = some (.int .i64 s.tm) := BS3.out.cell 0
  have hs1 : W3.cell? ⟨w.heap.size + 1, 1, none⟩ = some (.int .i64 s.level) := BS3.out.cell 1
  have hs2 : W3.cell? ⟨w.heap.size + 1, 2, none⟩ = some (.int .i64 s.held) := BS3.out.cell 2
  have hs3 : W3.cell? ⟨w.heap.size + 1, 3, none⟩ = some (.slice A s.log.length cap) := BS3.out.cell 3
  have ha0 : W3.cell? ⟨w.heap.size + 1 + 1, 0, none⟩ = some (.int .i64 2) := BA3.out.cell 0
  have ha1 : W3.cell? ⟨w.heap.size + 1 + 1, 1, none⟩ = some (.int .i64 now) := BA3.out.cell 1
  have ha2 : W3.cell? ⟨w.heap.size + 1 + 1, 2, none⟩ = some (.int .i64 cost) := BA3.out.cell 2
  have ht0 : W3.cell? ⟨b, 0, none⟩ = some (.int .i64 a.tm) := BT3.out.cell 0
  have ht1 : W3.cell? ⟨b, 1, none⟩ = some (.int .i64 a.level) := BT3.out.cell 1
  have ht2 : W3.cell? ⟨b, 2, none⟩ = some (.int .i64 a.held) := BT3.out.cell 2
  have ht3 : W3.cell? ⟨b, 3, none⟩ = some (.slice A 0 cap) := BT3.out.cell 3
  have hf0 := BT3.out.free 0
  have hf1 := BT3.out.free 1
  have hf2 := BT3.out.free 2
  have hf3 := BT3.out.free 3
  have zn1 : ¬ (b = w.heap.size + 1 + 1) := by omega
  have zn2 : ¬ (w.heap.size + 1 + 1 = b) := by omega
  go_wp2_with (refine wpList_store_row rfl 32 _ _ rfl (w.heap.size + 1 + 1 + 1) (scells a.tm (a.level) (a.held + cost) (.slice A 0 cap)) rfl rfl 32 _ (Box.far1 BZ3.out (Nat.ne_of_lt zb0) 2 _) st_size rfl (scells_one _ _ _ _ (slice_one _ _ _)) ?_)
  refine ret_st2 Try.results18 rfl rfl rfl (setRow_heap _ _ _ _ _ _ (Box.far1 BZ3.out (Nat.ne_of_lt zb0) 2 _)) ⟨rfl, ?_⟩
  exact below_setRow (Below.setCell HB3.out (show w.heap.size ≤ (⟨b, 2, none⟩ : Addr).block from by show w.heap.size ≤ b; omega) _) (by omega) _
set_option maxHeartbeats 16000000 in
set_option maxRecDepth 100000 in
theorem rdo_yes3 (p : Pol) (s : St) (A : Option Addr) (cap : Nat) (now cost : Int) (w : World) (a : St) (h0 : right p s = true) (ha : adv p s now = a) (r : Int) (hr : roomAt p s now = r) (hc : ¬ cost < 1) (hh : ¬ s.held < cost) (hm : cost ≤ 1048576) :
    Calls Try.prog 18 #[p.val, s.val A s.log.length cap, .agg (acells 3 now cost)] w fun e w' => e = .returned (.tuple #[(dn a 3 cost).val A 0 cap, .bool true]) ∧ Below w.heap.size w w' := by
  have HR := Lib.hid hr
  clear hr
  have g1 : decide (cost < 1) = false := by simp; omega
  have g6 : decide (s.held < cost) = false := by simp; omega
  rw [dn_3]
  have HB4 := Lib.hid (below_four w p.box (s.box A s.log.length cap) (.cells (acells 3 now cost) 38) (.cells (scells 0 0 0 (.slice none 0 0)) 32))
  have BP0 := Lib.hid (Box.alloc (Box.alloc (Box.alloc (Box.new w 23 (pcells p)) (s.box A s.log.length cap)) (.cells (acells 3 now cost) 38)) (.cells (scells 0 0 0 (.slice none 0 0)) 32))
  have BS0 := Lib.hid (Box.alloc (Box.alloc (Box.new1 w 32 (scells s.tm s.level s.held (.slice A s.log.length cap)) p.box) (.cells (acells 3 now cost) 38)) (.cells (scells 0 0 0 (.slice none 0 0)) 32))
  have H0 := Lib.hid h0
  have HA := Lib.hid ha
  have HOA := Lib.hid (show Ok p a by rw [← ha]; exact (right_ok h0).adv now)
  have l1 := HOA.out.rl
  have l2 := (right_ok h0).rl
  clear h0 ha
  unfold Pol.val St.val
  go_enter Try.func18, Try.ntmps18
  go_wp2_with fail
  refine (rright_yes H0.out A cap _).mono ?_
  rintro e w1 ⟨rfl, hb1⟩
  have BP1 := Lib.hid (BP0.out.keep hb1)
  have BS1 := Lib.hid (BS0.out.keep hb1)
  have BA1 := Lib.hid (show Box w1 (w.heap.size + 1 + 1) 38 (acells 3 now cost) from by unfold Box; rw [hb1.block _ (by simp)]; rw [heap_alloc_old _ _ (by simp)]; exact heap_alloc3_new _ _ _ _)
  have BZ1 := Lib.hid (show Box w1 (w.heap.size + 1 + 1 + 1) 32 (scells 0 0 0 (.slice none 0 0)) from by unfold Box; rw [hb1.block _ (by simp)]; exact (heap_alloc4 _ _ _ _ _).1)
  have HB1 := Lib.hid (HB4.out.trans (hb1.mono (by simp <;> omega)))
  clear hb1
  have ep0 : w1.cell? ⟨w.heap.size, 0, none⟩ = some (.int .i64 p.kind) := BP1.out.cell 0
  have ep1 : w1.cell? ⟨w.heap.size, 1, none⟩ = some (.int .i64 p.limit) := BP1.out.cell 1
  have ep2 : w1.cell? ⟨w.heap.size, 2, none⟩ = some (.int .i64 p.period) := BP1.out.cell 2
  have ep3 : w1.cell? ⟨w.heap.size, 3, none⟩ = some (.int .i64 p.burst) := BP1.out.cell 3
  have ep4 : w1.cell? ⟨w.heap.size, 4, none⟩ = some (.int .i64 p.cap) := BP1.out.cell 4
  have ep5 : w1.cell? ⟨w.heap.size, 5, none⟩ = some (.bool p.opn) := BP1.out.cell 5
  have es0 : w1.cell? ⟨w.heap.size + 1, 0, none⟩ = some (.int .i64 s.tm) := BS1.out.cell 0
  have es1 : w1.cell? ⟨w.heap.size + 1, 1, none⟩ = some (.int .i64 s.level) := BS1.out.cell 1
  have es2 : w1.cell? ⟨w.heap.size + 1, 2, none⟩ = some (.int .i64 s.held) := BS1.out.cell 2
  have es3 : w1.cell? ⟨w.heap.size + 1, 3, none⟩ = some (.slice A s.log.length cap) := BS1.out.cell 3
  have ea0 : w1.cell? ⟨w.heap.size + 1 + 1, 0, none⟩ = some (.int .i64 3) := BA1.out.cell 0
  have ea1 : w1.cell? ⟨w.heap.size + 1 + 1, 1, none⟩ = some (.int .i64 now) := BA1.out.cell 1
  have ea2 : w1.cell? ⟨w.heap.size + 1 + 1, 2, none⟩ = some (.int .i64 cost) := BA1.out.cell 2
  go_wp2_with fail
  refine (radvance_is H0.out HA.out A cap _).mono ?_
  rintro e w2 ⟨rfl, hb2⟩
  clear ep0 ep1 ep2 ep3 ep4 ep5 es0 es1 es2 es3 ea0 ea1 ea2
  have BP2 := Lib.hid ((BP1.out.keep hb2).alloc (.cells (scells a.tm a.level a.held (.slice A 0 cap)) 32))
  have BS2 := Lib.hid ((BS1.out.keep hb2).alloc (.cells (scells a.tm a.level a.held (.slice A 0 cap)) 32))
  have BA2 := Lib.hid ((BA1.out.keep hb2).alloc (.cells (scells a.tm a.level a.held (.slice A 0 cap)) 32))
  have BZ2 := Lib.hid ((BZ1.out.keep hb2).alloc (.cells (scells a.tm a.level a.held (.slice A 0 cap)) 32))
  have BT2 := Lib.hid (Box.new w2 32 (scells a.tm a.level a.held (.slice A 0 cap)))
  have hB2 := HB1.out.trans (hb2.mono HB1.out.size)
  have HB2 := Lib.hid (hB2.alloc hB2.size (.cells (scells a.tm a.level a.held (.slice A 0 cap)) 32))
  have zb0 : w.heap.size + 1 + 1 + 1 < w2.heap.size := (BZ1.out.keep hb2).lt
  obtain ⟨b, hb⟩ : ∃ b, w2.heap.size = b := ⟨_, rfl⟩
  rw [hb] at BT2 zb0
  clear hb2 hB2
  go_wp2_with fail
  generalize w2.alloc (.cells (scells a.tm a.level a.held (.slice A 0 cap)) 32) = W2 at BP2 BS2 BA2 BZ2 BT2 HB2 ⊢
  have gp0 : ∀ g : Grow W2, g.w.cell? ⟨w.heap.size, 0, none⟩ = some (.int .i64 p.kind) := fun g => Grow.cell BP2.out g 0
  have gp1 : ∀ g : Grow W2, g.w.cell? ⟨w.heap.size, 1, none⟩ = some (.int .i64 p.limit) := fun g => Grow.cell BP2.out g 1
  have gp2 : ∀ g : Grow W2, g.w.cell? ⟨w.heap.size, 2, none⟩ = some (.int .i64 p.period) := fun g => Grow.cell BP2.out g 2
  have gp3 : ∀ g : Grow W2, g.w.cell? ⟨w.heap.size, 3, none⟩ = some (.int .i64 p.burst) := fun g => Grow.cell BP2.out g 3
  have gp4 : ∀ g : Grow W2, g.w.cell? ⟨w.heap.size, 4, none⟩ = some (.int .i64 p.cap) := fun g => Grow.cell BP2.out g 4
  have gp5 : ∀ g : Grow W2, g.w.cell? ⟨w.heap.size, 5, none⟩ = some (.bool p.opn) := fun g => Grow.cell BP2.out g 5
  have gs0 : ∀ g : Grow W2, g.w.cell? ⟨w.heap.size + 1, 0, none⟩ = some (.int .i64 s.tm) := fun g => Grow.cell BS2.out g 0
  have gs1 : ∀ g : Grow W2, g.w.cell? ⟨w.heap.size + 1, 1, none⟩ = some (.int .i64 s.level) := fun g => Grow.cell BS2.out g 1
  have gs2 : ∀ g : Grow W2, g.w.cell? ⟨w.heap.size + 1, 2, none⟩ = some (.int .i64 s.held) := fun g => Grow.cell BS2.out g 2
  have gs3 : ∀ g : Grow W2, g.w.cell? ⟨w.heap.size + 1, 3, none⟩ = some (.slice A s.log.length cap) := fun g => Grow.cell BS2.out g 3
  have ga0 : ∀ g : Grow W2, g.w.cell? ⟨w.heap.size + 1 + 1, 0, none⟩ = some (.int .i64 3) := fun g => Grow.cell BA2.out g 0
  have ga1 : ∀ g : Grow W2, g.w.cell? ⟨w.heap.size + 1 + 1, 1, none⟩ = some (.int .i64 now) := fun g => Grow.cell BA2.out g 1
  have ga2 : ∀ g : Grow W2, g.w.cell? ⟨w.heap.size + 1 + 1, 2, none⟩ = some (.int .i64 cost) := fun g => Grow.cell BA2.out g 2
  refine wp_region_grow (by kernel_rfl) (by kernel_rfl) ?_
  repeat (go_big_quiet_step ((go_at_call 32; exact grow_call (rroom_is HR.out A cap _))))
  refine wpQuiet_nil ?_
  intro _ hw'
  obtain ⟨gq, hw''⟩ := hw'
  subst hw''
  clear gp0 gp1 gp2 gp3 gp4 gp5 gs0 gs1 gs2 gs3 ga0 ga1 ga2
  have hbq := gq.below
  have BS3 := Lib.hid (BS2.out.keep hbq)
  have BA3 := Lib.hid (BA2.out.keep hbq)
  have BZ3 := Lib.hid (BZ2.out.keep hbq)
  have BT3 := Lib.hid (BT2.out.keep hbq)
  have HB3 := Lib.hid (HB2.out.trans (hbq.mono HB2.out.size))
  clear hbq hb
  generalize gq.w = W3 at BS3 BA3 BZ3 BT3 HB3 ⊢
  have hs0 : W3.cell? ⟨w.heap.size + 1, 0, none⟩ = some (.int .i64 s.tm) := BS3.out.cell 0
  have hs1 : W3.cell? ⟨w.heap.size + 1, 1, none⟩ = some (.int .i64 s.level) := BS3.out.cell 1
  have hs2 : W3.cell? ⟨w.heap.size + 1, 2, none⟩ = some (.int .i64 s.held) := BS3.out.cell 2
  have hs3 : W3.cell? ⟨w.heap.size + 1, 3, none⟩ = some (.slice A s.log.length cap) := BS3.out.cell 3
  have ha0 : W3.cell? ⟨w.heap.size + 1 + 1, 0, none⟩ = some (.int .i64 3) := BA3.out.cell 0
  have ha1 : W3.cell? ⟨w.heap.size + 1 + 1, 1, none⟩ = some (.int .i64 now) := BA3.out.cell 1
  have ha2 : W3.cell? ⟨w.heap.size + 1 + 1, 2, none⟩ = some (.int .i64 cost) := BA3.out.cell 2
  have ht0 : W3.cell? ⟨b, 0, none⟩ = some (.int .i64 a.tm) := BT3.out.cell 0
  have ht1 : W3.cell? ⟨b, 1, none⟩ = some (.int .i64 a.level) := BT3.out.cell 1
  have ht2 : W3.cell? ⟨b, 2, none⟩ = some (.int .i64 a.held) := BT3.out.cell 2
  have ht3 : W3.cell? ⟨b, 3, none⟩ = some (.slice A 0 cap) := BT3.out.cell 3
  have hf0 := BT3.out.free 0
  have hf1 := BT3.out.free 1
  have hf2 := BT3.out.free 2
  have hf3 := BT3.out.free 3
  have zn1 : ¬ (b = w.heap.size + 1 + 1) := by omega
  have zn2 : ¬ (w.heap.size + 1 + 1 = b) := by omega
  go_wp2_with (refine wpList_store_row rfl 32 _ _ rfl (w.heap.size + 1 + 1 + 1) (scells a.tm (a.level) (a.held - cost) (.slice A 0 cap)) rfl rfl 32 _ (Box.far1 BZ3.out (Nat.ne_of_lt zb0) 2 _) st_size rfl (scells_one _ _ _ _ (slice_one _ _ _)) ?_)
  refine ret_st2 Try.results18 rfl rfl rfl (setRow_heap _ _ _ _ _ _ (Box.far1 BZ3.out (Nat.ne_of_lt zb0) 2 _)) ⟨rfl, ?_⟩
  exact below_setRow (Below.setCell HB3.out (show w.heap.size ≤ (⟨b, 2, none⟩ : Addr).block from by show w.heap.size ≤ b; omega) _) (by omega) _
set_option maxHeartbeats 16000000 in
set_option maxRecDepth 100000 in
theorem rdo_yes4 (p : Pol) (s : St) (A : Option Addr) (cap : Nat) (now cost : Int) (w : World) (a : St) (h0 : right p s = true) (ha : adv p s now = a) (r : Int) (hr : roomAt p s now = r) (hc : ¬ cost < 1) (hh : ¬ s.held < cost) (hm : cost ≤ 1048576) :
    Calls Try.prog 18 #[p.val, s.val A s.log.length cap, .agg (acells 4 now cost)] w fun e w' => e = .returned (.tuple #[(dn a 4 cost).val A 0 cap, .bool true]) ∧ Below w.heap.size w w' := by
  have HR := Lib.hid hr
  clear hr
  have g1 : decide (cost < 1) = false := by simp; omega
  have g6 : decide (s.held < cost) = false := by simp; omega
  rw [dn_4]
  have HB4 := Lib.hid (below_four w p.box (s.box A s.log.length cap) (.cells (acells 4 now cost) 38) (.cells (scells 0 0 0 (.slice none 0 0)) 32))
  have BP0 := Lib.hid (Box.alloc (Box.alloc (Box.alloc (Box.new w 23 (pcells p)) (s.box A s.log.length cap)) (.cells (acells 4 now cost) 38)) (.cells (scells 0 0 0 (.slice none 0 0)) 32))
  have BS0 := Lib.hid (Box.alloc (Box.alloc (Box.new1 w 32 (scells s.tm s.level s.held (.slice A s.log.length cap)) p.box) (.cells (acells 4 now cost) 38)) (.cells (scells 0 0 0 (.slice none 0 0)) 32))
  have H0 := Lib.hid h0
  have HA := Lib.hid ha
  have HOA := Lib.hid (show Ok p a by rw [← ha]; exact (right_ok h0).adv now)
  have l1 := HOA.out.rl
  have l2 := (right_ok h0).rl
  clear h0 ha
  unfold Pol.val St.val
  go_enter Try.func18, Try.ntmps18
  go_wp2_with fail
  refine (rright_yes H0.out A cap _).mono ?_
  rintro e w1 ⟨rfl, hb1⟩
  have BP1 := Lib.hid (BP0.out.keep hb1)
  have BS1 := Lib.hid (BS0.out.keep hb1)
  have BA1 := Lib.hid (show Box w1 (w.heap.size + 1 + 1) 38 (acells 4 now cost) from by unfold Box; rw [hb1.block _ (by simp)]; rw [heap_alloc_old _ _ (by simp)]; exact heap_alloc3_new _ _ _ _)
  have BZ1 := Lib.hid (show Box w1 (w.heap.size + 1 + 1 + 1) 32 (scells 0 0 0 (.slice none 0 0)) from by unfold Box; rw [hb1.block _ (by simp)]; exact (heap_alloc4 _ _ _ _ _).1)
  have HB1 := Lib.hid (HB4.out.trans (hb1.mono (by simp <;> omega)))
  clear hb1
  have ep0 : w1.cell? ⟨w.heap.size, 0, none⟩ = some (.int .i64 p.kind) := BP1.out.cell 0
  have ep1 : w1.cell? ⟨w.heap.size, 1, none⟩ = some (.int .i64 p.limit) := BP1.out.cell 1
  have ep2 : w1.cell? ⟨w.heap.size, 2, none⟩ = some (.int .i64 p.period) := BP1.out.cell 2
  have ep3 : w1.cell? ⟨w.heap.size, 3, none⟩ = some (.int .i64 p.burst) := BP1.out.cell 3
  have ep4 : w1.cell? ⟨w.heap.size, 4, none⟩ = some (.int .i64 p.cap) := BP1.out.cell 4
  have ep5 : w1.cell? ⟨w.heap.size, 5, none⟩ = some (.bool p.opn) := BP1.out.cell 5
  have es0 : w1.cell? ⟨w.heap.size + 1, 0, none⟩ = some (.int .i64 s.tm) := BS1.out.cell 0
  have es1 : w1.cell? ⟨w.heap.size + 1, 1, none⟩ = some (.int .i64 s.level) := BS1.out.cell 1
  have es2 : w1.cell? ⟨w.heap.size + 1, 2, none⟩ = some (.int .i64 s.held) := BS1.out.cell 2
  have es3 : w1.cell? ⟨w.heap.size + 1, 3, none⟩ = some (.slice A s.log.length cap) := BS1.out.cell 3
  have ea0 : w1.cell? ⟨w.heap.size + 1 + 1, 0, none⟩ = some (.int .i64 4) := BA1.out.cell 0
  have ea1 : w1.cell? ⟨w.heap.size + 1 + 1, 1, none⟩ = some (.int .i64 now) := BA1.out.cell 1
  have ea2 : w1.cell? ⟨w.heap.size + 1 + 1, 2, none⟩ = some (.int .i64 cost) := BA1.out.cell 2
  go_wp2_with fail
  refine (radvance_is H0.out HA.out A cap _).mono ?_
  rintro e w2 ⟨rfl, hb2⟩
  clear ep0 ep1 ep2 ep3 ep4 ep5 es0 es1 es2 es3 ea0 ea1 ea2
  have BP2 := Lib.hid ((BP1.out.keep hb2).alloc (.cells (scells a.tm a.level a.held (.slice A 0 cap)) 32))
  have BS2 := Lib.hid ((BS1.out.keep hb2).alloc (.cells (scells a.tm a.level a.held (.slice A 0 cap)) 32))
  have BA2 := Lib.hid ((BA1.out.keep hb2).alloc (.cells (scells a.tm a.level a.held (.slice A 0 cap)) 32))
  have BZ2 := Lib.hid ((BZ1.out.keep hb2).alloc (.cells (scells a.tm a.level a.held (.slice A 0 cap)) 32))
  have BT2 := Lib.hid (Box.new w2 32 (scells a.tm a.level a.held (.slice A 0 cap)))
  have hB2 := HB1.out.trans (hb2.mono HB1.out.size)
  have HB2 := Lib.hid (hB2.alloc hB2.size (.cells (scells a.tm a.level a.held (.slice A 0 cap)) 32))
  have zb0 : w.heap.size + 1 + 1 + 1 < w2.heap.size := (BZ1.out.keep hb2).lt
  obtain ⟨b, hb⟩ : ∃ b, w2.heap.size = b := ⟨_, rfl⟩
  rw [hb] at BT2 zb0
  clear hb2 hB2
  go_wp2_with fail
  generalize w2.alloc (.cells (scells a.tm a.level a.held (.slice A 0 cap)) 32) = W2 at BP2 BS2 BA2 BZ2 BT2 HB2 ⊢
  have gp0 : ∀ g : Grow W2, g.w.cell? ⟨w.heap.size, 0, none⟩ = some (.int .i64 p.kind) := fun g => Grow.cell BP2.out g 0
  have gp1 : ∀ g : Grow W2, g.w.cell? ⟨w.heap.size, 1, none⟩ = some (.int .i64 p.limit) := fun g => Grow.cell BP2.out g 1
  have gp2 : ∀ g : Grow W2, g.w.cell? ⟨w.heap.size, 2, none⟩ = some (.int .i64 p.period) := fun g => Grow.cell BP2.out g 2
  have gp3 : ∀ g : Grow W2, g.w.cell? ⟨w.heap.size, 3, none⟩ = some (.int .i64 p.burst) := fun g => Grow.cell BP2.out g 3
  have gp4 : ∀ g : Grow W2, g.w.cell? ⟨w.heap.size, 4, none⟩ = some (.int .i64 p.cap) := fun g => Grow.cell BP2.out g 4
  have gp5 : ∀ g : Grow W2, g.w.cell? ⟨w.heap.size, 5, none⟩ = some (.bool p.opn) := fun g => Grow.cell BP2.out g 5
  have gs0 : ∀ g : Grow W2, g.w.cell? ⟨w.heap.size + 1, 0, none⟩ = some (.int .i64 s.tm) := fun g => Grow.cell BS2.out g 0
  have gs1 : ∀ g : Grow W2, g.w.cell? ⟨w.heap.size + 1, 1, none⟩ = some (.int .i64 s.level) := fun g => Grow.cell BS2.out g 1
  have gs2 : ∀ g : Grow W2, g.w.cell? ⟨w.heap.size + 1, 2, none⟩ = some (.int .i64 s.held) := fun g => Grow.cell BS2.out g 2
  have gs3 : ∀ g : Grow W2, g.w.cell? ⟨w.heap.size + 1, 3, none⟩ = some (.slice A s.log.length cap) := fun g => Grow.cell BS2.out g 3
  have ga0 : ∀ g : Grow W2, g.w.cell? ⟨w.heap.size + 1 + 1, 0, none⟩ = some (.int .i64 4) := fun g => Grow.cell BA2.out g 0
  have ga1 : ∀ g : Grow W2, g.w.cell? ⟨w.heap.size + 1 + 1, 1, none⟩ = some (.int .i64 now) := fun g => Grow.cell BA2.out g 1
  have ga2 : ∀ g : Grow W2, g.w.cell? ⟨w.heap.size + 1 + 1, 2, none⟩ = some (.int .i64 cost) := fun g => Grow.cell BA2.out g 2
  refine wp_region_grow (by kernel_rfl) (by kernel_rfl) ?_
  repeat (go_big_quiet_step ((go_at_call 32; exact grow_call (rroom_is HR.out A cap _))))
  refine wpQuiet_nil ?_
  intro _ hw'
  obtain ⟨gq, hw''⟩ := hw'
  subst hw''
  clear gp0 gp1 gp2 gp3 gp4 gp5 gs0 gs1 gs2 gs3 ga0 ga1 ga2
  have hbq := gq.below
  have BS3 := Lib.hid (BS2.out.keep hbq)
  have BA3 := Lib.hid (BA2.out.keep hbq)
  have BZ3 := Lib.hid (BZ2.out.keep hbq)
  have BT3 := Lib.hid (BT2.out.keep hbq)
  have HB3 := Lib.hid (HB2.out.trans (hbq.mono HB2.out.size))
  clear hbq hb
  generalize gq.w = W3 at BS3 BA3 BZ3 BT3 HB3 ⊢
  have hs0 : W3.cell? ⟨w.heap.size + 1, 0, none⟩ = some (.int .i64 s.tm) := BS3.out.cell 0
  have hs1 : W3.cell? ⟨w.heap.size + 1, 1, none⟩ = some (.int .i64 s.level) := BS3.out.cell 1
  have hs2 : W3.cell? ⟨w.heap.size + 1, 2, none⟩ = some (.int .i64 s.held) := BS3.out.cell 2
  have hs3 : W3.cell? ⟨w.heap.size + 1, 3, none⟩ = some (.slice A s.log.length cap) := BS3.out.cell 3
  have ha0 : W3.cell? ⟨w.heap.size + 1 + 1, 0, none⟩ = some (.int .i64 4) := BA3.out.cell 0
  have ha1 : W3.cell? ⟨w.heap.size + 1 + 1, 1, none⟩ = some (.int .i64 now) := BA3.out.cell 1
  have ha2 : W3.cell? ⟨w.heap.size + 1 + 1, 2, none⟩ = some (.int .i64 cost) := BA3.out.cell 2
  have ht0 : W3.cell? ⟨b, 0, none⟩ = some (.int .i64 a.tm) := BT3.out.cell 0
  have ht1 : W3.cell? ⟨b, 1, none⟩ = some (.int .i64 a.level) := BT3.out.cell 1
  have ht2 : W3.cell? ⟨b, 2, none⟩ = some (.int .i64 a.held) := BT3.out.cell 2
  have ht3 : W3.cell? ⟨b, 3, none⟩ = some (.slice A 0 cap) := BT3.out.cell 3
  have hf0 := BT3.out.free 0
  have hf1 := BT3.out.free 1
  have hf2 := BT3.out.free 2
  have hf3 := BT3.out.free 3
  have zn1 : ¬ (b = w.heap.size + 1 + 1) := by omega
  have zn2 : ¬ (w.heap.size + 1 + 1 = b) := by omega
  go_wp2_with (refine wpList_store_row rfl 32 _ _ rfl (w.heap.size + 1 + 1 + 1) (scells a.tm (a.level + cost) (a.held - cost) (.slice A 0 cap)) rfl rfl 32 _ (Box.far1 (Box.far1 BZ3.out (Nat.ne_of_lt zb0) 2 _) (Nat.ne_of_lt zb0) 1 _) st_size rfl (scells_one _ _ _ _ (slice_one _ _ _)) ?_)
  refine ret_st2 Try.results18 rfl rfl rfl (setRow_heap _ _ _ _ _ _ (Box.far1 (Box.far1 BZ3.out (Nat.ne_of_lt zb0) 2 _) (Nat.ne_of_lt zb0) 1 _)) ⟨rfl, ?_⟩
  exact below_setRow (Below.setCell (Below.setCell HB3.out (show w.heap.size ≤ (⟨b, 2, none⟩ : Addr).block from by show w.heap.size ≤ b; omega) _) (show w.heap.size ≤ (⟨b, 1, none⟩ : Addr).block from by show w.heap.size ≤ b; omega) _) (by omega) _
theorem rdo_do {p : Pol} {s t : St} {b : Bool} {k now cost : Int} (he : act p s k now cost = (t, b)) (A : Option Addr) (cap : Nat) (w : World) :
    Calls Try.prog 18 #[p.val, s.val A s.log.length cap, .agg (acells k now cost)] w fun e w' => ∃ A' cap', e = .returned (.tuple #[.agg (scells t.tm t.level t.held (.slice A' t.log.length cap')), .bool b]) ∧ ((A' = A ∧ cap' = cap ∧ s.log = []) ∨ (A' = none ∧ cap' = 0)) ∧ t.log = [] ∧ Below w.heap.size w w' := by
  have htl : t.log = [] := by have := act_log p s k now cost; rw [he] at this; exact this
  cases h0 : right p s with
  | false =>
    rw [show act p s k now cost = (zero, false) by simp [act, h0]] at he
    injection he with e1 e2
    subst e1 e2
    exact (rdo_zero p s A cap k now cost w h0).mono fun e w' ⟨h1, h2⟩ => ⟨none, 0, h1, .inr ⟨rfl, rfl⟩, rfl, h2⟩
  | true =>
    have hs := right_ok h0
    obtain ⟨a, ha⟩ : ∃ a, adv p s now = a := ⟨_, rfl⟩
    obtain ⟨r, hr⟩ : ∃ r, roomAt p s now = r := ⟨_, rfl⟩
    have hok : Ok p a := by rw [← ha]; exact hs.adv now
    have hh : a.held = s.held := by rw [← ha]; exact adv_held hs now
    have hl := hok.rl
    have er : r = room p a := by rw [← hr]; unfold roomAt; rw [if_pos h0, ha]
    have no : ¬ wi cost 1 (grt p a k) = true → t = s ∧ b = false := fun hw => by
      rw [act_no hs (by rw [ha]; exact hw)] at he
      injection he with e1 e2
      exact ⟨e1.symm, e2.symm⟩
    have yes : wi cost 1 (grt p a k) = true → t = dn a k cost ∧ b = true := fun hw => by
      rw [act_yes hs (by rw [ha]; exact hw), ha] at he
      injection he with e1 e2
      exact ⟨e1.symm, e2.symm⟩
    have fno : ∀ {e : Ending} {w' : World}, t = s → b = false → (e = .returned (.tuple #[s.val A s.log.length cap, .bool false]) ∧ Below w.heap.size w w') → ∃ A' cap', e = .returned (.tuple #[.agg (scells t.tm t.level t.held (.slice A' t.log.length cap')), .bool b]) ∧ ((A' = A ∧ cap' = cap ∧ s.log = []) ∨ (A' = none ∧ cap' = 0)) ∧ t.log = [] ∧ Below w.heap.size w w' := by
      rintro e w' rfl rfl ⟨h1, h2⟩
      exact ⟨A, cap, h1, .inl ⟨rfl, rfl, hs.log⟩, htl, h2⟩
    have fyes : ∀ {e : Ending} {w' : World}, t = dn a k cost → b = true → (e = .returned (.tuple #[(dn a k cost).val A 0 cap, .bool true]) ∧ Below w.heap.size w w') → ∃ A' cap', e = .returned (.tuple #[.agg (scells t.tm t.level t.held (.slice A' t.log.length cap')), .bool b]) ∧ ((A' = A ∧ cap' = cap ∧ s.log = []) ∨ (A' = none ∧ cap' = 0)) ∧ t.log = [] ∧ Below w.heap.size w w' := by
      rintro e w' h3 rfl ⟨h1, h2⟩
      exact ⟨A, cap, by rw [h1, htl, h3]; rfl, .inl ⟨rfl, rfl, hs.log⟩, htl, h2⟩
    clear he
    by_cases hc : cost < 1
    · obtain ⟨e1, e2⟩ := no (fun h => by have := wi_yes h; omega)
      exact (rdo_noA p s A cap k now cost w a h0 ha r hr hc).mono fun e w' h => fno e1 e2 h
    by_cases hk : k < 1
    · obtain ⟨e1, e2⟩ := no (fun h => by have := grt_kind h; omega)
      exact (rdo_noB p s A cap k now cost w a h0 ha r hr hc hk).mono fun e w' h => fno e1 e2 h
    by_cases hk4 : 4 < k
    · obtain ⟨e1, e2⟩ := no (fun h => by have := grt_kind h; omega)
      exact (rdo_noC p s A cap k now cost w a h0 ha r hr hc hk4).mono fun e w' h => fno e1 e2 h
    by_cases hk2 : k ≤ 2
    · have hg : grt p a k = r := by rw [er]; unfold grt; rw [if_pos (by omega)]
      by_cases hr2 : r < cost
      · obtain ⟨e1, e2⟩ := no (fun h => by have := wi_yes h; rw [hg] at this; omega)
        exact (rdo_noD p s A cap k now cost w a h0 ha r hr hc (by omega) hr2).mono fun e w' h => fno e1 e2 h
      · obtain ⟨e1, e2⟩ := yes (by rw [hg]; exact wi_of (by omega) (by omega))
        have hm : cost ≤ 1048576 := by rw [er] at hr2; unfold room at hr2; omega
        by_cases hk1 : k = 1
        · subst hk1
          exact (rdo_yes1 p s A cap now cost w a h0 ha r hr hc hr2 hm).mono fun e w' h => fyes e1 e2 h
        · obtain rfl : k = 2 := by omega
          exact (rdo_yes2 p s A cap now cost w a h0 ha r hr hc hr2 hm).mono fun e w' h => fyes e1 e2 h
    · have hg : grt p a k = a.held := by unfold grt; rw [if_neg (by omega), if_pos (by omega)]
      by_cases hr2 : s.held < cost
      · obtain ⟨e1, e2⟩ := no (fun h => by have := wi_yes h; rw [hg] at this; omega)
        exact (rdo_noE p s A cap k now cost w a h0 ha r hr hc (by omega) hr2).mono fun e w' h => fno e1 e2 h
      · obtain ⟨e1, e2⟩ := yes (by rw [hg]; exact wi_of (by omega) (by omega))
        have hm : cost ≤ 1048576 := by omega
        by_cases hk3 : k = 3
        · subst hk3
          exact (rdo_yes3 p s A cap now cost w a h0 ha r hr hc hr2 hm).mono fun e w' h => fyes e1 e2 h
        · obtain rfl : k = 4 := by omega
          exact (rdo_yes4 p s A cap now cost w a h0 ha r hr hc hr2 hm).mono fun e w' h => fyes e1 e2 h
end Wn
end Go.Proofs.Ytikfjdpkjifcdaa
