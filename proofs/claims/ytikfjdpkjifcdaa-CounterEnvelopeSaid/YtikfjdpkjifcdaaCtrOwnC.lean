/-
  What counter.Do answers, in any world.
-/
import Derived.Test.YtikfjdpkjifcdaaCtrOwnB
namespace Go.Proofs.Ytikfjdpkjifcdaa
open Go.RowKit
namespace Wn

/-- where Do stands at its loop: the boxes of the policy, of the state, of the act, of the result, of the state then -/
def DoAt (w wr : World) (b : Nat) (p : Pol) (s a : St) (k now cost : Int) : Prop :=
  Below w.heap.size w wr ∧ Box wr w.heap.size 23 (pcells p) ∧ Box wr (w.heap.size + 1) 32 (scells s.tm s.level s.held (.slice none 0 0)) ∧ Box wr (w.heap.size + 1 + 1) 38 (acells k now cost) ∧ Box wr (w.heap.size + 1 + 1 + 1) 32 (scells 0 0 0 (.slice none 0 0)) ∧ Box wr b 32 (scells a.tm a.level a.held (.slice none 0 0)) ∧ w.heap.size + 1 + 1 + 1 < b
theorem DoAt.keep {w wr w' : World} {b : Nat} {p : Pol} {s a : St} {k now cost : Int} (h : DoAt w wr b p s a k now cost) (hb : Below wr.heap.size wr w') : DoAt w w' b p s a k now cost :=
  ⟨h.1.trans (hb.mono h.1.size), h.2.1.keep hb, h.2.2.1.keep hb, h.2.2.2.1.keep hb, h.2.2.2.2.1.keep hb, h.2.2.2.2.2.1.keep hb, h.2.2.2.2.2.2⟩
theorem DoAt.alloc {w wr : World} {b : Nat} {p : Pol} {s a : St} {k now cost : Int} (h : DoAt w wr b p s a k now cost) (o : Obj) : DoAt w (wr.alloc o) b p s a k now cost :=
  ⟨h.1.alloc h.1.size _, h.2.1.alloc _, h.2.2.1.alloc _, h.2.2.2.1.alloc _, h.2.2.2.2.1.alloc _, h.2.2.2.2.2.1.alloc _, h.2.2.2.2.2.2⟩
theorem ix0 (w : World) : (Instr.index 62 (.agg deedcells) (.int .i64 0)).run Try.prog w = .ok (.agg #[.int .i64 1, .func (.func 36) #[] #[], .func (.func 39) #[] #[]]) w := by kernel_rfl
theorem ix1 (w : World) : (Instr.index 62 (.agg deedcells) (.int .i64 1)).run Try.prog w = .ok (.agg #[.int .i64 2, .func (.func 36) #[] #[], .func (.func 40) #[] #[]]) w := by kernel_rfl
theorem ix2 (w : World) : (Instr.index 62 (.agg deedcells) (.int .i64 2)).run Try.prog w = .ok (.agg #[.int .i64 3, .func (.func 41) #[] #[], .func (.func 42) #[] #[]]) w := by kernel_rfl
theorem ix3 (w : World) : (Instr.index 62 (.agg deedcells) (.int .i64 3)).run Try.prog w = .ok (.agg #[.int .i64 4, .func (.func 41) #[] #[], .func (.func 43) #[] #[]]) w := by kernel_rfl
set_option maxHeartbeats 16000000 in
set_option maxRecDepth 100000 in
theorem do_zero (p : Pol) (s : St) (A : Option Addr) (cap : Nat) (k now cost : Int) (w : World) (h0 : right p s = false) :
    Calls Try.prog 17 #[p.val, s.val A s.log.length cap, .agg (acells k now cost)] w fun e w' => e = .returned (.tuple #[zero.val none 0 0, .bool false]) ∧ Below w.heap.size w w' := by
  have HB4 := Lib.hid (below_four w p.box (s.box A s.log.length cap) (.cells (acells k now cost) 38) (.cells (scells 0 0 0 (.slice none 0 0)) 32))
  have H0 := Lib.hid h0
  clear h0
  unfold Pol.val St.val
  go_enter Try.func17, Try.ntmps17
  go_wp2_with fail
  go_step3
  go_wp2_with fail
  refine (right_no H0.out A cap _).mono ?_
  rintro e w1 ⟨rfl, hb1⟩
  have hg : w1.heap[w.heap.size + 1 + 1 + 1]? = some (.cells (scells 0 0 0 (.slice none 0 0)) 32 (0, 0)) := by rw [hb1.block _ (by simp)]; exact (heap_alloc4 _ _ _ _ _).1
  have HB1 := Lib.hid hb1
  clear hb1
  go_wp2_with (refine wpList_store_row rfl 32 _ _ rfl (w.heap.size + 1 + 1 + 1) (scells 0 0 0 (.slice none 0 0)) rfl rfl 32 _ hg st_size rfl (scells_one _ _ _ _ (slice_one _ _ _)) ?_)
  rw [Exit.noGoto_ret]
  refine ret_st2 Try.results17 rfl rfl rfl (setRow_heap _ _ _ _ _ _ hg) ⟨rfl, ?_⟩
  exact below_setRow (HB4.out.trans (HB1.out.mono (by simp <;> omega))) (by omega) _
set_option maxHeartbeats 16000000 in
set_option maxRecDepth 100000 in
theorem do_right (p : Pol) (s : St) (A : Option Addr) (cap : Nat) (k now cost : Int) (w : World) (a : St) (h0 : right p s = true) (ha : adv p s now = a) (Q : Ending → World → Prop)
    (hyes : ∀ w', wi cost 1 (grt p a k) = true → Below w.heap.size w w' → Q (.returned (.tuple #[(dn a k cost).val none 0 0, .bool true])) w')
    (hno : ∀ w', ¬ wi cost 1 (grt p a k) = true → Below w.heap.size w w' → Q (.returned (.tuple #[s.val none 0 0, .bool false])) w') :
    Calls Try.prog 17 #[p.val, s.val A s.log.length cap, .agg (acells k now cost)] w Q := by
  have HB4 := Lib.hid (below_four w p.box (s.box A s.log.length cap) (.cells (acells k now cost) 38) (.cells (scells 0 0 0 (.slice none 0 0)) 32))
  have BP0 := Lib.hid (Box.alloc (Box.alloc (Box.alloc (Box.new w 23 (pcells p)) (s.box A s.log.length cap)) (.cells (acells k now cost) 38)) (.cells (scells 0 0 0 (.slice none 0 0)) 32))
  have BS0 := Lib.hid (Box.alloc (Box.alloc (Box.new1 w 32 (scells s.tm s.level s.held (.slice A s.log.length cap)) p.box) (.cells (acells k now cost) 38)) (.cells (scells 0 0 0 (.slice none 0 0)) 32))
  have HY := Lib.hid hyes
  have HN := Lib.hid hno
  have H0 := Lib.hid h0
  have HADV := Lib.hid ha
  have HO := Lib.hid (show Ok p a by rw [← ha]; exact (right_ok h0).adv now)
  have ES := Lib.hid (show s.log = [] from (right_ok h0).log)
  clear h0 ha hyes hno
  unfold Pol.val St.val
  go_enter Try.func17, Try.ntmps17
  go_wp2_with fail
  go_step3
  go_wp2_with fail
  refine (right_yes H0.out A cap _).mono ?_
  rintro e w1 ⟨rfl, hb1⟩
  have BP1 := Lib.hid (BP0.out.keep hb1)
  have BS1 := Lib.hid (BS0.out.keep hb1)
  have BA1 := Lib.hid (show Box w1 (w.heap.size + 1 + 1) 38 (acells k now cost) from by unfold Box; rw [hb1.block _ (by simp)]; rw [heap_alloc_old _ _ (by simp)]; exact heap_alloc3_new _ _ _ _)
  have BZ1 := Lib.hid (show Box w1 (w.heap.size + 1 + 1 + 1) 32 (scells 0 0 0 (.slice none 0 0)) from by unfold Box; rw [hb1.block _ (by simp)]; exact (heap_alloc4 _ _ _ _ _).1)
  have HB1 := Lib.hid (HB4.out.trans (hb1.mono (by simp <;> omega)))
  clear hb1
  have ep0 : w1.cell? ⟨w.heap.size, 0, none⟩ = some (.int .i64 p.kind) := BP1.out.cell 0
  have ep1 : w1.cell? ⟨w.heap.size, 1, none⟩ = some (.int .i64 p.limit) := BP1.out.cell 1
  have ep2 : w1.cell? ⟨w.heap.size, 2, none⟩ = some (.int .i64 p.period) := BP1.out.cell 2
  have ep3 : w1.cell? ⟨w.heap.size, 3, none⟩ = some (.int .i64 p.burst) := BP1.out.cell 3
  have ep4 : w1.cell? ⟨w.heap.size, 4, none⟩ = some (.int .i64 p.cap) := BP1.out.cell 4
  have ep5 : w1.cell? ⟨w.heap.size, 5, none⟩ = some (.bool p.opn) := BP1.out.cell 5
  have es0 : w1.cell? ⟨w.heap.size + 1, 0, none⟩ = some (.int .i64 s.tm) := BS1.out.cell 0
  have es1 : w1.cell? ⟨w.heap.size + 1, 1, none⟩ = some (.int .i64 s.level) := BS1.out.cell 1
  have es2 : w1.cell? ⟨w.heap.size + 1, 2, none⟩ = some (.int .i64 s.held) := BS1.out.cell 2
  have es3 : w1.cell? ⟨w.heap.size + 1, 3, none⟩ = some (.slice A s.log.length cap) := BS1.out.cell 3
  have ea0 : w1.cell? ⟨w.heap.size + 1 + 1, 0, none⟩ = some (.int .i64 k) := BA1.out.cell 0
  have ea1 : w1.cell? ⟨w.heap.size + 1 + 1, 1, none⟩ = some (.int .i64 now) := BA1.out.cell 1
  have ea2 : w1.cell? ⟨w.heap.size + 1 + 1, 2, none⟩ = some (.int .i64 cost) := BA1.out.cell 2
  have ef := BS1.out.free 3
  have zn1 : ¬ (w.heap.size + 1 = w.heap.size) := by omega
  have zn2 : ¬ (w.heap.size + 1 + 1 = w.heap.size + 1) := by omega
  go_wp2_with fail
  refine (show Calls Try.prog 25 #[p.val, (⟨s.tm, s.level, s.held, []⟩ : St).val none 0 0, .int .i64 now] _ _ from advance_is (t := a) (by rw [← HADV.out, ← ES.out]) none 0 _).mono ?_
  rintro e w2 ⟨rfl, hb2⟩
  have HAT := Lib.hid (show DoAt w (w2.alloc (.cells (scells a.tm a.level a.held (.slice none 0 0)) 32)) w2.heap.size p s a k now cost from by
    have hs : Box (w1.setCell ⟨w.heap.size + 1, 3, none⟩ (.slice none 0 0)) (w.heap.size + 1) 32 (scells s.tm s.level s.held (.slice none 0 0)) := BS1.out.log _
    exact ⟨(((Below.setCell HB1.out (show w.heap.size ≤ w.heap.size + 1 by omega) _).trans (hb2.mono (Below.setCell HB1.out (show w.heap.size ≤ w.heap.size + 1 by omega) _).size))).alloc (Nat.le_trans HB1.out.size (by have := hb2.size; simpa using this)) _,
      ((BP1.out.far1 (by omega) _ _).keep hb2).alloc _, (hs.keep hb2).alloc _, ((BA1.out.far1 (by omega) _ _).keep hb2).alloc _, ((BZ1.out.far1 (by omega) _ _).keep hb2).alloc _, Box.new _ _ _, ((BZ1.out.far1 (by omega) _ _).keep hb2).lt⟩)
  clear hb2 ep0 ep1 ep2 ep3 ep4 ep5 es0 es1 es2 es3 ea0 ea1 ea2 ef
  obtain ⟨b, hb⟩ : ∃ b, w2.heap.size = b := ⟨_, rfl⟩
  rw [hb] at HAT
  go_wp2_with fail
  go_step3
  go_wp2_with fail
  refine (deeds_calls _).mono ?_
  rintro e w3 ⟨rfl, hb3⟩
  go_wp2_with fail
  go_loopg [23] 4 (fun g i wr => ∃ (j : Nat), j ≤ 4 ∧ g = 4 - j ∧ i = .int .i64 j ∧ Hid (¬ (1 ≤ k ∧ k ≤ j)) ∧ Hid (DoAt w wr b p s a k now cost))
  case atStart => exact ⟨0, by omega, rfl, rfl, by show ¬ _; omega, HAT.out.keep hb3⟩
  case round =>
    obtain ⟨j, hj, hg, rfl, HK, HT⟩ := hrel
    have HG := Lib.hid hg
    have HP := Lib.hid HT.out.2.1
    have HS := Lib.hid HT.out.2.2.1
    have HA := Lib.hid HT.out.2.2.2.1
    have HZ := Lib.hid HT.out.2.2.2.2.1
    have HB := Lib.hid HT.out.2.2.2.2.2.1
    have HL := Lib.hid HT.out.1
    have zb := HT.out.2.2.2.2.2.2
    clear hg
    have fp0 : wr.cell? ⟨w.heap.size, 0, none⟩ = some (.int .i64 p.kind) := HP.out.cell 0
    have fp1 : wr.cell? ⟨w.heap.size, 1, none⟩ = some (.int .i64 p.limit) := HP.out.cell 1
    have fp2 : wr.cell? ⟨w.heap.size, 2, none⟩ = some (.int .i64 p.period) := HP.out.cell 2
    have fp3 : wr.cell? ⟨w.heap.size, 3, none⟩ = some (.int .i64 p.burst) := HP.out.cell 3
    have fp4 : wr.cell? ⟨w.heap.size, 4, none⟩ = some (.int .i64 p.cap) := HP.out.cell 4
    have fp5 : wr.cell? ⟨w.heap.size, 5, none⟩ = some (.bool p.opn) := HP.out.cell 5
    have fs0 : wr.cell? ⟨w.heap.size + 1, 0, none⟩ = some (.int .i64 s.tm) := HS.out.cell 0
    have fs1 : wr.cell? ⟨w.heap.size + 1, 1, none⟩ = some (.int .i64 s.level) := HS.out.cell 1
    have fs2 : wr.cell? ⟨w.heap.size + 1, 2, none⟩ = some (.int .i64 s.held) := HS.out.cell 2
    have fs3 : wr.cell? ⟨w.heap.size + 1, 3, none⟩ = some (.slice none 0 0) := HS.out.cell 3
    have fa0 : wr.cell? ⟨w.heap.size + 1 + 1, 0, none⟩ = some (.int .i64 k) := HA.out.cell 0
    have fa1 : wr.cell? ⟨w.heap.size + 1 + 1, 1, none⟩ = some (.int .i64 now) := HA.out.cell 1
    have fa2 : wr.cell? ⟨w.heap.size + 1 + 1, 2, none⟩ = some (.int .i64 cost) := HA.out.cell 2
    have fb0 : wr.cell? ⟨b, 0, none⟩ = some (.int .i64 a.tm) := HB.out.cell 0
    have fb1 : wr.cell? ⟨b, 1, none⟩ = some (.int .i64 a.level) := HB.out.cell 1
    have fb2 : wr.cell? ⟨b, 2, none⟩ = some (.int .i64 a.held) := HB.out.cell 2
    have fb3 : wr.cell? ⟨b, 3, none⟩ = some (.slice none 0 0) := HB.out.cell 3
    by_cases hj4 : j = 4
    · subst hj4
      have HK4 := Lib.hid (show ¬ wi cost 1 (grt p a k) = true from fun h => by have := grt_kind h; have := HK.out; omega)
      go_wp2_with (refine wpList_store_row rfl 32 _ _ rfl (w.heap.size + 1 + 1 + 1) (scells s.tm s.level s.held (.slice none 0 0)) rfl rfl 32 _ HZ.out st_size rfl (scells_one _ _ _ _ (slice_one _ _ _)) ?_)
      rw [Exit.noGoto_ret]
      refine ret_st2 Try.results17 rfl rfl rfl (setRow_heap _ _ _ _ _ _ HZ.out) ?_
      exact HN.out _ HK4.out (below_setRow HL.out (by omega) _)
    · have hj3 : j = 0 ∨ j = 1 ∨ j = 2 ∨ j = 3 := by omega
      rcases hj3 with hj3 | hj3 | hj3 | hj3
      · obtain rfl : j = 0 := by omega
        have hix := ix0
        have zl0 := HP.out.lt
        have zl1 := HS.out.lt
        have zl2 := HA.out.lt
        have zl3 := HB.out.lt
        have zm0 : ¬ (wr.heap.size = w.heap.size) := by omega
        have zm1 : ¬ (wr.heap.size = w.heap.size + 1) := by omega
        have zm2 : ¬ (wr.heap.size = w.heap.size + 1 + 1) := by omega
        have zm3 : ¬ (wr.heap.size = b) := by omega
        by_cases hk : k = 1
        · subst hk
          cases hw : wi cost 1 (room p a) with
          | true =>
            have HW2 := Lib.hid (show wi cost 1 (grt p a 1) = true by rw [grt_take]; exact hw)
            have hc1 := (wi_yes hw).1
            have hc2 := (wi_yes hw).2
            have HW := Lib.hid hw
            clear hw
            go_wp2_with fail
            have HT2 := Lib.hid (HT.out.alloc (.cells #[.int .i64 1, .func (.func 36) #[] #[], .func (.func 39) #[] #[]] 61))
            have HD2 := Lib.hid (Box.new wr 61 #[.int .i64 1, .func (.func 36) #[] #[], .func (.func 39) #[] #[]])
            have zd : b < wr.heap.size := HB.out.lt
            clear fp0 fp1 fp2 fp3 fp4 fp5 fs0 fs1 fs2 fs3 fa0 fa1 fa2 fb0 fb1 fb2 fb3
            generalize wr.alloc (.cells #[.int .i64 1, .func (.func 36) #[] #[], .func (.func 39) #[] #[]] 61) = W2 at HT2 HD2 ⊢
            have gp0 : ∀ g : Grow W2, g.w.cell? ⟨w.heap.size, 0, none⟩ = some (.int .i64 p.kind) := fun g => Grow.cell HT2.out.2.1 g 0
            have gp1 : ∀ g : Grow W2, g.w.cell? ⟨w.heap.size, 1, none⟩ = some (.int .i64 p.limit) := fun g => Grow.cell HT2.out.2.1 g 1
            have gp2 : ∀ g : Grow W2, g.w.cell? ⟨w.heap.size, 2, none⟩ = some (.int .i64 p.period) := fun g => Grow.cell HT2.out.2.1 g 2
            have gp3 : ∀ g : Grow W2, g.w.cell? ⟨w.heap.size, 3, none⟩ = some (.int .i64 p.burst) := fun g => Grow.cell HT2.out.2.1 g 3
            have gp4 : ∀ g : Grow W2, g.w.cell? ⟨w.heap.size, 4, none⟩ = some (.int .i64 p.cap) := fun g => Grow.cell HT2.out.2.1 g 4
            have gp5 : ∀ g : Grow W2, g.w.cell? ⟨w.heap.size, 5, none⟩ = some (.bool p.opn) := fun g => Grow.cell HT2.out.2.1 g 5
            have ga0 : ∀ g : Grow W2, g.w.cell? ⟨w.heap.size + 1 + 1, 0, none⟩ = some (.int .i64 1) := fun g => Grow.cell HT2.out.2.2.2.1 g 0
            have ga1 : ∀ g : Grow W2, g.w.cell? ⟨w.heap.size + 1 + 1, 1, none⟩ = some (.int .i64 now) := fun g => Grow.cell HT2.out.2.2.2.1 g 1
            have ga2 : ∀ g : Grow W2, g.w.cell? ⟨w.heap.size + 1 + 1, 2, none⟩ = some (.int .i64 cost) := fun g => Grow.cell HT2.out.2.2.2.1 g 2
            have gb0 : ∀ g : Grow W2, g.w.cell? ⟨b, 0, none⟩ = some (.int .i64 a.tm) := fun g => Grow.cell HT2.out.2.2.2.2.2.1 g 0
            have gb1 : ∀ g : Grow W2, g.w.cell? ⟨b, 1, none⟩ = some (.int .i64 a.level) := fun g => Grow.cell HT2.out.2.2.2.2.2.1 g 1
            have gb2 : ∀ g : Grow W2, g.w.cell? ⟨b, 2, none⟩ = some (.int .i64 a.held) := fun g => Grow.cell HT2.out.2.2.2.2.2.1 g 2
            have gb3 : ∀ g : Grow W2, g.w.cell? ⟨b, 3, none⟩ = some (.slice none 0 0) := fun g => Grow.cell HT2.out.2.2.2.2.2.1 g 3
            have gd0 : ∀ g : Grow W2, g.w.cell? ⟨wr.heap.size, 0, none⟩ = some (.int .i64 1) := fun g => Grow.cell HD2.out g 0
            have gd1 : ∀ g : Grow W2, g.w.cell? ⟨wr.heap.size, 1, none⟩ = some (.func (.func 36) #[] #[]) := fun g => Grow.cell HD2.out g 1
            have gd2 : ∀ g : Grow W2, g.w.cell? ⟨wr.heap.size, 2, none⟩ = some (.func (.func 39) #[] #[]) := fun g => Grow.cell HD2.out g 2
            refine wp_region_grow (by kernel_rfl) (by kernel_rfl) ?_
            repeat (go_big_quiet_step ((first | (go_at_call 36; exact grow_call (room_ok HO.out none 0 0 _)) | (go_at_call 26; exact grow_same (within_is HW.out _)))))
            refine wpQuiet_nil ?_
            intro _ hw'
            obtain ⟨gq, hw''⟩ := hw'
            subst hw''
            clear gp0 gp1 gp2 gp3 gp4 gp5 ga0 ga1 ga2 gb0 gb1 gb2 gb3 gd0 gd1 gd2
            have hbq := gq.below
            have HT3 := Lib.hid (HT2.out.keep hbq)
            have HD3 := Lib.hid (HD2.out.keep hbq)
            clear hbq
            generalize gq.w = W3 at HT3 HD3 ⊢
            have hs0 : W3.cell? ⟨w.heap.size + 1, 0, none⟩ = some (.int .i64 s.tm) := HT3.out.2.2.1.cell 0
            have hs1 : W3.cell? ⟨w.heap.size + 1, 1, none⟩ = some (.int .i64 s.level) := HT3.out.2.2.1.cell 1
            have hs2 : W3.cell? ⟨w.heap.size + 1, 2, none⟩ = some (.int .i64 s.held) := HT3.out.2.2.1.cell 2
            have hs3 : W3.cell? ⟨w.heap.size + 1, 3, none⟩ = some (.slice none 0 0) := HT3.out.2.2.1.cell 3
            have ha0 : W3.cell? ⟨w.heap.size + 1 + 1, 0, none⟩ = some (.int .i64 1) := HT3.out.2.2.2.1.cell 0
            have ha1 : W3.cell? ⟨w.heap.size + 1 + 1, 1, none⟩ = some (.int .i64 now) := HT3.out.2.2.2.1.cell 1
            have ha2 : W3.cell? ⟨w.heap.size + 1 + 1, 2, none⟩ = some (.int .i64 cost) := HT3.out.2.2.2.1.cell 2
            have hb0 : W3.cell? ⟨b, 0, none⟩ = some (.int .i64 a.tm) := HT3.out.2.2.2.2.2.1.cell 0
            have hb1 : W3.cell? ⟨b, 1, none⟩ = some (.int .i64 a.level) := HT3.out.2.2.2.2.2.1.cell 1
            have hb2 : W3.cell? ⟨b, 2, none⟩ = some (.int .i64 a.held) := HT3.out.2.2.2.2.2.1.cell 2
            have hb3 : W3.cell? ⟨b, 3, none⟩ = some (.slice none 0 0) := HT3.out.2.2.2.2.2.1.cell 3
            have hd0 : W3.cell? ⟨wr.heap.size, 0, none⟩ = some (.int .i64 1) := HD3.out.cell 0
            have hd1 : W3.cell? ⟨wr.heap.size, 1, none⟩ = some (.func (.func 36) #[] #[]) := HD3.out.cell 1
            have hd2 : W3.cell? ⟨wr.heap.size, 2, none⟩ = some (.func (.func 39) #[] #[]) := HD3.out.cell 2
            go_wp2_with fail
            refine (deed1_calls a none 0 0 cost _ ⟨HO.out.rl.2.2.1, HO.out.rl.2.2.2.1, HO.out.rl.2.2.2.2.1, HO.out.rl.2.2.2.2.2, by omega, by have := HO.out.rl; unfold room at hc2; omega⟩).mono ?_
            rintro e w4 ⟨rfl, hb4⟩
            have HT4 := Lib.hid (HT3.out.keep hb4)
            clear hb4
            go_wp2_with (refine wpList_store_row rfl 32 _ _ rfl (w.heap.size + 1 + 1 + 1) (scells (dn a 1 cost).tm (dn a 1 cost).level (dn a 1 cost).held (.slice none 0 0)) rfl rfl 32 _ HT4.out.2.2.2.2.1 st_size rfl (scells_one _ _ _ _ (slice_one _ _ _)) ?_)
            rw [Exit.noGoto_ret]
            refine ret_st2 Try.results17 rfl rfl rfl (setRow_heap _ _ _ _ _ _ HT4.out.2.2.2.2.1) ?_
            exact HY.out _ HW2.out (below_setRow HT4.out.1 (by omega) _)
          | false =>
            have HW2 := Lib.hid (show ¬ wi cost 1 (grt p a 1) = true by rw [grt_take, hw]; simp)
            have HW := Lib.hid hw
            clear hw
            go_wp2_with fail
            have HT2 := Lib.hid (HT.out.alloc (.cells #[.int .i64 1, .func (.func 36) #[] #[], .func (.func 39) #[] #[]] 61))
            have HD2 := Lib.hid (Box.new wr 61 #[.int .i64 1, .func (.func 36) #[] #[], .func (.func 39) #[] #[]])
            have zd : b < wr.heap.size := HB.out.lt
            clear fp0 fp1 fp2 fp3 fp4 fp5 fs0 fs1 fs2 fs3 fa0 fa1 fa2 fb0 fb1 fb2 fb3
            generalize wr.alloc (.cells #[.int .i64 1, .func (.func 36) #[] #[], .func (.func 39) #[] #[]] 61) = W2 at HT2 HD2 ⊢
            have gp0 : ∀ g : Grow W2, g.w.cell? ⟨w.heap.size, 0, none⟩ = some (.int .i64 p.kind) := fun g => Grow.cell HT2.out.2.1 g 0
            have gp1 : ∀ g : Grow W2, g.w.cell? ⟨w.heap.size, 1, none⟩ = some (.int .i64 p.limit) := fun g => Grow.cell HT2.out.2.1 g 1
            have gp2 : ∀ g : Grow W2, g.w.cell? ⟨w.heap.size, 2, none⟩ = some (.int .i64 p.period) := fun g => Grow.cell HT2.out.2.1 g 2
            have gp3 : ∀ g : Grow W2, g.w.cell? ⟨w.heap.size, 3, none⟩ = some (.int .i64 p.burst) := fun g => Grow.cell HT2.out.2.1 g 3
            have gp4 : ∀ g : Grow W2, g.w.cell? ⟨w.heap.size, 4, none⟩ = some (.int .i64 p.cap) := fun g => Grow.cell HT2.out.2.1 g 4
            have gp5 : ∀ g : Grow W2, g.w.cell? ⟨w.heap.size, 5, none⟩ = some (.bool p.opn) := fun g => Grow.cell HT2.out.2.1 g 5
            have ga0 : ∀ g : Grow W2, g.w.cell? ⟨w.heap.size + 1 + 1, 0, none⟩ = some (.int .i64 1) := fun g => Grow.cell HT2.out.2.2.2.1 g 0
            have ga1 : ∀ g : Grow W2, g.w.cell? ⟨w.heap.size + 1 + 1, 1, none⟩ = some (.int .i64 now) := fun g => Grow.cell HT2.out.2.2.2.1 g 1
            have ga2 : ∀ g : Grow W2, g.w.cell? ⟨w.heap.size + 1 + 1, 2, none⟩ = some (.int .i64 cost) := fun g => Grow.cell HT2.out.2.2.2.1 g 2
            have gb0 : ∀ g : Grow W2, g.w.cell? ⟨b, 0, none⟩ = some (.int .i64 a.tm) := fun g => Grow.cell HT2.out.2.2.2.2.2.1 g 0
            have gb1 : ∀ g : Grow W2, g.w.cell? ⟨b, 1, none⟩ = some (.int .i64 a.level) := fun g => Grow.cell HT2.out.2.2.2.2.2.1 g 1
            have gb2 : ∀ g : Grow W2, g.w.cell? ⟨b, 2, none⟩ = some (.int .i64 a.held) := fun g => Grow.cell HT2.out.2.2.2.2.2.1 g 2
            have gb3 : ∀ g : Grow W2, g.w.cell? ⟨b, 3, none⟩ = some (.slice none 0 0) := fun g => Grow.cell HT2.out.2.2.2.2.2.1 g 3
            have gd0 : ∀ g : Grow W2, g.w.cell? ⟨wr.heap.size, 0, none⟩ = some (.int .i64 1) := fun g => Grow.cell HD2.out g 0
            have gd1 : ∀ g : Grow W2, g.w.cell? ⟨wr.heap.size, 1, none⟩ = some (.func (.func 36) #[] #[]) := fun g => Grow.cell HD2.out g 1
            have gd2 : ∀ g : Grow W2, g.w.cell? ⟨wr.heap.size, 2, none⟩ = some (.func (.func 39) #[] #[]) := fun g => Grow.cell HD2.out g 2
            refine wp_region_grow (by kernel_rfl) (by kernel_rfl) ?_
            repeat (go_big_quiet_step ((first | (go_at_call 36; exact grow_call (room_ok HO.out none 0 0 _)) | (go_at_call 26; exact grow_same (within_is HW.out _)))))
            refine wpQuiet_nil ?_
            intro _ hw'
            obtain ⟨gq, hw''⟩ := hw'
            subst hw''
            clear gp0 gp1 gp2 gp3 gp4 gp5 ga0 ga1 ga2 gb0 gb1 gb2 gb3 gd0 gd1 gd2
            have hbq := gq.below
            have HT3 := Lib.hid (HT2.out.keep hbq)
            have HD3 := Lib.hid (HD2.out.keep hbq)
            clear hbq
            generalize gq.w = W3 at HT3 HD3 ⊢
            have hs0 : W3.cell? ⟨w.heap.size + 1, 0, none⟩ = some (.int .i64 s.tm) := HT3.out.2.2.1.cell 0
            have hs1 : W3.cell? ⟨w.heap.size + 1, 1, none⟩ = some (.int .i64 s.level) := HT3.out.2.2.1.cell 1
            have hs2 : W3.cell? ⟨w.heap.size + 1, 2, none⟩ = some (.int .i64 s.held) := HT3.out.2.2.1.cell 2
            have hs3 : W3.cell? ⟨w.heap.size + 1, 3, none⟩ = some (.slice none 0 0) := HT3.out.2.2.1.cell 3
            have ha0 : W3.cell? ⟨w.heap.size + 1 + 1, 0, none⟩ = some (.int .i64 1) := HT3.out.2.2.2.1.cell 0
            have ha1 : W3.cell? ⟨w.heap.size + 1 + 1, 1, none⟩ = some (.int .i64 now) := HT3.out.2.2.2.1.cell 1
            have ha2 : W3.cell? ⟨w.heap.size + 1 + 1, 2, none⟩ = some (.int .i64 cost) := HT3.out.2.2.2.1.cell 2
            have hb0 : W3.cell? ⟨b, 0, none⟩ = some (.int .i64 a.tm) := HT3.out.2.2.2.2.2.1.cell 0
            have hb1 : W3.cell? ⟨b, 1, none⟩ = some (.int .i64 a.level) := HT3.out.2.2.2.2.2.1.cell 1
            have hb2 : W3.cell? ⟨b, 2, none⟩ = some (.int .i64 a.held) := HT3.out.2.2.2.2.2.1.cell 2
            have hb3 : W3.cell? ⟨b, 3, none⟩ = some (.slice none 0 0) := HT3.out.2.2.2.2.2.1.cell 3
            have hd0 : W3.cell? ⟨wr.heap.size, 0, none⟩ = some (.int .i64 1) := HD3.out.cell 0
            have hd1 : W3.cell? ⟨wr.heap.size, 1, none⟩ = some (.func (.func 36) #[] #[]) := HD3.out.cell 1
            have hd2 : W3.cell? ⟨wr.heap.size, 2, none⟩ = some (.func (.func 39) #[] #[]) := HD3.out.cell 2
            go_wp2_with (refine wpList_store_row rfl 32 _ _ rfl (w.heap.size + 1 + 1 + 1) (scells s.tm s.level s.held (.slice none 0 0)) rfl rfl 32 _ HT3.out.2.2.2.2.1 st_size rfl (scells_one _ _ _ _ (slice_one _ _ _)) ?_)
            rw [Exit.noGoto_ret]
            refine ret_st2 Try.results17 rfl rfl rfl (setRow_heap _ _ _ _ _ _ HT3.out.2.2.2.2.1) ?_
            exact HN.out _ HW2.out (below_setRow HT3.out.1 (by omega) _)
        · have t1 : ((1 : Int) != k) = true := by simp; omega
          have HK2 := Lib.hid (show ¬ (1 ≤ k ∧ k ≤ ((1 : Nat) : Int)) from fun h => by have := HK.out; omega)
          clear hk
          go_wp2_with fail
          go_roundg (gk - 1)
          case rel => exact ⟨1, by omega, by have := HG.out; omega, rfl, HK2.out, HT.out.alloc _⟩
          case measure => have := HG.out; omega
      · obtain rfl : j = 1 := by omega
        have hix := ix1
        have zl0 := HP.out.lt
        have zl1 := HS.out.lt
        have zl2 := HA.out.lt
        have zl3 := HB.out.lt
        have zm0 : ¬ (wr.heap.size = w.heap.size) := by omega
        have zm1 : ¬ (wr.heap.size = w.heap.size + 1) := by omega
        have zm2 : ¬ (wr.heap.size = w.heap.size + 1 + 1) := by omega
        have zm3 : ¬ (wr.heap.size = b) := by omega
        by_cases hk : k = 2
        · subst hk
          cases hw : wi cost 1 (room p a) with
          | true =>
            have HW2 := Lib.hid (show wi cost 1 (grt p a 2) = true by rw [grt_hold]; exact hw)
            have hc1 := (wi_yes hw).1
            have hc2 := (wi_yes hw).2
            have HW := Lib.hid hw
            clear hw
            go_wp2_with fail
            have HT2 := Lib.hid (HT.out.alloc (.cells #[.int .i64 2, .func (.func 36) #[] #[], .func (.func 40) #[] #[]] 61))
            have HD2 := Lib.hid (Box.new wr 61 #[.int .i64 2, .func (.func 36) #[] #[], .func (.func 40) #[] #[]])
            have zd : b < wr.heap.size := HB.out.lt
            clear fp0 fp1 fp2 fp3 fp4 fp5 fs0 fs1 fs2 fs3 fa0 fa1 fa2 fb0 fb1 fb2 fb3
            generalize wr.alloc (.cells #[.int .i64 2, .func (.func 36) #[] #[], .func (.func 40) #[] #[]] 61) = W2 at HT2 HD2 ⊢
            have gp0 : ∀ g : Grow W2, g.w.cell? ⟨w.heap.size, 0, none⟩ = some (.int .i64 p.kind) := fun g => Grow.cell HT2.out.2.1 g 0
            have gp1 : ∀ g : Grow W2, g.w.cell? ⟨w.heap.size, 1, none⟩ = some (.int .i64 p.limit) := fun g => Grow.cell HT2.out.2.1 g 1
            have gp2 : ∀ g : Grow W2, g.w.cell? ⟨w.heap.size, 2, none⟩ = some (.int .i64 p.period) := fun g => Grow.cell HT2.out.2.1 g 2
            have gp3 : ∀ g : Grow W2, g.w.cell? ⟨w.heap.size, 3, none⟩ = some (.int .i64 p.burst) := fun g => Grow.cell HT2.out.2.1 g 3
            have gp4 : ∀ g : Grow W2, g.w.cell? ⟨w.heap.size, 4, none⟩ = some (.int .i64 p.cap) := fun g => Grow.cell HT2.out.2.1 g 4
            have gp5 : ∀ g : Grow W2, g.w.cell? ⟨w.heap.size, 5, none⟩ = some (.bool p.opn) := fun g => Grow.cell HT2.out.2.1 g 5
            have ga0 : ∀ g : Grow W2, g.w.cell? ⟨w.heap.size + 1 + 1, 0, none⟩ = some (.int .i64 2) := fun g => Grow.cell HT2.out.2.2.2.1 g 0
            have ga1 : ∀ g : Grow W2, g.w.cell? ⟨w.heap.size + 1 + 1, 1, none⟩ = some (.int .i64 now) := fun g => Grow.cell HT2.out.2.2.2.1 g 1
            have ga2 : ∀ g : Grow W2, g.w.cell? ⟨w.heap.size + 1 + 1, 2, none⟩ = some (.int .i64 cost) := fun g => Grow.cell HT2.out.2.2.2.1 g 2
            have gb0 : ∀ g : Grow W2, g.w.cell? ⟨b, 0, none⟩ = some (.int .i64 a.tm) := fun g => Grow.cell HT2.out.2.2.2.2.2.1 g 0
            have gb1 : ∀ g : Grow W2, g.w.cell? ⟨b, 1, none⟩ = some (.int .i64 a.level) := fun g => Grow.cell HT2.out.2.2.2.2.2.1 g 1
            have gb2 : ∀ g : Grow W2, g.w.cell? ⟨b, 2, none⟩ = some (.int .i64 a.held) := fun g => Grow.cell HT2.out.2.2.2.2.2.1 g 2
            have gb3 : ∀ g : Grow W2, g.w.cell? ⟨b, 3, none⟩ = some (.slice none 0 0) := fun g => Grow.cell HT2.out.2.2.2.2.2.1 g 3
            have gd0 : ∀ g : Grow W2, g.w.cell? ⟨wr.heap.size, 0, none⟩ = some (.int .i64 2) := fun g => Grow.cell HD2.out g 0
            have gd1 : ∀ g : Grow W2, g.w.cell? ⟨wr.heap.size, 1, none⟩ = some (.func (.func 36) #[] #[]) := fun g => Grow.cell HD2.out g 1
            have gd2 : ∀ g : Grow W2, g.w.cell? ⟨wr.heap.size, 2, none⟩ = some (.func (.func 40) #[] #[]) := fun g => Grow.cell HD2.out g 2
            refine wp_region_grow (by kernel_rfl) (by kernel_rfl) ?_
            repeat (go_big_quiet_step ((first | (go_at_call 36; exact grow_call (room_ok HO.out none 0 0 _)) | (go_at_call 26; exact grow_same (within_is HW.out _)))))
            refine wpQuiet_nil ?_
            intro _ hw'
            obtain ⟨gq, hw''⟩ := hw'
            subst hw''
            clear gp0 gp1 gp2 gp3 gp4 gp5 ga0 ga1 ga2 gb0 gb1 gb2 gb3 gd0 gd1 gd2
            have hbq := gq.below
            have HT3 := Lib.hid (HT2.out.keep hbq)
            have HD3 := Lib.hid (HD2.out.keep hbq)
            clear hbq
            generalize gq.w = W3 at HT3 HD3 ⊢
            have hs0 : W3.cell? ⟨w.heap.size + 1, 0, none⟩ = some (.int .i64 s.tm) := HT3.out.2.2.1.cell 0
            have hs1 : W3.cell? ⟨w.heap.size + 1, 1, none⟩ = some (.int .i64 s.level) := HT3.out.2.2.1.cell 1
            have hs2 : W3.cell? ⟨w.heap.size + 1, 2, none⟩ = some (.int .i64 s.held) := HT3.out.2.2.1.cell 2
            have hs3 : W3.cell? ⟨w.heap.size + 1, 3, none⟩ = some (.slice none 0 0) := HT3.out.2.2.1.cell 3
            have ha0 : W3.cell? ⟨w.heap.size + 1 + 1, 0, none⟩ = some (.int .i64 2) := HT3.out.2.2.2.1.cell 0
            have ha1 : W3.cell? ⟨w.heap.size + 1 + 1, 1, none⟩ = some (.int .i64 now) := HT3.out.2.2.2.1.cell 1
            have ha2 : W3.cell? ⟨w.heap.size + 1 + 1, 2, none⟩ = some (.int .i64 cost) := HT3.out.2.2.2.1.cell 2
            have hb0 : W3.cell? ⟨b, 0, none⟩ = some (.int .i64 a.tm) := HT3.out.2.2.2.2.2.1.cell 0
            have hb1 : W3.cell? ⟨b, 1, none⟩ = some (.int .i64 a.level) := HT3.out.2.2.2.2.2.1.cell 1
            have hb2 : W3.cell? ⟨b, 2, none⟩ = some (.int .i64 a.held) := HT3.out.2.2.2.2.2.1.cell 2
            have hb3 : W3.cell? ⟨b, 3, none⟩ = some (.slice none 0 0) := HT3.out.2.2.2.2.2.1.cell 3
            have hd0 : W3.cell? ⟨wr.heap.size, 0, none⟩ = some (.int .i64 2) := HD3.out.cell 0
            have hd1 : W3.cell? ⟨wr.heap.size, 1, none⟩ = some (.func (.func 36) #[] #[]) := HD3.out.cell 1
            have hd2 : W3.cell? ⟨wr.heap.size, 2, none⟩ = some (.func (.func 40) #[] #[]) := HD3.out.cell 2
            go_wp2_with fail
            refine (deed2_calls a none 0 0 cost _ ⟨HO.out.rl.2.2.1, HO.out.rl.2.2.2.1, HO.out.rl.2.2.2.2.1, HO.out.rl.2.2.2.2.2, by omega, by have := HO.out.rl; unfold room at hc2; omega⟩).mono ?_
            rintro e w4 ⟨rfl, hb4⟩
            have HT4 := Lib.hid (HT3.out.keep hb4)
            clear hb4
            go_wp2_with (refine wpList_store_row rfl 32 _ _ rfl (w.heap.size + 1 + 1 + 1) (scells (dn a 2 cost).tm (dn a 2 cost).level (dn a 2 cost).held (.slice none 0 0)) rfl rfl 32 _ HT4.out.2.2.2.2.1 st_size rfl (scells_one _ _ _ _ (slice_one _ _ _)) ?_)
            rw [Exit.noGoto_ret]
            refine ret_st2 Try.results17 rfl rfl rfl (setRow_heap _ _ _ _ _ _ HT4.out.2.2.2.2.1) ?_
            exact HY.out _ HW2.out (below_setRow HT4.out.1 (by omega) _)
          | false =>
            have HW2 := Lib.hid (show ¬ wi cost 1 (grt p a 2) = true by rw [grt_hold, hw]; simp)
            have HW := Lib.hid hw
            clear hw
            go_wp2_with fail
            have HT2 := Lib.hid (HT.out.alloc (.cells #[.int .i64 2, .func (.func 36) #[] #[], .func (.func 40) #[] #[]] 61))
            have HD2 := Lib.hid (Box.new wr 61 #[.int .i64 2, .func (.func 36) #[] #[], .func (.func 40) #[] #[]])
            have zd : b < wr.heap.size := HB.out.lt
            clear fp0 fp1 fp2 fp3 fp4 fp5 fs0 fs1 fs2 fs3 fa0 fa1 fa2 fb0 fb1 fb2 fb3
            generalize wr.alloc (.cells #[.int .i64 2, .func (.func 36) #[] #[], .func (.func 40) #[] #[]] 61) = W2 at HT2 HD2 ⊢
            have gp0 : ∀ g : Grow W2, g.w.cell? ⟨w.heap.size, 0, none⟩ = some (.int .i64 p.kind) := fun g => Grow.cell HT2.out.2.1 g 0
            have gp1 : ∀ g : Grow W2, g.w.cell? ⟨w.heap.size, 1, none⟩ = some (.int .i64 p.limit) := fun g => Grow.cell HT2.out.2.1 g 1
            have gp2 : ∀ g : Grow W2, g.w.cell? ⟨w.heap.size, 2, none⟩ = some (.int .i64 p.period) := fun g => Grow.cell HT2.out.2.1 g 2
            have gp3 : ∀ g : Grow W2, g.w.cell? ⟨w.heap.size, 3, none⟩ = some (.int .i64 p.burst) := fun g => Grow.cell HT2.out.2.1 g 3
            have gp4 : ∀ g : Grow W2, g.w.cell? ⟨w.heap.size, 4, none⟩ = some (.int .i64 p.cap) := fun g => Grow.cell HT2.out.2.1 g 4
            have gp5 : ∀ g : Grow W2, g.w.cell? ⟨w.heap.size, 5, none⟩ = some (.bool p.opn) := fun g => Grow.cell HT2.out.2.1 g 5
            have ga0 : ∀ g : Grow W2, g.w.cell? ⟨w.heap.size + 1 + 1, 0, none⟩ = some (.int .i64 2) := fun g => Grow.cell HT2.out.2.2.2.1 g 0
            have ga1 : ∀ g : Grow W2, g.w.cell? ⟨w.heap.size + 1 + 1, 1, none⟩ = some (.int .i64 now) := fun g => Grow.cell HT2.out.2.2.2.1 g 1
            have ga2 : ∀ g : Grow W2, g.w.cell? ⟨w.heap.size + 1 + 1, 2, none⟩ = some (.int .i64 cost) := fun g => Grow.cell HT2.out.2.2.2.1 g 2
            have gb0 : ∀ g : Grow W2, g.w.cell? ⟨b, 0, none⟩ = some (.int .i64 a.tm) := fun g => Grow.cell HT2.out.2.2.2.2.2.1 g 0
            have gb1 : ∀ g : Grow W2, g.w.cell? ⟨b, 1, none⟩ = some (.int .i64 a.level) := fun g => Grow.cell HT2.out.2.2.2.2.2.1 g 1
            have gb2 : ∀ g : Grow W2, g.w.cell? ⟨b, 2, none⟩ = some (.int .i64 a.held) := fun g => Grow.cell HT2.out.2.2.2.2.2.1 g 2
            have gb3 : ∀ g : Grow W2, g.w.cell? ⟨b, 3, none⟩ = some (.slice none 0 0) := fun g => Grow.cell HT2.out.2.2.2.2.2.1 g 3
            have gd0 : ∀ g : Grow W2, g.w.cell? ⟨wr.heap.size, 0, none⟩ = some (.int .i64 2) := fun g => Grow.cell HD2.out g 0
            have gd1 : ∀ g : Grow W2, g.w.cell? ⟨wr.heap.size, 1, none⟩ = some (.func (.func 36) #[] #[]) := fun g => Grow.cell HD2.out g 1
            have gd2 : ∀ g : Grow W2, g.w.cell? ⟨wr.heap.size, 2, none⟩ = some (.func (.func 40) #[] #[]) := fun g => Grow.cell HD2.out g 2
            refine wp_region_grow (by kernel_rfl) (by kernel_rfl) ?_
            repeat (go_big_quiet_step ((first | (go_at_call 36; exact grow_call (room_ok HO.out none 0 0 _)) | (go_at_call 26; exact grow_same (within_is HW.out _)))))
            refine wpQuiet_nil ?_
            intro _ hw'
            obtain ⟨gq, hw''⟩ := hw'
            subst hw''
            clear gp0 gp1 gp2 gp3 gp4 gp5 ga0 ga1 ga2 gb0 gb1 gb2 gb3 gd0 gd1 gd2
            have hbq := gq.below
            have HT3 := Lib.hid (HT2.out.keep hbq)
            have HD3 := Lib.hid (HD2.out.keep hbq)
            clear hbq
            generalize gq.w = W3 at HT3 HD3 ⊢
            have hs0 : W3.cell? ⟨w.heap.size + 1, 0, none⟩ = some (.int .i64 s.tm) := HT3.out.2.2.1.cell 0
            have hs1 : W3.cell? ⟨w.heap.size + 1, 1, none⟩ = some (.int .i64 s.level) := HT3.out.2.2.1.cell 1
            have hs2 : W3.cell? ⟨w.heap.size + 1, 2, none⟩ = some (.int .i64 s.held) := HT3.out.2.2.1.cell 2
            have hs3 : W3.cell? ⟨w.heap.size + 1, 3, none⟩ = some (.slice none 0 0) := HT3.out.2.2.1.cell 3
            have ha0 : W3.cell? ⟨w.heap.size + 1 + 1, 0, none⟩ = some (.int .i64 2) := HT3.out.2.2.2.1.cell 0
            have ha1 : W3.cell? ⟨w.heap.size + 1 + 1, 1, none⟩ = some (.int .i64 now) := HT3.out.2.2.2.1.cell 1
            have ha2 : W3.cell? ⟨w.heap.size + 1 + 1, 2, none⟩ = some (.int .i64 cost) := HT3.out.2.2.2.1.cell 2
            have hb0 : W3.cell? ⟨b, 0, none⟩ = some (.int .i64 a.tm) := HT3.out.2.2.2.2.2.1.cell 0
            have hb1 : W3.cell? ⟨b, 1, none⟩ = some (.int .i64 a.level) := HT3.out.2.2.2.2.2.1.cell 1
            have hb2 : W3.cell? ⟨b, 2, none⟩ = some (.int .i64 a.held) := HT3.out.2.2.2.2.2.1.cell 2
            have hb3 : W3.cell? ⟨b, 3, none⟩ = some (.slice none 0 0) := HT3.out.2.2.2.2.2.1.cell 3
            have hd0 : W3.cell? ⟨wr.heap.size, 0, none⟩ = some (.int .i64 2) := HD3.out.cell 0
            have hd1 : W3.cell? ⟨wr.heap.size, 1, none⟩ = some (.func (.func 36) #[] #[]) := HD3.out.cell 1
            have hd2 : W3.cell? ⟨wr.heap.size, 2, none⟩ = some (.func (.func 40) #[] #[]) := HD3.out.cell 2
            go_wp2_with (refine wpList_store_row rfl 32 _ _ rfl (w.heap.size + 1 + 1 + 1) (scells s.tm s.level s.held (.slice none 0 0)) rfl rfl 32 _ HT3.out.2.2.2.2.1 st_size rfl (scells_one _ _ _ _ (slice_one _ _ _)) ?_)
            rw [Exit.noGoto_ret]
            refine ret_st2 Try.results17 rfl rfl rfl (setRow_heap _ _ _ _ _ _ HT3.out.2.2.2.2.1) ?_
            exact HN.out _ HW2.out (below_setRow HT3.out.1 (by omega) _)
        · have t1 : ((2 : Int) != k) = true := by simp; omega
          have HK2 := Lib.hid (show ¬ (1 ≤ k ∧ k ≤ ((2 : Nat) : Int)) from fun h => by have := HK.out; omega)
          clear hk
          go_wp2_with fail
          go_roundg (gk - 1)
          case rel => exact ⟨2, by omega, by have := HG.out; omega, rfl, HK2.out, HT.out.alloc _⟩
          case measure => have := HG.out; omega
      · obtain rfl : j = 2 := by omega
        have hix := ix2
        have zl0 := HP.out.lt
        have zl1 := HS.out.lt
        have zl2 := HA.out.lt
        have zl3 := HB.out.lt
        have zm0 : ¬ (wr.heap.size = w.heap.size) := by omega
        have zm1 : ¬ (wr.heap.size = w.heap.size + 1) := by omega
        have zm2 : ¬ (wr.heap.size = w.heap.size + 1 + 1) := by omega
        have zm3 : ¬ (wr.heap.size = b) := by omega
        by_cases hk : k = 3
        · subst hk
          cases hw : wi cost 1 (a.held) with
          | true =>
            have HW2 := Lib.hid (show wi cost 1 (grt p a 3) = true by rw [grt_release]; exact hw)
            have hc1 := (wi_yes hw).1
            have hc2 := (wi_yes hw).2
            have HW := Lib.hid hw
            clear hw
            go_wp2_with fail
            have HT2 := Lib.hid (HT.out.alloc (.cells #[.int .i64 3, .func (.func 41) #[] #[], .func (.func 42) #[] #[]] 61))
            have HD2 := Lib.hid (Box.new wr 61 #[.int .i64 3, .func (.func 41) #[] #[], .func (.func 42) #[] #[]])
            have zd : b < wr.heap.size := HB.out.lt
            clear fp0 fp1 fp2 fp3 fp4 fp5 fs0 fs1 fs2 fs3 fa0 fa1 fa2 fb0 fb1 fb2 fb3
            generalize wr.alloc (.cells #[.int .i64 3, .func (.func 41) #[] #[], .func (.func 42) #[] #[]] 61) = W2 at HT2 HD2 ⊢
            have gp0 : ∀ g : Grow W2, g.w.cell? ⟨w.heap.size, 0, none⟩ = some (.int .i64 p.kind) := fun g => Grow.cell HT2.out.2.1 g 0
            have gp1 : ∀ g : Grow W2, g.w.cell? ⟨w.heap.size, 1, none⟩ = some (.int .i64 p.limit) := fun g => Grow.cell HT2.out.2.1 g 1
            have gp2 : ∀ g : Grow W2, g.w.cell? ⟨w.heap.size, 2, none⟩ = some (.int .i64 p.period) := fun g => Grow.cell HT2.out.2.1 g 2
            have gp3 : ∀ g : Grow W2, g.w.cell? ⟨w.heap.size, 3, none⟩ = some (.int .i64 p.burst) := fun g => Grow.cell HT2.out.2.1 g 3
            have gp4 : ∀ g : Grow W2, g.w.cell? ⟨w.heap.size, 4, none⟩ = some (.int .i64 p.cap) := fun g => Grow.cell HT2.out.2.1 g 4
            have gp5 : ∀ g : Grow W2, g.w.cell? ⟨w.heap.size, 5, none⟩ = some (.bool p.opn) := fun g => Grow.cell HT2.out.2.1 g 5
            have ga0 : ∀ g : Grow W2, g.w.cell? ⟨w.heap.size + 1 + 1, 0, none⟩ = some (.int .i64 3) := fun g => Grow.cell HT2.out.2.2.2.1 g 0
            have ga1 : ∀ g : Grow W2, g.w.cell? ⟨w.heap.size + 1 + 1, 1, none⟩ = some (.int .i64 now) := fun g => Grow.cell HT2.out.2.2.2.1 g 1
            have ga2 : ∀ g : Grow W2, g.w.cell? ⟨w.heap.size + 1 + 1, 2, none⟩ = some (.int .i64 cost) := fun g => Grow.cell HT2.out.2.2.2.1 g 2
            have gb0 : ∀ g : Grow W2, g.w.cell? ⟨b, 0, none⟩ = some (.int .i64 a.tm) := fun g => Grow.cell HT2.out.2.2.2.2.2.1 g 0
            have gb1 : ∀ g : Grow W2, g.w.cell? ⟨b, 1, none⟩ = some (.int .i64 a.level) := fun g => Grow.cell HT2.out.2.2.2.2.2.1 g 1
            have gb2 : ∀ g : Grow W2, g.w.cell? ⟨b, 2, none⟩ = some (.int .i64 a.held) := fun g => Grow.cell HT2.out.2.2.2.2.2.1 g 2
            have gb3 : ∀ g : Grow W2, g.w.cell? ⟨b, 3, none⟩ = some (.slice none 0 0) := fun g => Grow.cell HT2.out.2.2.2.2.2.1 g 3
            have gd0 : ∀ g : Grow W2, g.w.cell? ⟨wr.heap.size, 0, none⟩ = some (.int .i64 3) := fun g => Grow.cell HD2.out g 0
            have gd1 : ∀ g : Grow W2, g.w.cell? ⟨wr.heap.size, 1, none⟩ = some (.func (.func 41) #[] #[]) := fun g => Grow.cell HD2.out g 1
            have gd2 : ∀ g : Grow W2, g.w.cell? ⟨wr.heap.size, 2, none⟩ = some (.func (.func 42) #[] #[]) := fun g => Grow.cell HD2.out g 2
            refine wp_region_grow (by kernel_rfl) (by kernel_rfl) ?_
            repeat (go_big_quiet_step ((first | (go_at_call 41; exact grow_call (held_calls p a none 0 0 _)) | (go_at_call 26; exact grow_same (within_is HW.out _)))))
            refine wpQuiet_nil ?_
            intro _ hw'
            obtain ⟨gq, hw''⟩ := hw'
            subst hw''
            clear gp0 gp1 gp2 gp3 gp4 gp5 ga0 ga1 ga2 gb0 gb1 gb2 gb3 gd0 gd1 gd2
            have hbq := gq.below
            have HT3 := Lib.hid (HT2.out.keep hbq)
            have HD3 := Lib.hid (HD2.out.keep hbq)
            clear hbq
            generalize gq.w = W3 at HT3 HD3 ⊢
            have hs0 : W3.cell? ⟨w.heap.size + 1, 0, none⟩ = some (.int .i64 s.tm) := HT3.out.2.2.1.cell 0
            have hs1 : W3.cell? ⟨w.heap.size + 1, 1, none⟩ = some (.int .i64 s.level) := HT3.out.2.2.1.cell 1
            have hs2 : W3.cell? ⟨w.heap.size + 1, 2, none⟩ = some (.int .i64 s.held) := HT3.out.2.2.1.cell 2
            have hs3 : W3.cell? ⟨w.heap.size + 1, 3, none⟩ = some (.slice none 0 0) := HT3.out.2.2.1.cell 3
            have ha0 : W3.cell? ⟨w.heap.size + 1 + 1, 0, none⟩ = some (.int .i64 3) := HT3.out.2.2.2.1.cell 0
            have ha1 : W3.cell? ⟨w.heap.size + 1 + 1, 1, none⟩ = some (.int .i64 now) := HT3.out.2.2.2.1.cell 1
            have ha2 : W3.cell? ⟨w.heap.size + 1 + 1, 2, none⟩ = some (.int .i64 cost) := HT3.out.2.2.2.1.cell 2
            have hb0 : W3.cell? ⟨b, 0, none⟩ = some (.int .i64 a.tm) := HT3.out.2.2.2.2.2.1.cell 0
            have hb1 : W3.cell? ⟨b, 1, none⟩ = some (.int .i64 a.level) := HT3.out.2.2.2.2.2.1.cell 1
            have hb2 : W3.cell? ⟨b, 2, none⟩ = some (.int .i64 a.held) := HT3.out.2.2.2.2.2.1.cell 2
            have hb3 : W3.cell? ⟨b, 3, none⟩ = some (.slice none 0 0) := HT3.out.2.2.2.2.2.1.cell 3
            have hd0 : W3.cell? ⟨wr.heap.size, 0, none⟩ = some (.int .i64 3) := HD3.out.cell 0
            have hd1 : W3.cell? ⟨wr.heap.size, 1, none⟩ = some (.func (.func 41) #[] #[]) := HD3.out.cell 1
            have hd2 : W3.cell? ⟨wr.heap.size, 2, none⟩ = some (.func (.func 42) #[] #[]) := HD3.out.cell 2
            go_wp2_with fail
            refine (deed3_calls a none 0 0 cost _ ⟨HO.out.rl.2.2.1, HO.out.rl.2.2.2.1, HO.out.rl.2.2.2.2.1, HO.out.rl.2.2.2.2.2, by omega, by have := HO.out.rl; omega⟩).mono ?_
            rintro e w4 ⟨rfl, hb4⟩
            have HT4 := Lib.hid (HT3.out.keep hb4)
            clear hb4
            go_wp2_with (refine wpList_store_row rfl 32 _ _ rfl (w.heap.size + 1 + 1 + 1) (scells (dn a 3 cost).tm (dn a 3 cost).level (dn a 3 cost).held (.slice none 0 0)) rfl rfl 32 _ HT4.out.2.2.2.2.1 st_size rfl (scells_one _ _ _ _ (slice_one _ _ _)) ?_)
            rw [Exit.noGoto_ret]
            refine ret_st2 Try.results17 rfl rfl rfl (setRow_heap _ _ _ _ _ _ HT4.out.2.2.2.2.1) ?_
            exact HY.out _ HW2.out (below_setRow HT4.out.1 (by omega) _)
          | false =>
            have HW2 := Lib.hid (show ¬ wi cost 1 (grt p a 3) = true by rw [grt_release, hw]; simp)
            have HW := Lib.hid hw
            clear hw
            go_wp2_with fail
            have HT2 := Lib.hid (HT.out.alloc (.cells #[.int .i64 3, .func (.func 41) #[] #[], .func (.func 42) #[] #[]] 61))
            have HD2 := Lib.hid (Box.new wr 61 #[.int .i64 3, .func (.func 41) #[] #[], .func (.func 42) #[] #[]])
            have zd : b < wr.heap.size := HB.out.lt
            clear fp0 fp1 fp2 fp3 fp4 fp5 fs0 fs1 fs2 fs3 fa0 fa1 fa2 fb0 fb1 fb2 fb3
            generalize wr.alloc (.cells #[.int .i64 3, .func (.func 41) #[] #[], .func (.func 42) #[] #[]] 61) = W2 at HT2 HD2 ⊢
            have gp0 : ∀ g : Grow W2, g.w.cell? ⟨w.heap.size, 0, none⟩ = some (.int .i64 p.kind) := fun g => Grow.cell HT2.out.2.1 g 0
            have gp1 : ∀ g : Grow W2, g.w.cell? ⟨w.heap.size, 1, none⟩ = some (.int .i64 p.limit) := fun g => Grow.cell HT2.out.2.1 g 1
            have gp2 : ∀ g : Grow W2, g.w.cell? ⟨w.heap.size, 2, none⟩ = some (.int .i64 p.period) := fun g => Grow.cell HT2.out.2.1 g 2
            have gp3 : ∀ g : Grow W2, g.w.cell? ⟨w.heap.size, 3, none⟩ = some (.int .i64 p.burst) := fun g => Grow.cell HT2.out.2.1 g 3
            have gp4 : ∀ g : Grow W2, g.w.cell? ⟨w.heap.size, 4, none⟩ = some (.int .i64 p.cap) := fun g => Grow.cell HT2.out.2.1 g 4
            have gp5 : ∀ g : Grow W2, g.w.cell? ⟨w.heap.size, 5, none⟩ = some (.bool p.opn) := fun g => Grow.cell HT2.out.2.1 g 5
            have ga0 : ∀ g : Grow W2, g.w.cell? ⟨w.heap.size + 1 + 1, 0, none⟩ = some (.int .i64 3) := fun g => Grow.cell HT2.out.2.2.2.1 g 0
            have ga1 : ∀ g : Grow W2, g.w.cell? ⟨w.heap.size + 1 + 1, 1, none⟩ = some (.int .i64 now) := fun g => Grow.cell HT2.out.2.2.2.1 g 1
            have ga2 : ∀ g : Grow W2, g.w.cell? ⟨w.heap.size + 1 + 1, 2, none⟩ = some (.int .i64 cost) := fun g => Grow.cell HT2.out.2.2.2.1 g 2
            have gb0 : ∀ g : Grow W2, g.w.cell? ⟨b, 0, none⟩ = some (.int .i64 a.tm) := fun g => Grow.cell HT2.out.2.2.2.2.2.1 g 0
            have gb1 : ∀ g : Grow W2, g.w.cell? ⟨b, 1, none⟩ = some (.int .i64 a.level) := fun g => Grow.cell HT2.out.2.2.2.2.2.1 g 1
            have gb2 : ∀ g : Grow W2, g.w.cell? ⟨b, 2, none⟩ = some (.int .i64 a.held) := fun g => Grow.cell HT2.out.2.2.2.2.2.1 g 2
            have gb3 : ∀ g : Grow W2, g.w.cell? ⟨b, 3, none⟩ = some (.slice none 0 0) := fun g => Grow.cell HT2.out.2.2.2.2.2.1 g 3
            have gd0 : ∀ g : Grow W2, g.w.cell? ⟨wr.heap.size, 0, none⟩ = some (.int .i64 3) := fun g => Grow.cell HD2.out g 0
            have gd1 : ∀ g : Grow W2, g.w.cell? ⟨wr.heap.size, 1, none⟩ = some (.func (.func 41) #[] #[]) := fun g => Grow.cell HD2.out g 1
            have gd2 : ∀ g : Grow W2, g.w.cell? ⟨wr.heap.size, 2, none⟩ = some (.func (.func 42) #[] #[]) := fun g => Grow.cell HD2.out g 2
            refine wp_region_grow (by kernel_rfl) (by kernel_rfl) ?_
            repeat (go_big_quiet_step ((first | (go_at_call 41; exact grow_call (held_calls p a none 0 0 _)) | (go_at_call 26; exact grow_same (within_is HW.out _)))))
            refine wpQuiet_nil ?_
            intro _ hw'
            obtain ⟨gq, hw''⟩ := hw'
            subst hw''
            clear gp0 gp1 gp2 gp3 gp4 gp5 ga0 ga1 ga2 gb0 gb1 gb2 gb3 gd0 gd1 gd2
            have hbq := gq.below
            have HT3 := Lib.hid (HT2.out.keep hbq)
            have HD3 := Lib.hid (HD2.out.keep hbq)
            clear hbq
            generalize gq.w = W3 at HT3 HD3 ⊢
            have hs0 : W3.cell? ⟨w.heap.size + 1, 0, none⟩ = some (.int .i64 s.tm) := HT3.out.2.2.1.cell 0
            have hs1 : W3.cell? ⟨w.heap.size + 1, 1, none⟩ = some (.int .i64 s.level) := HT3.out.2.2.1.cell 1
            have hs2 : W3.cell? ⟨w.heap.size + 1, 2, none⟩ = some (.int .i64 s.held) := HT3.out.2.2.1.cell 2
            have hs3 : W3.cell? ⟨w.heap.size + 1, 3, none⟩ = some (.slice none 0 0) := HT3.out.2.2.1.cell 3
            have ha0 : W3.cell? ⟨w.heap.size + 1 + 1, 0, none⟩ = some (.int .i64 3) := HT3.out.2.2.2.1.cell 0
            have ha1 : W3.cell? ⟨w.heap.size + 1 + 1, 1, none⟩ = some (.int .i64 now) := HT3.out.2.2.2.1.cell 1
            have ha2 : W3.cell? ⟨w.heap.size + 1 + 1, 2, none⟩ = some (.int .i64 cost) := HT3.out.2.2.2.1.cell 2
            have hb0 : W3.cell? ⟨b, 0, none⟩ = some (.int .i64 a.tm) := HT3.out.2.2.2.2.2.1.cell 0
            have hb1 : W3.cell? ⟨b, 1, none⟩ = some (.int .i64 a.level) := HT3.out.2.2.2.2.2.1.cell 1
            have hb2 : W3.cell? ⟨b, 2, none⟩ = some (.int .i64 a.held) := HT3.out.2.2.2.2.2.1.cell 2
            have hb3 : W3.cell? ⟨b, 3, none⟩ = some (.slice none 0 0) := HT3.out.2.2.2.2.2.1.cell 3
            have hd0 : W3.cell? ⟨wr.heap.size, 0, none⟩ = some (.int .i64 3) := HD3.out.cell 0
            have hd1 : W3.cell? ⟨wr.heap.size, 1, none⟩ = some (.func (.func 41) #[] #[]) := HD3.out.cell 1
            have hd2 : W3.cell? ⟨wr.heap.size, 2, none⟩ = some (.func (.func 42) #[] #[]) := HD3.out.cell 2
            go_wp2_with (refine wpList_store_row rfl 32 _ _ rfl (w.heap.size + 1 + 1 + 1) (scells s.tm s.level s.held (.slice none 0 0)) rfl rfl 32 _ HT3.out.2.2.2.2.1 st_size rfl (scells_one _ _ _ _ (slice_one _ _ _)) ?_)
            rw [Exit.noGoto_ret]
            refine ret_st2 Try.results17 rfl rfl rfl (setRow_heap _ _ _ _ _ _ HT3.out.2.2.2.2.1) ?_
            exact HN.out _ HW2.out (below_setRow HT3.out.1 (by omega) _)
        · have t1 : ((3 : Int) != k) = true := by simp; omega
          have HK2 := Lib.hid (show ¬ (1 ≤ k ∧ k ≤ ((3 : Nat) : Int)) from fun h => by have := HK.out; omega)
          clear hk
          go_wp2_with fail
          go_roundg (gk - 1)
          case rel => exact ⟨3, by omega, by have := HG.out; omega, rfl, HK2.out, HT.out.alloc _⟩
          case measure => have := HG.out; omega
      · obtain rfl : j = 3 := by omega
        have hix := ix3
        have zl0 := HP.out.lt
        have zl1 := HS.out.lt
        have zl2 := HA.out.lt
        have zl3 := HB.out.lt
        have zm0 : ¬ (wr.heap.size = w.heap.size) := by omega
        have zm1 : ¬ (wr.heap.size = w.heap.size + 1) := by omega
        have zm2 : ¬ (wr.heap.size = w.heap.size + 1 + 1) := by omega
        have zm3 : ¬ (wr.heap.size = b) := by omega
        by_cases hk : k = 4
        · subst hk
          cases hw : wi cost 1 (a.held) with
          | true =>
            have HW2 := Lib.hid (show wi cost 1 (grt p a 4) = true by rw [grt_commit]; exact hw)
            have hc1 := (wi_yes hw).1
            have hc2 := (wi_yes hw).2
            have HW := Lib.hid hw
            clear hw
            go_wp2_with fail
            have HT2 := Lib.hid (HT.out.alloc (.cells #[.int .i64 4, .func (.func 41) #[] #[], .func (.func 43) #[] #[]] 61))
            have HD2 := Lib.hid (Box.new wr 61 #[.int .i64 4, .func (.func 41) #[] #[], .func (.func 43) #[] #[]])
            have zd : b < wr.heap.size := HB.out.lt
            clear fp0 fp1 fp2 fp3 fp4 fp5 fs0 fs1 fs2 fs3 fa0 fa1 fa2 fb0 fb1 fb2 fb3
            generalize wr.alloc (.cells #[.int .i64 4, .func (.func 41) #[] #[], .func (.func 43) #[] #[]] 61) = W2 at HT2 HD2 ⊢
            have gp0 : ∀ g : Grow W2, g.w.cell? ⟨w.heap.size, 0, none⟩ = some (.int .i64 p.kind) := fun g => Grow.cell HT2.out.2.1 g 0
            have gp1 : ∀ g : Grow W2, g.w.cell? ⟨w.heap.size, 1, none⟩ = some (.int .i64 p.limit) := fun g => Grow.cell HT2.out.2.1 g 1
            have gp2 : ∀ g : Grow W2, g.w.cell? ⟨w.heap.size, 2, none⟩ = some (.int .i64 p.period) := fun g => Grow.cell HT2.out.2.1 g 2
            have gp3 : ∀ g : Grow W2, g.w.cell? ⟨w.heap.size, 3, none⟩ = some (.int .i64 p.burst) := fun g => Grow.cell HT2.out.2.1 g 3
            have gp4 : ∀ g : Grow W2, g.w.cell? ⟨w.heap.size, 4, none⟩ = some (.int .i64 p.cap) := fun g => Grow.cell HT2.out.2.1 g 4
            have gp5 : ∀ g : Grow W2, g.w.cell? ⟨w.heap.size, 5, none⟩ = some (.bool p.opn) := fun g => Grow.cell HT2.out.2.1 g 5
            have ga0 : ∀ g : Grow W2, g.w.cell? ⟨w.heap.size + 1 + 1, 0, none⟩ = some (.int .i64 4) := fun g => Grow.cell HT2.out.2.2.2.1 g 0
            have ga1 : ∀ g : Grow W2, g.w.cell? ⟨w.heap.size + 1 + 1, 1, none⟩ = some (.int .i64 now) := fun g => Grow.cell HT2.out.2.2.2.1 g 1
            have ga2 : ∀ g : Grow W2, g.w.cell? ⟨w.heap.size + 1 + 1, 2, none⟩ = some (.int .i64 cost) := fun g => Grow.cell HT2.out.2.2.2.1 g 2
            have gb0 : ∀ g : Grow W2, g.w.cell? ⟨b, 0, none⟩ = some (.int .i64 a.tm) := fun g => Grow.cell HT2.out.2.2.2.2.2.1 g 0
            have gb1 : ∀ g : Grow W2, g.w.cell? ⟨b, 1, none⟩ = some (.int .i64 a.level) := fun g => Grow.cell HT2.out.2.2.2.2.2.1 g 1
            have gb2 : ∀ g : Grow W2, g.w.cell? ⟨b, 2, none⟩ = some (.int .i64 a.held) := fun g => Grow.cell HT2.out.2.2.2.2.2.1 g 2
            have gb3 : ∀ g : Grow W2, g.w.cell? ⟨b, 3, none⟩ = some (.slice none 0 0) := fun g => Grow.cell HT2.out.2.2.2.2.2.1 g 3
            have gd0 : ∀ g : Grow W2, g.w.cell? ⟨wr.heap.size, 0, none⟩ = some (.int .i64 4) := fun g => Grow.cell HD2.out g 0
            have gd1 : ∀ g : Grow W2, g.w.cell? ⟨wr.heap.size, 1, none⟩ = some (.func (.func 41) #[] #[]) := fun g => Grow.cell HD2.out g 1
            have gd2 : ∀ g : Grow W2, g.w.cell? ⟨wr.heap.size, 2, none⟩ = some (.func (.func 43) #[] #[]) := fun g => Grow.cell HD2.out g 2
            refine wp_region_grow (by kernel_rfl) (by kernel_rfl) ?_
            repeat (go_big_quiet_step ((first | (go_at_call 41; exact grow_call (held_calls p a none 0 0 _)) | (go_at_call 26; exact grow_same (within_is HW.out _)))))
            refine wpQuiet_nil ?_
            intro _ hw'
            obtain ⟨gq, hw''⟩ := hw'
            subst hw''
            clear gp0 gp1 gp2 gp3 gp4 gp5 ga0 ga1 ga2 gb0 gb1 gb2 gb3 gd0 gd1 gd2
            have hbq := gq.below
            have HT3 := Lib.hid (HT2.out.keep hbq)
            have HD3 := Lib.hid (HD2.out.keep hbq)
            clear hbq
            generalize gq.w = W3 at HT3 HD3 ⊢
            have hs0 : W3.cell? ⟨w.heap.size + 1, 0, none⟩ = some (.int .i64 s.tm) := HT3.out.2.2.1.cell 0
            have hs1 : W3.cell? ⟨w.heap.size + 1, 1, none⟩ = some (.int .i64 s.level) := HT3.out.2.2.1.cell 1
            have hs2 : W3.cell? ⟨w.heap.size + 1, 2, none⟩ = some (.int .i64 s.held) := HT3.out.2.2.1.cell 2
            have hs3 : W3.cell? ⟨w.heap.size + 1, 3, none⟩ = some (.slice none 0 0) := HT3.out.2.2.1.cell 3
            have ha0 : W3.cell? ⟨w.heap.size + 1 + 1, 0, none⟩ = some (.int .i64 4) := HT3.out.2.2.2.1.cell 0
            have ha1 : W3.cell? ⟨w.heap.size + 1 + 1, 1, none⟩ = some (.int .i64 now) := HT3.out.2.2.2.1.cell 1
            have ha2 : W3.cell? ⟨w.heap.size + 1 + 1, 2, none⟩ = some (.int .i64 cost) := HT3.out.2.2.2.1.cell 2
            have hb0 : W3.cell? ⟨b, 0, none⟩ = some (.int .i64 a.tm) := HT3.out.2.2.2.2.2.1.cell 0
            have hb1 : W3.cell? ⟨b, 1, none⟩ = some (.int .i64 a.level) := HT3.out.2.2.2.2.2.1.cell 1
            have hb2 : W3.cell? ⟨b, 2, none⟩ = some (.int .i64 a.held) := HT3.out.2.2.2.2.2.1.cell 2
            have hb3 : W3.cell? ⟨b, 3, none⟩ = some (.slice none 0 0) := HT3.out.2.2.2.2.2.1.cell 3
            have hd0 : W3.cell? ⟨wr.heap.size, 0, none⟩ = some (.int .i64 4) := HD3.out.cell 0
            have hd1 : W3.cell? ⟨wr.heap.size, 1, none⟩ = some (.func (.func 41) #[] #[]) := HD3.out.cell 1
            have hd2 : W3.cell? ⟨wr.heap.size, 2, none⟩ = some (.func (.func 43) #[] #[]) := HD3.out.cell 2
            go_wp2_with fail
            refine (deed4_calls a none 0 0 cost _ ⟨HO.out.rl.2.2.1, HO.out.rl.2.2.2.1, HO.out.rl.2.2.2.2.1, HO.out.rl.2.2.2.2.2, by omega, by have := HO.out.rl; omega⟩).mono ?_
            rintro e w4 ⟨rfl, hb4⟩
            have HT4 := Lib.hid (HT3.out.keep hb4)
            clear hb4
            go_wp2_with (refine wpList_store_row rfl 32 _ _ rfl (w.heap.size + 1 + 1 + 1) (scells (dn a 4 cost).tm (dn a 4 cost).level (dn a 4 cost).held (.slice none 0 0)) rfl rfl 32 _ HT4.out.2.2.2.2.1 st_size rfl (scells_one _ _ _ _ (slice_one _ _ _)) ?_)
            rw [Exit.noGoto_ret]
            refine ret_st2 Try.results17 rfl rfl rfl (setRow_heap _ _ _ _ _ _ HT4.out.2.2.2.2.1) ?_
            exact HY.out _ HW2.out (below_setRow HT4.out.1 (by omega) _)
          | false =>
            have HW2 := Lib.hid (show ¬ wi cost 1 (grt p a 4) = true by rw [grt_commit, hw]; simp)
            have HW := Lib.hid hw
            clear hw
            go_wp2_with fail
            have HT2 := Lib.hid (HT.out.alloc (.cells #[.int .i64 4, .func (.func 41) #[] #[], .func (.func 43) #[] #[]] 61))
            have HD2 := Lib.hid (Box.new wr 61 #[.int .i64 4, .func (.func 41) #[] #[], .func (.func 43) #[] #[]])
            have zd : b < wr.heap.size := HB.out.lt
            clear fp0 fp1 fp2 fp3 fp4 fp5 fs0 fs1 fs2 fs3 fa0 fa1 fa2 fb0 fb1 fb2 fb3
            generalize wr.alloc (.cells #[.int .i64 4, .func (.func 41) #[] #[], .func (.func 43) #[] #[]] 61) = W2 at HT2 HD2 ⊢
            have gp0 : ∀ g : Grow W2, g.w.cell? ⟨w.heap.size, 0, none⟩ = some (.int .i64 p.kind) := fun g => Grow.cell HT2.out.2.1 g 0
            have gp1 : ∀ g : Grow W2, g.w.cell? ⟨w.heap.size, 1, none⟩ = some (.int .i64 p.limit) := fun g => Grow.cell HT2.out.2.1 g 1
            have gp2 : ∀ g : Grow W2, g.w.cell? ⟨w.heap.size, 2, none⟩ = some (.int .i64 p.period) := fun g => Grow.cell HT2.out.2.1 g 2
            have gp3 : ∀ g : Grow W2, g.w.cell? ⟨w.heap.size, 3, none⟩ = some (.int .i64 p.burst) := fun g => Grow.cell HT2.out.2.1 g 3
            have gp4 : ∀ g : Grow W2, g.w.cell? ⟨w.heap.size, 4, none⟩ = some (.int .i64 p.cap) := fun g => Grow.cell HT2.out.2.1 g 4
            have gp5 : ∀ g : Grow W2, g.w.cell? ⟨w.heap.size, 5, none⟩ = some (.bool p.opn) := fun g => Grow.cell HT2.out.2.1 g 5
            have ga0 : ∀ g : Grow W2, g.w.cell? ⟨w.heap.size + 1 + 1, 0, none⟩ = some (.int .i64 4) := fun g => Grow.cell HT2.out.2.2.2.1 g 0
            have ga1 : ∀ g : Grow W2, g.w.cell? ⟨w.heap.size + 1 + 1, 1, none⟩ = some (.int .i64 now) := fun g => Grow.cell HT2.out.2.2.2.1 g 1
            have ga2 : ∀ g : Grow W2, g.w.cell? ⟨w.heap.size + 1 + 1, 2, none⟩ = some (.int .i64 cost) := fun g => Grow.cell HT2.out.2.2.2.1 g 2
            have gb0 : ∀ g : Grow W2, g.w.cell? ⟨b, 0, none⟩ = some (.int .i64 a.tm) := fun g => Grow.cell HT2.out.2.2.2.2.2.1 g 0
            have gb1 : ∀ g : Grow W2, g.w.cell? ⟨b, 1, none⟩ = some (.int .i64 a.level) := fun g => Grow.cell HT2.out.2.2.2.2.2.1 g 1
            have gb2 : ∀ g : Grow W2, g.w.cell? ⟨b, 2, none⟩ = some (.int .i64 a.held) := fun g => Grow.cell HT2.out.2.2.2.2.2.1 g 2
            have gb3 : ∀ g : Grow W2, g.w.cell? ⟨b, 3, none⟩ = some (.slice none 0 0) := fun g => Grow.cell HT2.out.2.2.2.2.2.1 g 3
            have gd0 : ∀ g : Grow W2, g.w.cell? ⟨wr.heap.size, 0, none⟩ = some (.int .i64 4) := fun g => Grow.cell HD2.out g 0
            have gd1 : ∀ g : Grow W2, g.w.cell? ⟨wr.heap.size, 1, none⟩ = some (.func (.func 41) #[] #[]) := fun g => Grow.cell HD2.out g 1
            have gd2 : ∀ g : Grow W2, g.w.cell? ⟨wr.heap.size, 2, none⟩ = some (.func (.func 43) #[] #[]) := fun g => Grow.cell HD2.out g 2
            refine wp_region_grow (by kernel_rfl) (by kernel_rfl) ?_
            repeat (go_big_quiet_step ((first | (go_at_call 41; exact grow_call (held_calls p a none 0 0 _)) | (go_at_call 26; exact grow_same (within_is HW.out _)))))
            refine wpQuiet_nil ?_
            intro _ hw'
            obtain ⟨gq, hw''⟩ := hw'
            subst hw''
            clear gp0 gp1 gp2 gp3 gp4 gp5 ga0 ga1 ga2 gb0 gb1 gb2 gb3 gd0 gd1 gd2
            have hbq := gq.below
            have HT3 := Lib.hid (HT2.out.keep hbq)
            have HD3 := Lib.hid (HD2.out.keep hbq)
            clear hbq
            generalize gq.w = W3 at HT3 HD3 ⊢
            have hs0 : W3.cell? ⟨w.heap.size + 1, 0, none⟩ = some (.int .i64 s.tm) := HT3.out.2.2.1.cell 0
            have hs1 : W3.cell? ⟨w.heap.size + 1, 1, none⟩ = some (.int .i64 s.level) := HT3.out.2.2.1.cell 1
            have hs2 : W3.cell? ⟨w.heap.size + 1, 2, none⟩ = some (.int .i64 s.held) := HT3.out.2.2.1.cell 2
            have hs3 : W3.cell? ⟨w.heap.size + 1, 3, none⟩ = some (.slice none 0 0) := HT3.out.2.2.1.cell 3
            have ha0 : W3.cell? ⟨w.heap.size + 1 + 1, 0, none⟩ = some (.int .i64 4) := HT3.out.2.2.2.1.cell 0
            have ha1 : W3.cell? ⟨w.heap.size + 1 + 1, 1, none⟩ = some (.int .i64 now) := HT3.out.2.2.2.1.cell 1
            have ha2 : W3.cell? ⟨w.heap.size + 1 + 1, 2, none⟩ = some (.int .i64 cost) := HT3.out.2.2.2.1.cell 2
            have hb0 : W3.cell? ⟨b, 0, none⟩ = some (.int .i64 a.tm) := HT3.out.2.2.2.2.2.1.cell 0
            have hb1 : W3.cell? ⟨b, 1, none⟩ = some (.int .i64 a.level) := HT3.out.2.2.2.2.2.1.cell 1
            have hb2 : W3.cell? ⟨b, 2, none⟩ = some (.int .i64 a.held) := HT3.out.2.2.2.2.2.1.cell 2
            have hb3 : W3.cell? ⟨b, 3, none⟩ = some (.slice none 0 0) := HT3.out.2.2.2.2.2.1.cell 3
            have hd0 : W3.cell? ⟨wr.heap.size, 0, none⟩ = some (.int .i64 4) := HD3.out.cell 0
            have hd1 : W3.cell? ⟨wr.heap.size, 1, none⟩ = some (.func (.func 41) #[] #[]) := HD3.out.cell 1
            have hd2 : W3.cell? ⟨wr.heap.size, 2, none⟩ = some (.func (.func 43) #[] #[]) := HD3.out.cell 2
            go_wp2_with (refine wpList_store_row rfl 32 _ _ rfl (w.heap.size + 1 + 1 + 1) (scells s.tm s.level s.held (.slice none 0 0)) rfl rfl 32 _ HT3.out.2.2.2.2.1 st_size rfl (scells_one _ _ _ _ (slice_one _ _ _)) ?_)
            rw [Exit.noGoto_ret]
            refine ret_st2 Try.results17 rfl rfl rfl (setRow_heap _ _ _ _ _ _ HT3.out.2.2.2.2.1) ?_
            exact HN.out _ HW2.out (below_setRow HT3.out.1 (by omega) _)
        · have t1 : ((4 : Int) != k) = true := by simp; omega
          have HK2 := Lib.hid (show ¬ (1 ≤ k ∧ k ≤ ((4 : Nat) : Int)) from fun h => by have := HK.out; omega)
          clear hk
          go_wp2_with fail
          go_roundg (gk - 1)
          case rel => exact ⟨4, by omega, by have := HG.out; omega, rfl, HK2.out, HT.out.alloc _⟩
          case measure => have := HG.out; omega
theorem do_calls (p : Pol) (s : St) (A : Option Addr) (cap : Nat) (k now cost : Int) (w : World) :
    Calls Try.prog 17 #[p.val, s.val A s.log.length cap, .agg (acells k now cost)] w fun e w' => e = .returned (.tuple #[(act p s k now cost).1.val none 0 0, .bool (act p s k now cost).2]) ∧ Below w.heap.size w w' := by
  cases h0 : right p s with
  | false =>
    rw [show act p s k now cost = (zero, false) by simp [act, h0]]
    exact do_zero p s A cap k now cost w h0
  | true =>
    refine do_right p s A cap k now cost w _ h0 rfl _ (fun w' hw hb => ?_) (fun w' hw hb => ?_)
    · rw [act_yes (right_ok h0) hw]; exact ⟨rfl, hb⟩
    · rw [act_no (right_ok h0) hw]; exact ⟨rfl, hb⟩
end Wn
end Go.Proofs.Ytikfjdpkjifcdaa
