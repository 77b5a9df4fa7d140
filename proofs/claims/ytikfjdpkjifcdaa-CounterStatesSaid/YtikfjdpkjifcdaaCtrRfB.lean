/-
  What the document's own Advance, Room, Until, Retry answer, in any world.
-/
import Derived.Test.YtikfjdpkjifcdaaCtrRfA
namespace Go.Proofs.Ytikfjdpkjifcdaa
open Go.RowKit
namespace Wn

set_option maxHeartbeats 16000000 in
theorem radvance_zero (p : Pol) (s : St) (A : Option Addr) (cap : Nat) (now : Int) (w : World) (h0 : right p s = false) :
    Calls Try.prog 30 #[p.val, s.val A s.log.length cap, .int .i64 now] w fun e w' => e = .returned (zero.val none 0 0) ∧ Below w.heap.size w w' := by
  have HB3 := Lib.hid (below_three w p.box (s.box A s.log.length cap) (.cells (scells 0 0 0 (.slice none 0 0)) 32))
  unfold Pol.val St.val
  have H0 := Lib.hid h0
  clear h0
  go_enter Try.func30, Try.ntmps30
  go_wp2_with fail
  refine (rright_no H0.out A cap _).mono ?_
  rintro e w1 ⟨rfl, hb1⟩
  have hg : w1.heap[w.heap.size + 1 + 1]? = some (.cells (scells 0 0 0 (.slice none 0 0)) 32 (0, 0)) := by rw [hb1.block _ (by simp)]; exact heap_alloc3_new _ _ _ _
  have HB1 := Lib.hid hb1
  clear hb1
  go_wp2_with (refine wpList_store_row rfl 32 _ _ rfl (w.heap.size + 1 + 1) (scells 0 0 0 (.slice none 0 0)) rfl rfl 32 _ hg st_size rfl (scells_one _ _ _ _ (slice_one _ _ _)) ?_)
  refine ret_st Try.results30 rfl rfl (setRow_heap _ _ _ _ _ _ hg) ⟨rfl, ?_⟩
  exact below_setRow (HB3.out.trans (HB1.out.mono (by simp; omega))) (by omega) _
set_option maxHeartbeats 16000000 in
theorem radvance_right (p : Pol) (s : St) (A : Option Addr) (cap : Nat) (now : Int) (w : World) (h0 : right p s = true) :
    Calls Try.prog 30 #[p.val, s.val A s.log.length cap, .int .i64 now] w fun e w' => e = .returned ((adv p s now).val A 0 cap) ∧ Below w.heap.size w w' := by
  have HB3 := Lib.hid (below_three w p.box (s.box A s.log.length cap) (.cells (scells 0 0 0 (.slice none 0 0)) 32))
  have BP0 := Lib.hid (Box.alloc (Box.alloc (Box.new w 23 (pcells p)) (s.box A s.log.length cap)) (.cells (scells 0 0 0 (.slice none 0 0)) 32))
  have BS0 := Lib.hid (Box.alloc (Box.new1 w 32 (scells s.tm s.level s.held (.slice A s.log.length cap)) p.box) (.cells (scells 0 0 0 (.slice none 0 0)) 32))
  have H0 := Lib.hid h0
  have HO := Lib.hid (right_ok h0)
  have E := Lib.hid (adv_eq (right_ok h0) now)
  obtain ⟨T, hT⟩ : ∃ T, advTm s now = T := ⟨_, rfl⟩
  have hT0 := (HO.out.advTm now).1
  have hT1 := (HO.out.advTm now).2
  have hT2 := advTm_ge s now
  rw [hT] at hT0 hT1 hT2
  have hmx : (if s.tm < clamp now then clamp now else s.tm) = T := by rw [← hT]; unfold advTm; split <;> omega
  have HT := Lib.hid hT
  have EL := Lib.hid (show s.log.length = 0 by rw [(right_ok h0).log]; rfl)
  obtain ⟨b, hb⟩ : ∃ b, bg p T = b := ⟨_, rfl⟩
  have HBG := Lib.hid hb
  have hgt := bg_gt (p := p) (right_ok h0).per.1 hT2
  rw [hb] at hgt
  have HGT := Lib.hid hgt
  clear h0 hT hb hgt
  unfold Pol.val St.val
  go_enter Try.func30, Try.ntmps30
  go_wp2_with fail
  refine (rright_yes H0.out A cap _).mono ?_
  rintro e w1 ⟨rfl, hb1⟩
  have BP1 := Lib.hid (BP0.out.keep hb1)
  have BS1 := Lib.hid (BS0.out.keep hb1)
  have BZ1 := Lib.hid (show Box w1 (w.heap.size + 1 + 1) 32 (scells 0 0 0 (.slice none 0 0)) by unfold Box; rw [hb1.block _ (by simp)]; exact heap_alloc3_new _ _ _ _)
  have HB1 := Lib.hid (HB3.out.trans (hb1.mono (by simp; omega)))
  clear hb1
  have d0 : w1.cell? ⟨w.heap.size + 1, 0, none⟩ = some (.int .i64 s.tm) := BS1.out.cell 0
  have d1 : w1.cell? ⟨w.heap.size + 1, 1, none⟩ = some (.int .i64 s.level) := BS1.out.cell 1
  have d2 : w1.cell? ⟨w.heap.size + 1, 2, none⟩ = some (.int .i64 s.held) := BS1.out.cell 2
  have d3 : w1.cell? ⟨w.heap.size + 1, 3, none⟩ = some (.slice A s.log.length cap) := BS1.out.cell 3
  go_wp2_with fail
  go_quiet ((go_at_call 28; refine Calls.quiet_of_same ((refclamp_calls now _).mono fun _ _ h => ⟨h.1, h.2.symm⟩)))
  clear d0 d1 d2 d3
  have BP2 := Lib.hid (BP1.out.drewN nq)
  have BS2 := Lib.hid (BS1.out.drewN nq)
  have BZ2 := Lib.hid (BZ1.out.drewN nq)
  have HB2 := Lib.hid (below_drewN HB1.out nq)
  generalize w1.drewN nq = W2 at BP2 BS2 BZ2 HB2 ⊢
  have gp0 : ∀ g : Grow W2, g.w.cell? ⟨w.heap.size, 0, none⟩ = some (.int .i64 p.kind) := fun g => Grow.cell BP2.out g 0
  have gp1 : ∀ g : Grow W2, g.w.cell? ⟨w.heap.size, 1, none⟩ = some (.int .i64 p.limit) := fun g => Grow.cell BP2.out g 1
  have gp2 : ∀ g : Grow W2, g.w.cell? ⟨w.heap.size, 2, none⟩ = some (.int .i64 p.period) := fun g => Grow.cell BP2.out g 2
  have gp3 : ∀ g : Grow W2, g.w.cell? ⟨w.heap.size, 3, none⟩ = some (.int .i64 p.burst) := fun g => Grow.cell BP2.out g 3
  have gp4 : ∀ g : Grow W2, g.w.cell? ⟨w.heap.size, 4, none⟩ = some (.int .i64 p.cap) := fun g => Grow.cell BP2.out g 4
  have gp5 : ∀ g : Grow W2, g.w.cell? ⟨w.heap.size, 5, none⟩ = some (.bool p.opn) := fun g => Grow.cell BP2.out g 5
  have gs0 : ∀ g : Grow W2, g.w.cell? ⟨w.heap.size + 1, 0, none⟩ = some (.int .i64 s.tm) := fun g => Grow.cell BS2.out g 0
  have gs1 : ∀ g : Grow W2, g.w.cell? ⟨w.heap.size + 1, 1, none⟩ = some (.int .i64 s.level) := fun g => Grow.cell BS2.out g 1
  have gs2 : ∀ g : Grow W2, g.w.cell? ⟨w.heap.size + 1, 2, none⟩ = some (.int .i64 s.held) := fun g => Grow.cell BS2.out g 2
  have gs3 : ∀ g : Grow W2, g.w.cell? ⟨w.heap.size + 1, 3, none⟩ = some (.slice A s.log.length cap) := fun g => Grow.cell BS2.out g 3
  go_wp2_with fail
  refine wp_region_grow (by kernel_rfl) (by kernel_rfl) ?_
  repeat (go_big_quiet_step ((go_at_call 38; exact grow_call (by have := begin_calls p T (h1 := HO.out.per) (h3 := ⟨hT0, hT1⟩); rw [HBG.out] at this; exact this _))))
  refine wpQuiet_nil ?_
  intro _ hw'
  obtain ⟨gq, hw''⟩ := hw'
  subst hw''
  clear gp0 gp1 gp2 gp3 gp4 gp5 gs0 gs1 gs2 gs3
  have hbq := gq.below
  have BS5 := Lib.hid (BS2.out.keep hbq)
  have BZ5 := Lib.hid (BZ2.out.keep hbq)
  have HB5 := Lib.hid (HB2.out.trans (hbq.mono HB2.out.size))
  clear hbq
  generalize gq.w = W5 at BS5 BZ5 HB5 ⊢
  have ks0 : W5.cell? ⟨w.heap.size + 1, 0, none⟩ = some (.int .i64 s.tm) := BS5.out.cell 0
  have ks1 : W5.cell? ⟨w.heap.size + 1, 1, none⟩ = some (.int .i64 s.level) := BS5.out.cell 1
  have ks2 : W5.cell? ⟨w.heap.size + 1, 2, none⟩ = some (.int .i64 s.held) := BS5.out.cell 2
  have ks3 : W5.cell? ⟨w.heap.size + 1, 3, none⟩ = some (.slice A s.log.length cap) := BS5.out.cell 3
  have kf0 := BS5.out.free 0
  have kf1 := BS5.out.free 1
  have kf2 := BS5.out.free 2
  have kf3 := BS5.out.free 3
  have zn : ¬ (w.heap.size + 1 + 1 = w.heap.size + 1) := by omega
  by_cases hqq : s.tm < b
  · have HQQ := Lib.hid (HGT.out.1 hqq)
    go_wp2_with (refine wpList_store_row rfl 32 _ _ rfl (w.heap.size + 1 + 1) (scells T 0 s.held (.slice A s.log.length cap)) rfl rfl 32 _ ((BZ5.out.far1 (show w.heap.size + 1 + 1 ≠ w.heap.size + 1 by omega) 1 _).far1 (show w.heap.size + 1 + 1 ≠ w.heap.size + 1 by omega) 0 _) st_size rfl (scells_one _ _ _ _ (slice_one _ _ _)) ?_)
    refine ret_st Try.results30 rfl rfl (setRow_heap _ _ _ _ _ _ ((BZ5.out.far1 (show w.heap.size + 1 + 1 ≠ w.heap.size + 1 by omega) 1 _).far1 (show w.heap.size + 1 + 1 ≠ w.heap.size + 1 by omega) 0 _)) ⟨?_, below_setRow (Below.setCell (Below.setCell HB5.out (show w.heap.size ≤ w.heap.size + 1 by omega) _) (show w.heap.size ≤ w.heap.size + 1 by omega) _) (by omega) _⟩
    rw [E.out, adv0, HT.out, if_neg HQQ.out, EL.out]
  · have HQQ := Lib.hid (show tim p T = tim p s.tm from Decidable.byContradiction fun h => hqq (HGT.out.2 h))
    have qb : decide (s.tm < b) = false := by simpa using hqq
    go_wp2_with (refine wpList_store_row rfl 32 _ _ rfl (w.heap.size + 1 + 1) (scells T s.level s.held (.slice A s.log.length cap)) rfl rfl 32 _ (BZ5.out.far1 (show w.heap.size + 1 + 1 ≠ w.heap.size + 1 by omega) 0 _) st_size rfl (scells_one _ _ _ _ (slice_one _ _ _)) ?_)
    refine ret_st Try.results30 rfl rfl (setRow_heap _ _ _ _ _ _ (BZ5.out.far1 (show w.heap.size + 1 + 1 ≠ w.heap.size + 1 by omega) 0 _)) ⟨?_, below_setRow (Below.setCell HB5.out (show w.heap.size ≤ w.heap.size + 1 by omega) _) (by omega) _⟩
    rw [E.out, adv0, HT.out, if_pos HQQ.out, EL.out]
theorem radvance_is {p : Pol} {s t : St} {now : Int} (h0 : right p s = true) (he : adv p s now = t) (A : Option Addr) (cap : Nat) (w : World) :
    Calls Try.prog 30 #[p.val, s.val A s.log.length cap, .int .i64 now] w fun e w' => e = .returned (t.val A 0 cap) ∧ Below w.heap.size w w' := by
  have := radvance_right p s A cap now w h0; rw [he] at this; exact this
set_option maxHeartbeats 8000000 in
theorem rroom_calls (p : Pol) (s : St) (A : Option Addr) (cap : Nat) (now : Int) (w : World) :
    Calls Try.prog 32 #[p.val, s.val A s.log.length cap, .int .i64 now] w fun e w' => e = .returned (.int .i64 (roomAt p s now)) ∧ Below w.heap.size w w' := by
  have HB0 := Lib.hid (below_two w p.box (s.box A s.log.length cap))
  have BP0 := Lib.hid (Box.alloc (Box.new w 23 (pcells p)) (s.box A s.log.length cap))
  have BS0 := Lib.hid (Box.new1 w 32 (scells s.tm s.level s.held (.slice A s.log.length cap)) p.box)
  unfold Pol.val St.val
  cases h0 : right p s with
  | false =>
    have E := Lib.hid (show roomAt p s now = 0 by simp [roomAt, h0])
    have H0 := Lib.hid h0
    clear h0
    go_enter Try.func32, Try.ntmps32
    go_wp2_with fail
    refine (rright_no H0.out A cap _).mono ?_
    rintro e w1 ⟨rfl, hb1⟩
    have HB1 := Lib.hid hb1
    clear hb1
    go_wp2_with fail
    go_ret
    exact ⟨by rw [E.out]; rfl, HB0.out.trans (HB1.out.mono (by simp; omega))⟩
  | true =>
    obtain ⟨a, ha⟩ : ∃ a, adv p s now = a := ⟨_, rfl⟩
    have HOA := Lib.hid (show Ok p a by rw [← ha]; exact (right_ok h0).adv now)
    have HA := Lib.hid ha
    have l1 := HOA.out.rl
    have l2 := HOA.out.tm0
    have l3 := HOA.out.tm1
    have HAH := Lib.hid (show a.held = s.held by rw [← ha]; exact adv_held (right_ok h0) now)
    have E := Lib.hid (show roomAt p s now = p.limit - a.held - a.level by rw [← ha]; simp [roomAt, room, h0])
    have H0 := Lib.hid h0
    clear h0 ha
    go_enter Try.func32, Try.ntmps32
    go_wp2_with fail
    refine (rright_yes H0.out A cap _).mono ?_
    rintro e w1 ⟨rfl, hb1⟩
    have BP1 := Lib.hid (BP0.out.keep hb1)
    have BS1 := Lib.hid (BS0.out.keep hb1)
    have HB1 := Lib.hid (HB0.out.trans (hb1.mono (by simp; omega)))
    clear hb1
    have ep0 : w1.cell? ⟨w.heap.size, 0, none⟩ = some (.int .i64 p.kind) := BP1.out.cell 0
    have ep1 : w1.cell? ⟨w.heap.size, 1, none⟩ = some (.int .i64 p.limit) := BP1.out.cell 1
    have ep2 : w1.cell? ⟨w.heap.size, 2, none⟩ = some (.int .i64 p.period) := BP1.out.cell 2
    have ep3 : w1.cell? ⟨w.heap.size, 3, none⟩ = some (.int .i64 p.burst) := BP1.out.cell 3
    have ep4 : w1.cell? ⟨w.heap.size, 4, none⟩ = some (.int .i64 p.cap) := BP1.out.cell 4
    have ep5 : w1.cell? ⟨w.heap.size, 5, none⟩ = some (.bool p.opn) := BP1.out.cell 5
    have es0 : w1.cell? ⟨w.heap.size + 1, 0, none⟩ = some (.int .i64 s.tm) := BS1.out.cell 0
    have es1 : w1.cell? ⟨w.heap.size + 1, 1, none⟩ = some (.int .i64 s.level) := BS1.out.cell 1
    have es2 : w1.cell? ⟨w.heap.size + 1, 2, none⟩ = some (.int .i64 s.held) := BS1.out.cell 2
    have es3 : w1.cell? ⟨w.heap.size + 1, 3, none⟩ = some (.slice A s.log.length cap) := BS1.out.cell 3
    go_wp2_with fail
    refine (radvance_is H0.out HA.out A cap _).mono ?_
    rintro e w2 ⟨rfl, hb2⟩
    have BP2 := Lib.hid ((BP1.out.keep hb2).alloc (.cells (scells a.tm a.level a.held (.slice A 0 cap)) 32))
    have BT2 := Lib.hid (Box.new w2 32 (scells a.tm a.level a.held (.slice A 0 cap)))
    have hB2 := HB1.out.trans (hb2.mono HB1.out.size)
    have HB2 := Lib.hid (hB2.alloc hB2.size (.cells (scells a.tm a.level a.held (.slice A 0 cap)) 32))
    obtain ⟨b, hb⟩ : ∃ b, w2.heap.size = b := ⟨_, rfl⟩
    have fp0 : w2.cell? ⟨w.heap.size, 0, none⟩ = some (.int .i64 p.kind) := (BP1.out.keep hb2).cell 0
    have fp1 : w2.cell? ⟨w.heap.size, 1, none⟩ = some (.int .i64 p.limit) := (BP1.out.keep hb2).cell 1
    have fp2 : w2.cell? ⟨w.heap.size, 2, none⟩ = some (.int .i64 p.period) := (BP1.out.keep hb2).cell 2
    have fp3 : w2.cell? ⟨w.heap.size, 3, none⟩ = some (.int .i64 p.burst) := (BP1.out.keep hb2).cell 3
    have fp4 : w2.cell? ⟨w.heap.size, 4, none⟩ = some (.int .i64 p.cap) := (BP1.out.keep hb2).cell 4
    have fp5 : w2.cell? ⟨w.heap.size, 5, none⟩ = some (.bool p.opn) := (BP1.out.keep hb2).cell 5
    have zp := (BP1.out.keep hb2).lt
    have zn : ¬ (b = w.heap.size) := by rw [← hb]; omega
    have zn2 : ¬ (w.heap.size = b) := by rw [← hb]; omega
    have zn3 : w.heap.size < b := by rw [← hb]; omega
    clear hb2 hB2 ep0 ep1 ep2 ep3 ep4 ep5 es0 es1 es2 es3
    go_wp2_with fail
    go_ret
    exact ⟨by rw [E.out]; rfl, HB2.out⟩
set_option maxHeartbeats 8000000 in
theorem runtil_calls (p : Pol) (s : St) (A : Option Addr) (cap : Nat) (now : Int) (w : World) :
    Calls Try.prog 33 #[p.val, s.val A s.log.length cap, .int .i64 now] w fun e w' => e = .returned (.int .i64 (untilAt p s now)) ∧ Below w.heap.size w w' := by
  have HB0 := Lib.hid (below_two w p.box (s.box A s.log.length cap))
  have BP0 := Lib.hid (Box.alloc (Box.new w 23 (pcells p)) (s.box A s.log.length cap))
  have BS0 := Lib.hid (Box.new1 w 32 (scells s.tm s.level s.held (.slice A s.log.length cap)) p.box)
  unfold Pol.val St.val
  cases h0 : right p s with
  | false =>
    have E := Lib.hid (show untilAt p s now = -1 by simp [untilAt, h0])
    have H0 := Lib.hid h0
    clear h0
    go_enter Try.func33, Try.ntmps33
    go_wp2_with fail
    refine (rright_no H0.out A cap _).mono ?_
    rintro e w1 ⟨rfl, hb1⟩
    have HB1 := Lib.hid hb1
    clear hb1
    go_wp2_with fail
    go_ret
    exact ⟨by rw [E.out]; rfl, HB0.out.trans (HB1.out.mono (by simp; omega))⟩
  | true =>
    obtain ⟨a, ha⟩ : ∃ a, adv p s now = a := ⟨_, rfl⟩
    have HOA := Lib.hid (show Ok p a by rw [← ha]; exact (right_ok h0).adv now)
    have HA := Lib.hid ha
    have l1 := HOA.out.rl
    have l2 := HOA.out.tm0
    have l3 := HOA.out.tm1
    have HAH := Lib.hid (show a.held = s.held by rw [← ha]; exact adv_held (right_ok h0) now)
    by_cases hh : s.held > 0
    · have E := Lib.hid (show untilAt p s now = -1 by simp [untilAt, h0, hh])
      have H0 := Lib.hid h0
      clear h0 ha
      go_enter Try.func33, Try.ntmps33
      go_wp2_with fail
      refine (rright_yes H0.out A cap _).mono ?_
      rintro e w1 ⟨rfl, hb1⟩
      have BP1 := Lib.hid (BP0.out.keep hb1)
      have BS1 := Lib.hid (BS0.out.keep hb1)
      have HB1 := Lib.hid (HB0.out.trans (hb1.mono (by simp; omega)))
      clear hb1
      have ep0 : w1.cell? ⟨w.heap.size, 0, none⟩ = some (.int .i64 p.kind) := BP1.out.cell 0
      have ep1 : w1.cell? ⟨w.heap.size, 1, none⟩ = some (.int .i64 p.limit) := BP1.out.cell 1
      have ep2 : w1.cell? ⟨w.heap.size, 2, none⟩ = some (.int .i64 p.period) := BP1.out.cell 2
      have ep3 : w1.cell? ⟨w.heap.size, 3, none⟩ = some (.int .i64 p.burst) := BP1.out.cell 3
      have ep4 : w1.cell? ⟨w.heap.size, 4, none⟩ = some (.int .i64 p.cap) := BP1.out.cell 4
      have ep5 : w1.cell? ⟨w.heap.size, 5, none⟩ = some (.bool p.opn) := BP1.out.cell 5
      have es0 : w1.cell? ⟨w.heap.size + 1, 0, none⟩ = some (.int .i64 s.tm) := BS1.out.cell 0
      have es1 : w1.cell? ⟨w.heap.size + 1, 1, none⟩ = some (.int .i64 s.level) := BS1.out.cell 1
      have es2 : w1.cell? ⟨w.heap.size + 1, 2, none⟩ = some (.int .i64 s.held) := BS1.out.cell 2
      have es3 : w1.cell? ⟨w.heap.size + 1, 3, none⟩ = some (.slice A s.log.length cap) := BS1.out.cell 3
      go_wp2_with fail
      go_ret
      exact ⟨by rw [E.out]; rfl, HB1.out⟩
    · have EW : untilAt p s now = wt p a p.limit := by rw [← ha]; simp [untilAt, waitAt, h0]; intro h; omega
      have hs0 := (right_ok h0).held0
      have H0 := Lib.hid h0
      clear h0 ha
      by_cases hl : a.level = 0
      · have hl2 : (a.level == 0) = true := by simpa using hl
        have E := Lib.hid (show untilAt p s now = 0 by rw [EW]; unfold wt room; rw [if_pos (by have := HAH.out; omega)])
        clear EW hl
        go_enter Try.func33, Try.ntmps33
        go_wp2_with fail
        refine (rright_yes H0.out A cap _).mono ?_
        rintro e w1 ⟨rfl, hb1⟩
        have BP1 := Lib.hid (BP0.out.keep hb1)
        have BS1 := Lib.hid (BS0.out.keep hb1)
        have HB1 := Lib.hid (HB0.out.trans (hb1.mono (by simp; omega)))
        clear hb1
        have ep0 : w1.cell? ⟨w.heap.size, 0, none⟩ = some (.int .i64 p.kind) := BP1.out.cell 0
        have ep1 : w1.cell? ⟨w.heap.size, 1, none⟩ = some (.int .i64 p.limit) := BP1.out.cell 1
        have ep2 : w1.cell? ⟨w.heap.size, 2, none⟩ = some (.int .i64 p.period) := BP1.out.cell 2
        have ep3 : w1.cell? ⟨w.heap.size, 3, none⟩ = some (.int .i64 p.burst) := BP1.out.cell 3
        have ep4 : w1.cell? ⟨w.heap.size, 4, none⟩ = some (.int .i64 p.cap) := BP1.out.cell 4
        have ep5 : w1.cell? ⟨w.heap.size, 5, none⟩ = some (.bool p.opn) := BP1.out.cell 5
        have es0 : w1.cell? ⟨w.heap.size + 1, 0, none⟩ = some (.int .i64 s.tm) := BS1.out.cell 0
        have es1 : w1.cell? ⟨w.heap.size + 1, 1, none⟩ = some (.int .i64 s.level) := BS1.out.cell 1
        have es2 : w1.cell? ⟨w.heap.size + 1, 2, none⟩ = some (.int .i64 s.held) := BS1.out.cell 2
        have es3 : w1.cell? ⟨w.heap.size + 1, 3, none⟩ = some (.slice A s.log.length cap) := BS1.out.cell 3
        go_wp2_with fail
        refine (radvance_is H0.out HA.out A cap _).mono ?_
        rintro e w2 ⟨rfl, hb2⟩
        have BP2 := Lib.hid ((BP1.out.keep hb2).alloc (.cells (scells a.tm a.level a.held (.slice A 0 cap)) 32))
        have BT2 := Lib.hid (Box.new w2 32 (scells a.tm a.level a.held (.slice A 0 cap)))
        have hB2 := HB1.out.trans (hb2.mono HB1.out.size)
        have HB2 := Lib.hid (hB2.alloc hB2.size (.cells (scells a.tm a.level a.held (.slice A 0 cap)) 32))
        obtain ⟨b, hb⟩ : ∃ b, w2.heap.size = b := ⟨_, rfl⟩
        have fp0 : w2.cell? ⟨w.heap.size, 0, none⟩ = some (.int .i64 p.kind) := (BP1.out.keep hb2).cell 0
        have fp1 : w2.cell? ⟨w.heap.size, 1, none⟩ = some (.int .i64 p.limit) := (BP1.out.keep hb2).cell 1
        have fp2 : w2.cell? ⟨w.heap.size, 2, none⟩ = some (.int .i64 p.period) := (BP1.out.keep hb2).cell 2
        have fp3 : w2.cell? ⟨w.heap.size, 3, none⟩ = some (.int .i64 p.burst) := (BP1.out.keep hb2).cell 3
        have fp4 : w2.cell? ⟨w.heap.size, 4, none⟩ = some (.int .i64 p.cap) := (BP1.out.keep hb2).cell 4
        have fp5 : w2.cell? ⟨w.heap.size, 5, none⟩ = some (.bool p.opn) := (BP1.out.keep hb2).cell 5
        have zp := (BP1.out.keep hb2).lt
        have zn : ¬ (b = w.heap.size) := by rw [← hb]; omega
        have zn2 : ¬ (w.heap.size = b) := by rw [← hb]; omega
        have zn3 : w.heap.size < b := by rw [← hb]; omega
        clear hb2 hB2 ep0 ep1 ep2 ep3 ep4 ep5 es0 es1 es2 es3
        go_wp2_with fail
        go_ret
        exact ⟨by rw [E.out]; rfl, HB2.out⟩
      · have hl2 : (a.level == 0) = false := by simpa using hl
        obtain ⟨g, hg⟩ : ∃ g, bg p a.tm = g := ⟨_, rfl⟩
        have hgb := bg_bounds (p := p) (t := a.tm) HOA.out.per.1 l2
        rw [hg] at hgb
        have HG := Lib.hid hg
        have hp := HOA.out.per
        clear hg
        have E := Lib.hid (show untilAt p s now = g + p.period - a.tm by rw [EW, ← HG.out]; unfold wt room; rw [if_neg (by have := HAH.out; omega), tim_next]; rfl)
        clear EW hl
        go_enter Try.func33, Try.ntmps33
        go_wp2_with fail
        refine (rright_yes H0.out A cap _).mono ?_
        rintro e w1 ⟨rfl, hb1⟩
        have BP1 := Lib.hid (BP0.out.keep hb1)
        have BS1 := Lib.hid (BS0.out.keep hb1)
        have HB1 := Lib.hid (HB0.out.trans (hb1.mono (by simp; omega)))
        clear hb1
        have ep0 : w1.cell? ⟨w.heap.size, 0, none⟩ = some (.int .i64 p.kind) := BP1.out.cell 0
        have ep1 : w1.cell? ⟨w.heap.size, 1, none⟩ = some (.int .i64 p.limit) := BP1.out.cell 1
        have ep2 : w1.cell? ⟨w.heap.size, 2, none⟩ = some (.int .i64 p.period) := BP1.out.cell 2
        have ep3 : w1.cell? ⟨w.heap.size, 3, none⟩ = some (.int .i64 p.burst) := BP1.out.cell 3
        have ep4 : w1.cell? ⟨w.heap.size, 4, none⟩ = some (.int .i64 p.cap) := BP1.out.cell 4
        have ep5 : w1.cell? ⟨w.heap.size, 5, none⟩ = some (.bool p.opn) := BP1.out.cell 5
        have es0 : w1.cell? ⟨w.heap.size + 1, 0, none⟩ = some (.int .i64 s.tm) := BS1.out.cell 0
        have es1 : w1.cell? ⟨w.heap.size + 1, 1, none⟩ = some (.int .i64 s.level) := BS1.out.cell 1
        have es2 : w1.cell? ⟨w.heap.size + 1, 2, none⟩ = some (.int .i64 s.held) := BS1.out.cell 2
        have es3 : w1.cell? ⟨w.heap.size + 1, 3, none⟩ = some (.slice A s.log.length cap) := BS1.out.cell 3
        go_wp2_with fail
        refine (radvance_is H0.out HA.out A cap _).mono ?_
        rintro e w2 ⟨rfl, hb2⟩
        have BP2 := Lib.hid ((BP1.out.keep hb2).alloc (.cells (scells a.tm a.level a.held (.slice A 0 cap)) 32))
        have BT2 := Lib.hid (Box.new w2 32 (scells a.tm a.level a.held (.slice A 0 cap)))
        have hB2 := HB1.out.trans (hb2.mono HB1.out.size)
        have HB2 := Lib.hid (hB2.alloc hB2.size (.cells (scells a.tm a.level a.held (.slice A 0 cap)) 32))
        obtain ⟨b, hb⟩ : ∃ b, w2.heap.size = b := ⟨_, rfl⟩
        have fp0 : w2.cell? ⟨w.heap.size, 0, none⟩ = some (.int .i64 p.kind) := (BP1.out.keep hb2).cell 0
        have fp1 : w2.cell? ⟨w.heap.size, 1, none⟩ = some (.int .i64 p.limit) := (BP1.out.keep hb2).cell 1
        have fp2 : w2.cell? ⟨w.heap.size, 2, none⟩ = some (.int .i64 p.period) := (BP1.out.keep hb2).cell 2
        have fp3 : w2.cell? ⟨w.heap.size, 3, none⟩ = some (.int .i64 p.burst) := (BP1.out.keep hb2).cell 3
        have fp4 : w2.cell? ⟨w.heap.size, 4, none⟩ = some (.int .i64 p.cap) := (BP1.out.keep hb2).cell 4
        have fp5 : w2.cell? ⟨w.heap.size, 5, none⟩ = some (.bool p.opn) := (BP1.out.keep hb2).cell 5
        have zp := (BP1.out.keep hb2).lt
        have zn : ¬ (b = w.heap.size) := by rw [← hb]; omega
        have zn2 : ¬ (w.heap.size = b) := by rw [← hb]; omega
        have zn3 : w.heap.size < b := by rw [← hb]; omega
        clear hb2 hB2 ep0 ep1 ep2 ep3 ep4 ep5 es0 es1 es2 es3
        go_wp2_with fail
        rw [hb] at BT2
        clear fp0 fp1 fp2 fp3 fp4 fp5
        generalize w2.alloc (.cells (scells a.tm a.level a.held (.slice A 0 cap)) 32) = W2 at BP2 BT2 HB2 ⊢
        have gp0 : ∀ g : Grow W2, g.w.cell? ⟨w.heap.size, 0, none⟩ = some (.int .i64 p.kind) := fun g => Grow.cell BP2.out g 0
        have gp1 : ∀ g : Grow W2, g.w.cell? ⟨w.heap.size, 1, none⟩ = some (.int .i64 p.limit) := fun g => Grow.cell BP2.out g 1
        have gp2 : ∀ g : Grow W2, g.w.cell? ⟨w.heap.size, 2, none⟩ = some (.int .i64 p.period) := fun g => Grow.cell BP2.out g 2
        have gp3 : ∀ g : Grow W2, g.w.cell? ⟨w.heap.size, 3, none⟩ = some (.int .i64 p.burst) := fun g => Grow.cell BP2.out g 3
        have gp4 : ∀ g : Grow W2, g.w.cell? ⟨w.heap.size, 4, none⟩ = some (.int .i64 p.cap) := fun g => Grow.cell BP2.out g 4
        have gp5 : ∀ g : Grow W2, g.w.cell? ⟨w.heap.size, 5, none⟩ = some (.bool p.opn) := fun g => Grow.cell BP2.out g 5
        have gt0 : ∀ g : Grow W2, g.w.cell? ⟨b, 0, none⟩ = some (.int .i64 a.tm) := fun g => Grow.cell BT2.out g 0
        have gt1 : ∀ g : Grow W2, g.w.cell? ⟨b, 1, none⟩ = some (.int .i64 a.level) := fun g => Grow.cell BT2.out g 1
        have gt2 : ∀ g : Grow W2, g.w.cell? ⟨b, 2, none⟩ = some (.int .i64 a.held) := fun g => Grow.cell BT2.out g 2
        have gt3 : ∀ g : Grow W2, g.w.cell? ⟨b, 3, none⟩ = some (.slice A 0 cap) := fun g => Grow.cell BT2.out g 3
        refine wp_region_grow (by kernel_rfl) (by kernel_rfl) ?_
        repeat (go_big_quiet_step ((go_at_call 38; exact grow_call (by have := begin_calls p a.tm (h1 := HOA.out.per) (h3 := ⟨HOA.out.tm0, HOA.out.tm1⟩); rw [HG.out] at this; exact this _))))
        refine wpQuiet_nil ?_
        intro _ hw'
        obtain ⟨gq, hw''⟩ := hw'
        subst hw''
        have hbq := gq.below
        go_wp2_with fail
        go_ret
        exact ⟨by rw [E.out]; rfl, HB2.out.trans (hbq.mono HB2.out.size)⟩
set_option maxHeartbeats 8000000 in
theorem rretry_calls (p : Pol) (s : St) (A : Option Addr) (cap : Nat) (now cost : Int) (w : World) :
    Calls Try.prog 29 #[p.val, s.val A s.log.length cap, .int .i64 now, .int .i64 cost] w fun e w' => e = .returned (.tuple #[.int .i64 (retryAt p s now cost).1, .bool (retryAt p s now cost).2]) ∧ Below w.heap.size w w' := by
  have HB0 := Lib.hid (below_two w p.box (s.box A s.log.length cap))
  have BP0 := Lib.hid (Box.alloc (Box.new w 23 (pcells p)) (s.box A s.log.length cap))
  have BS0 := Lib.hid (Box.new1 w 32 (scells s.tm s.level s.held (.slice A s.log.length cap)) p.box)
  unfold Pol.val St.val
  cases h0 : right p s with
  | false =>
    have E := Lib.hid (show retryAt p s now cost = (0, false) by simp [retryAt, h0])
    have H0 := Lib.hid h0
    clear h0
    go_enter Try.func29, Try.ntmps29
    go_wp2_with fail
    refine (rright_no H0.out A cap _).mono ?_
    rintro e w1 ⟨rfl, hb1⟩
    have HB1 := Lib.hid hb1
    clear hb1
    go_wp2_with fail
    go_ret2
    exact ⟨by rw [E.out]; rfl, HB0.out.trans (HB1.out.mono (by simp; omega))⟩
  | true =>
    obtain ⟨a, ha⟩ : ∃ a, adv p s now = a := ⟨_, rfl⟩
    have HOA := Lib.hid (show Ok p a by rw [← ha]; exact (right_ok h0).adv now)
    have HA := Lib.hid ha
    have l1 := HOA.out.rl
    have l2 := HOA.out.tm0
    have l3 := HOA.out.tm1
    have HAH := Lib.hid (show a.held = s.held by rw [← ha]; exact adv_held (right_ok h0) now)
    have l4 := (right_ok h0).rl
    by_cases h1 : cost < 1
    · have E := Lib.hid (show retryAt p s now cost = (0, false) by unfold retryAt; rw [if_pos h0, if_neg (fun h => by have := (wi_yes h).1; omega)])
      have H0 := Lib.hid h0
      clear h0 ha
      go_enter Try.func29, Try.ntmps29
      go_wp2_with fail
      refine (rright_yes H0.out A cap _).mono ?_
      rintro e w1 ⟨rfl, hb1⟩
      have BP1 := Lib.hid (BP0.out.keep hb1)
      have BS1 := Lib.hid (BS0.out.keep hb1)
      have HB1 := Lib.hid (HB0.out.trans (hb1.mono (by simp; omega)))
      clear hb1
      have ep0 : w1.cell? ⟨w.heap.size, 0, none⟩ = some (.int .i64 p.kind) := BP1.out.cell 0
      have ep1 : w1.cell? ⟨w.heap.size, 1, none⟩ = some (.int .i64 p.limit) := BP1.out.cell 1
      have ep2 : w1.cell? ⟨w.heap.size, 2, none⟩ = some (.int .i64 p.period) := BP1.out.cell 2
      have ep3 : w1.cell? ⟨w.heap.size, 3, none⟩ = some (.int .i64 p.burst) := BP1.out.cell 3
      have ep4 : w1.cell? ⟨w.heap.size, 4, none⟩ = some (.int .i64 p.cap) := BP1.out.cell 4
      have ep5 : w1.cell? ⟨w.heap.size, 5, none⟩ = some (.bool p.opn) := BP1.out.cell 5
      have es0 : w1.cell? ⟨w.heap.size + 1, 0, none⟩ = some (.int .i64 s.tm) := BS1.out.cell 0
      have es1 : w1.cell? ⟨w.heap.size + 1, 1, none⟩ = some (.int .i64 s.level) := BS1.out.cell 1
      have es2 : w1.cell? ⟨w.heap.size + 1, 2, none⟩ = some (.int .i64 s.held) := BS1.out.cell 2
      have es3 : w1.cell? ⟨w.heap.size + 1, 3, none⟩ = some (.slice A s.log.length cap) := BS1.out.cell 3
      go_wp2_with fail
      go_ret2
      exact ⟨by rw [E.out]; rfl, HB1.out⟩
    by_cases h2 : p.limit - s.held < cost
    · have E := Lib.hid (show retryAt p s now cost = (0, false) by unfold retryAt; rw [if_pos h0, if_neg (fun h => by have := (wi_yes h).2; omega)])
      have H0 := Lib.hid h0
      clear h0 ha
      go_enter Try.func29, Try.ntmps29
      go_wp2_with fail
      refine (rright_yes H0.out A cap _).mono ?_
      rintro e w1 ⟨rfl, hb1⟩
      have BP1 := Lib.hid (BP0.out.keep hb1)
      have BS1 := Lib.hid (BS0.out.keep hb1)
      have HB1 := Lib.hid (HB0.out.trans (hb1.mono (by simp; omega)))
      clear hb1
      have ep0 : w1.cell? ⟨w.heap.size, 0, none⟩ = some (.int .i64 p.kind) := BP1.out.cell 0
      have ep1 : w1.cell? ⟨w.heap.size, 1, none⟩ = some (.int .i64 p.limit) := BP1.out.cell 1
      have ep2 : w1.cell? ⟨w.heap.size, 2, none⟩ = some (.int .i64 p.period) := BP1.out.cell 2
      have ep3 : w1.cell? ⟨w.heap.size, 3, none⟩ = some (.int .i64 p.burst) := BP1.out.cell 3
      have ep4 : w1.cell? ⟨w.heap.size, 4, none⟩ = some (.int .i64 p.cap) := BP1.out.cell 4
      have ep5 : w1.cell? ⟨w.heap.size, 5, none⟩ = some (.bool p.opn) := BP1.out.cell 5
      have es0 : w1.cell? ⟨w.heap.size + 1, 0, none⟩ = some (.int .i64 s.tm) := BS1.out.cell 0
      have es1 : w1.cell? ⟨w.heap.size + 1, 1, none⟩ = some (.int .i64 s.level) := BS1.out.cell 1
      have es2 : w1.cell? ⟨w.heap.size + 1, 2, none⟩ = some (.int .i64 s.held) := BS1.out.cell 2
      have es3 : w1.cell? ⟨w.heap.size + 1, 3, none⟩ = some (.slice A s.log.length cap) := BS1.out.cell 3
      go_wp2_with fail
      go_ret2
      exact ⟨by rw [E.out]; rfl, HB1.out⟩
    have EW : retryAt p s now cost = (wt p a cost, true) := by unfold retryAt; rw [if_pos h0, if_pos (wi_of (by omega) (by omega)), ← ha]; rfl
    have H0 := Lib.hid h0
    clear h0 ha
    by_cases hr : a.held + a.level + cost ≤ p.limit
    · have E := Lib.hid (show retryAt p s now cost = (0, true) by rw [EW]; unfold wt room; rw [if_pos (by omega)])
      clear EW
      go_enter Try.func29, Try.ntmps29
      go_wp2_with fail
      refine (rright_yes H0.out A cap _).mono ?_
      rintro e w1 ⟨rfl, hb1⟩
      have BP1 := Lib.hid (BP0.out.keep hb1)
      have BS1 := Lib.hid (BS0.out.keep hb1)
      have HB1 := Lib.hid (HB0.out.trans (hb1.mono (by simp; omega)))
      clear hb1
      have ep0 : w1.cell? ⟨w.heap.size, 0, none⟩ = some (.int .i64 p.kind) := BP1.out.cell 0
      have ep1 : w1.cell? ⟨w.heap.size, 1, none⟩ = some (.int .i64 p.limit) := BP1.out.cell 1
      have ep2 : w1.cell? ⟨w.heap.size, 2, none⟩ = some (.int .i64 p.period) := BP1.out.cell 2
      have ep3 : w1.cell? ⟨w.heap.size, 3, none⟩ = some (.int .i64 p.burst) := BP1.out.cell 3
      have ep4 : w1.cell? ⟨w.heap.size, 4, none⟩ = some (.int .i64 p.cap) := BP1.out.cell 4
      have ep5 : w1.cell? ⟨w.heap.size, 5, none⟩ = some (.bool p.opn) := BP1.out.cell 5
      have es0 : w1.cell? ⟨w.heap.size + 1, 0, none⟩ = some (.int .i64 s.tm) := BS1.out.cell 0
      have es1 : w1.cell? ⟨w.heap.size + 1, 1, none⟩ = some (.int .i64 s.level) := BS1.out.cell 1
      have es2 : w1.cell? ⟨w.heap.size + 1, 2, none⟩ = some (.int .i64 s.held) := BS1.out.cell 2
      have es3 : w1.cell? ⟨w.heap.size + 1, 3, none⟩ = some (.slice A s.log.length cap) := BS1.out.cell 3
      go_wp2_with fail
      refine (radvance_is H0.out HA.out A cap _).mono ?_
      rintro e w2 ⟨rfl, hb2⟩
      have BP2 := Lib.hid ((BP1.out.keep hb2).alloc (.cells (scells a.tm a.level a.held (.slice A 0 cap)) 32))
      have BT2 := Lib.hid (Box.new w2 32 (scells a.tm a.level a.held (.slice A 0 cap)))
      have hB2 := HB1.out.trans (hb2.mono HB1.out.size)
      have HB2 := Lib.hid (hB2.alloc hB2.size (.cells (scells a.tm a.level a.held (.slice A 0 cap)) 32))
      obtain ⟨b, hb⟩ : ∃ b, w2.heap.size = b := ⟨_, rfl⟩
      have fp0 : w2.cell? ⟨w.heap.size, 0, none⟩ = some (.int .i64 p.kind) := (BP1.out.keep hb2).cell 0
      have fp1 : w2.cell? ⟨w.heap.size, 1, none⟩ = some (.int .i64 p.limit) := (BP1.out.keep hb2).cell 1
      have fp2 : w2.cell? ⟨w.heap.size, 2, none⟩ = some (.int .i64 p.period) := (BP1.out.keep hb2).cell 2
      have fp3 : w2.cell? ⟨w.heap.size, 3, none⟩ = some (.int .i64 p.burst) := (BP1.out.keep hb2).cell 3
      have fp4 : w2.cell? ⟨w.heap.size, 4, none⟩ = some (.int .i64 p.cap) := (BP1.out.keep hb2).cell 4
      have fp5 : w2.cell? ⟨w.heap.size, 5, none⟩ = some (.bool p.opn) := (BP1.out.keep hb2).cell 5
      have zp := (BP1.out.keep hb2).lt
      have zn : ¬ (b = w.heap.size) := by rw [← hb]; omega
      have zn2 : ¬ (w.heap.size = b) := by rw [← hb]; omega
      have zn3 : w.heap.size < b := by rw [← hb]; omega
      clear hb2 hB2 ep0 ep1 ep2 ep3 ep4 ep5 es0 es1 es2 es3
      go_wp2_with fail
      go_ret2
      exact ⟨by rw [E.out]; rfl, HB2.out⟩
    · have hr2 : decide (a.held + a.level + cost ≤ p.limit) = false := by simpa using hr
      obtain ⟨g, hg⟩ : ∃ g, bg p a.tm = g := ⟨_, rfl⟩
      have hgb := bg_bounds (p := p) (t := a.tm) HOA.out.per.1 l2
      rw [hg] at hgb
      have HG := Lib.hid hg
      have hp := HOA.out.per
      clear hg
      have E := Lib.hid (show retryAt p s now cost = (g + p.period - a.tm, true) by rw [EW, ← HG.out]; unfold wt room; rw [if_neg (by omega), tim_next]; rfl)
      clear EW hr
      go_enter Try.func29, Try.ntmps29
      go_wp2_with fail
      refine (rright_yes H0.out A cap _).mono ?_
      rintro e w1 ⟨rfl, hb1⟩
      have BP1 := Lib.hid (BP0.out.keep hb1)
      have BS1 := Lib.hid (BS0.out.keep hb1)
      have HB1 := Lib.hid (HB0.out.trans (hb1.mono (by simp; omega)))
      clear hb1
      have ep0 : w1.cell? ⟨w.heap.size, 0, none⟩ = some (.int .i64 p.kind) := BP1.out.cell 0
      have ep1 : w1.cell? ⟨w.heap.size, 1, none⟩ = some (.int .i64 p.limit) := BP1.out.cell 1
      have ep2 : w1.cell? ⟨w.heap.size, 2, none⟩ = some (.int .i64 p.period) := BP1.out.cell 2
      have ep3 : w1.cell? ⟨w.heap.size, 3, none⟩ = some (.int .i64 p.burst) := BP1.out.cell 3
      have ep4 : w1.cell? ⟨w.heap.size, 4, none⟩ = some (.int .i64 p.cap) := BP1.out.cell 4
      have ep5 : w1.cell? ⟨w.heap.size, 5, none⟩ = some (.bool p.opn) := BP1.out.cell 5
      have es0 : w1.cell? ⟨w.heap.size + 1, 0, none⟩ = some (.int .i64 s.tm) := BS1.out.cell 0
      have es1 : w1.cell? ⟨w.heap.size + 1, 1, none⟩ = some (.int .i64 s.level) := BS1.out.cell 1
      have es2 : w1.cell? ⟨w.heap.size + 1, 2, none⟩ = some (.int .i64 s.held) := BS1.out.cell 2
      have es3 : w1.cell? ⟨w.heap.size + 1, 3, none⟩ = some (.slice A s.log.length cap) := BS1.out.cell 3
      go_wp2_with fail
      refine (radvance_is H0.out HA.out A cap _).mono ?_
      rintro e w2 ⟨rfl, hb2⟩
      have BP2 := Lib.hid ((BP1.out.keep hb2).alloc (.cells (scells a.tm a.level a.held (.slice A 0 cap)) 32))
      have BT2 := Lib.hid (Box.new w2 32 (scells a.tm a.level a.held (.slice A 0 cap)))
      have hB2 := HB1.out.trans (hb2.mono HB1.out.size)
      have HB2 := Lib.hid (hB2.alloc hB2.size (.cells (scells a.tm a.level a.held (.slice A 0 cap)) 32))
      obtain ⟨b, hb⟩ : ∃ b, w2.heap.size = b := ⟨_, rfl⟩
      have fp0 : w2.cell? ⟨w.heap.size, 0, none⟩ = some (.int .i64 p.kind) := (BP1.out.keep hb2).cell 0
      have fp1 : w2.cell? ⟨w.heap.size, 1, none⟩ = some (.int .i64 p.limit) := (BP1.out.keep hb2).cell 1
      have fp2 : w2.cell? ⟨w.heap.size, 2, none⟩ = some (.int .i64 p.period) := (BP1.out.keep hb2).cell 2
      have fp3 : w2.cell? ⟨w.heap.size, 3, none⟩ = some (.int .i64 p.burst) := (BP1.out.keep hb2).cell 3
      have fp4 : w2.cell? ⟨w.heap.size, 4, none⟩ = some (.int .i64 p.cap) := (BP1.out.keep hb2).cell 4
      have fp5 : w2.cell? ⟨w.heap.size, 5, none⟩ = some (.bool p.opn) := (BP1.out.keep hb2).cell 5
      have zp := (BP1.out.keep hb2).lt
      have zn : ¬ (b = w.heap.size) := by rw [← hb]; omega
      have zn2 : ¬ (w.heap.size = b) := by rw [← hb]; omega
      have zn3 : w.heap.size < b := by rw [← hb]; omega
      clear hb2 hB2 ep0 ep1 ep2 ep3 ep4 ep5 es0 es1 es2 es3
      go_wp2_with fail
      rw [hb] at BT2
      clear fp0 fp1 fp2 fp3 fp4 fp5
      generalize w2.alloc (.cells (scells a.tm a.level a.held (.slice A 0 cap)) 32) = W2 at BP2 BT2 HB2 ⊢
      have gp0 : ∀ g : Grow W2, g.w.cell? ⟨w.heap.size, 0, none⟩ = some (.int .i64 p.kind) := fun g => Grow.cell BP2.out g 0
      have gp1 : ∀ g : Grow W2, g.w.cell? ⟨w.heap.size, 1, none⟩ = some (.int .i64 p.limit) := fun g => Grow.cell BP2.out g 1
      have gp2 : ∀ g : Grow W2, g.w.cell? ⟨w.heap.size, 2, none⟩ = some (.int .i64 p.period) := fun g => Grow.cell BP2.out g 2
      have gp3 : ∀ g : Grow W2, g.w.cell? ⟨w.heap.size, 3, none⟩ = some (.int .i64 p.burst) := fun g => Grow.cell BP2.out g 3
      have gp4 : ∀ g : Grow W2, g.w.cell? ⟨w.heap.size, 4, none⟩ = some (.int .i64 p.cap) := fun g => Grow.cell BP2.out g 4
      have gp5 : ∀ g : Grow W2, g.w.cell? ⟨w.heap.size, 5, none⟩ = some (.bool p.opn) := fun g => Grow.cell BP2.out g 5
      have gt0 : ∀ g : Grow W2, g.w.cell? ⟨b, 0, none⟩ = some (.int .i64 a.tm) := fun g => Grow.cell BT2.out g 0
      have gt1 : ∀ g : Grow W2, g.w.cell? ⟨b, 1, none⟩ = some (.int .i64 a.level) := fun g => Grow.cell BT2.out g 1
      have gt2 : ∀ g : Grow W2, g.w.cell? ⟨b, 2, none⟩ = some (.int .i64 a.held) := fun g => Grow.cell BT2.out g 2
      have gt3 : ∀ g : Grow W2, g.w.cell? ⟨b, 3, none⟩ = some (.slice A 0 cap) := fun g => Grow.cell BT2.out g 3
      refine wp_region_grow (by kernel_rfl) (by kernel_rfl) ?_
      repeat (go_big_quiet_step ((go_at_call 38; exact grow_call (by have := begin_calls p a.tm (h1 := HOA.out.per) (h3 := ⟨HOA.out.tm0, HOA.out.tm1⟩); rw [HG.out] at this; exact this _))))
      refine wpQuiet_nil ?_
      intro _ hw'
      obtain ⟨gq, hw''⟩ := hw'
      subst hw''
      have hbq := gq.below
      go_wp2_with fail
      go_ret2
      exact ⟨by rw [E.out]; rfl, HB2.out.trans (hbq.mono HB2.out.size)⟩
end Wn
end Go.Proofs.Ytikfjdpkjifcdaa
