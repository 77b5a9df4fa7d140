/-
  What counter.wait, Advance, Room, Until and Retry answer, in any world.
-/
import Derived.Test.YtikfjdpkjifcdaaCtrOwnA
namespace Go.Proofs.Ytikfjdpkjifcdaa
open Go.RowKit
namespace Wn

theorem Ok.rl {p : Pol} {s : St} (h : Ok p s) : 0 ≤ p.limit ∧ p.limit ≤ 1048576 ∧ 0 ≤ s.held ∧ s.held ≤ 1048576 ∧ 0 ≤ s.level ∧ s.level ≤ 1048576 := by
  have := h.lim; have := h.held0; have := h.held1; have := h.lev0; have := h.lev1
  omega
theorem room_ok {p : Pol} {s : St} (h : Ok p s) (A : Option Addr) (n cap : Nat) (w : World) :
    Calls Try.prog 36 #[p.val, s.val A n cap] w fun e w' => e = .returned (.int .i64 (room p s)) ∧ Below w.heap.size w w' :=
  room_calls p s A n cap w h.rl.1 h.rl.2.1 h.rl.2.2.1 h.rl.2.2.2.1 h.rl.2.2.2.2.1 h.rl.2.2.2.2.2
theorem numbered_ok {p : Pol} {t : Int} (h : 1 ≤ p.period ∧ p.period ≤ 1099511627776) (h3 : 0 ≤ t ∧ t ≤ 9007199254740992) (w : World) :
    Calls Try.prog 37 #[p.val, .int .i64 t] w fun e w' => e = .returned (.int .i64 (tim p t)) ∧ Below w.heap.size w w' := numbered_calls p t w h.1 h.2 h3.1 h3.2
theorem tim_bounds {p : Pol} {t : Int} (h : 1 ≤ p.period ∧ p.period ≤ 1099511627776) (h3 : 0 ≤ t ∧ t ≤ 9007199254740992) :
    0 ≤ tim p t ∧ tim p t ≤ 9007199254740992 ∧ t < (tim p t + 1) * p.period ∧ (tim p t + 1) * p.period ≤ t + 1099511627776 := by
  have a := tim_lo (p := p) t h.1
  have b := tim_hi (p := p) t h.1
  have c := tim_nonneg (p := p) h.1 h3.1
  have d := tim_le_self (p := p) h3.1
  have e := tim_next p t
  omega
set_option maxHeartbeats 8000000 in
theorem wait_calls (p : Pol) (s : St) (A : Option Addr) (n cap : Nat) (c : Int) (w : World) (h : Ok p s) :
    Calls Try.prog 35 #[p.val, s.val A n cap, .int .i64 c] w fun e w' => e = .returned (.int .i64 (wt p s c)) ∧ Below w.heap.size w w' := by
  have HO := Lib.hid h
  have HB0 := Lib.hid (below_two w p.box (s.box A n cap))
  have BP0 := Lib.hid (Box.alloc (Box.new w 23 (pcells p)) (s.box A n cap))
  have BS0 := Lib.hid (Box.new1 w 32 (scells s.tm s.level s.held (.slice A n cap)) p.box)
  have ht := tim_bounds h.per ⟨h.tm0, h.tm1⟩
  have htm0 := h.tm0
  have htm1 := h.tm1
  clear h
  unfold Pol.val St.val
  by_cases hc : c ≤ room p s
  · have E := Lib.hid (show wt p s c = 0 by unfold wt; rw [if_pos hc])
    go_enter Try.func35, Try.ntmps35
    go_wp2_with fail
    refine (room_ok HO.out A n cap _).mono ?_
    rintro e w1 ⟨rfl, hb1⟩
    have HB1 := Lib.hid hb1
    clear hb1
    go_wp2_with fail
    go_ret
    exact ⟨by rw [E.out]; rfl, HB0.out.trans (HB1.out.mono (by simp; omega))⟩
  · have E := Lib.hid (show wt p s c = (tim p s.tm + 1) * p.period - s.tm by unfold wt; rw [if_neg hc])
    obtain ⟨q, hq⟩ : ∃ q, tim p s.tm = q := ⟨_, rfl⟩
    rw [hq] at ht
    obtain ⟨m, hm⟩ : ∃ m, (q + 1) * p.period = m := ⟨_, rfl⟩
    rw [hm] at ht
    have HQ := Lib.hid hq
    have HM := Lib.hid (show (tim p s.tm + 1) * p.period = m by rw [hq]; exact hm)
    have j1 : IntKind.i64.wrap ((q + 1) * p.period) = m := by rw [hm]; exact IntWalk.i64_in _ (by omega)
    have j2 : IntKind.i64.wrap (m - s.tm) = m - s.tm := IntWalk.i64_in _ (by omega)
    clear hq hm
    go_enter Try.func35, Try.ntmps35
    go_wp2_with fail
    refine (room_ok HO.out A n cap _).mono ?_
    rintro e w1 ⟨rfl, hb1⟩
    have BP1 := Lib.hid (BP0.out.keep hb1)
    have BS1 := Lib.hid (BS0.out.keep hb1)
    have HB1 := Lib.hid (HB0.out.trans (hb1.mono (by simp; omega)))
    clear hb1
    have gp0 : ∀ g : Grow w1, g.w.cell? ⟨w.heap.size, 0, none⟩ = some (.int .i64 p.kind) := fun g => Grow.cell BP1.out g 0
    have gp1 : ∀ g : Grow w1, g.w.cell? ⟨w.heap.size, 1, none⟩ = some (.int .i64 p.limit) := fun g => Grow.cell BP1.out g 1
    have gp2 : ∀ g : Grow w1, g.w.cell? ⟨w.heap.size, 2, none⟩ = some (.int .i64 p.period) := fun g => Grow.cell BP1.out g 2
    have gp3 : ∀ g : Grow w1, g.w.cell? ⟨w.heap.size, 3, none⟩ = some (.int .i64 p.burst) := fun g => Grow.cell BP1.out g 3
    have gp4 : ∀ g : Grow w1, g.w.cell? ⟨w.heap.size, 4, none⟩ = some (.int .i64 p.cap) := fun g => Grow.cell BP1.out g 4
    have gp5 : ∀ g : Grow w1, g.w.cell? ⟨w.heap.size, 5, none⟩ = some (.bool p.opn) := fun g => Grow.cell BP1.out g 5
    have gs0 : ∀ g : Grow w1, g.w.cell? ⟨w.heap.size + 1, 0, none⟩ = some (.int .i64 s.tm) := fun g => Grow.cell BS1.out g 0
    have gs1 : ∀ g : Grow w1, g.w.cell? ⟨w.heap.size + 1, 1, none⟩ = some (.int .i64 s.level) := fun g => Grow.cell BS1.out g 1
    have gs2 : ∀ g : Grow w1, g.w.cell? ⟨w.heap.size + 1, 2, none⟩ = some (.int .i64 s.held) := fun g => Grow.cell BS1.out g 2
    have gs3 : ∀ g : Grow w1, g.w.cell? ⟨w.heap.size + 1, 3, none⟩ = some (.slice A n cap) := fun g => Grow.cell BS1.out g 3
    go_wp2_with fail
    refine wp_region_grow (by kernel_rfl) (by kernel_rfl) ?_
    repeat (go_big_quiet_step ((go_at_call 37; exact grow_call (by have := numbered_ok HO.out.per ⟨HO.out.tm0, HO.out.tm1⟩ (p := p) (t := s.tm); rw [HQ.out] at this; exact this _))))
    refine wpQuiet_nil ?_
    intro _ hw'
    obtain ⟨gq, hw''⟩ := hw'
    subst hw''
    have hbq := gq.below
    go_wp2_with fail
    go_ret
    exact ⟨by rw [E.out, HM.out]; rfl, HB1.out.trans (hbq.mono HB1.out.size)⟩
set_option maxHeartbeats 16000000 in
theorem advance_calls (p : Pol) (s : St) (A : Option Addr) (cap : Nat) (now : Int) (w : World) :
    Calls Try.prog 25 #[p.val, s.val A s.log.length cap, .int .i64 now] w fun e w' => e = .returned ((adv p s now).val none 0 0) ∧ Below w.heap.size w w' := by
  have HB3 := Lib.hid (below_three w p.box (s.box A s.log.length cap) (.cells (scells 0 0 0 (.slice none 0 0)) 32))
  have BP0 := Lib.hid (Box.alloc (Box.alloc (Box.new w 23 (pcells p)) (s.box A s.log.length cap)) (.cells (scells 0 0 0 (.slice none 0 0)) 32))
  have BS0 := Lib.hid (Box.alloc (Box.new1 w 32 (scells s.tm s.level s.held (.slice A s.log.length cap)) p.box) (.cells (scells 0 0 0 (.slice none 0 0)) 32))
  unfold Pol.val St.val
  cases h0 : right p s with
  | false =>
    have E := Lib.hid (show adv p s now = zero by simp [adv, h0])
    have H0 := Lib.hid h0
    clear h0
    go_enter Try.func25, Try.ntmps25
    go_wp2_with fail
    refine (right_no H0.out A cap _).mono ?_
    rintro e w1 ⟨rfl, hb1⟩
    have hg : w1.heap[w.heap.size + 1 + 1]? = some (.cells (scells 0 0 0 (.slice none 0 0)) 32 (0, 0)) := by rw [hb1.block _ (by simp)]; exact heap_alloc3_new _ _ _ _
    have HB1 := Lib.hid hb1
    clear hb1
    go_wp2_with (refine wpList_store_row rfl 32 _ _ rfl (w.heap.size + 1 + 1) (scells 0 0 0 (.slice none 0 0)) rfl rfl 32 _ hg st_size rfl (scells_one _ _ _ _ (slice_one _ _ _)) ?_)
    refine ret_st Try.results25 rfl rfl (setRow_heap _ _ _ _ _ _ hg) ⟨?_, ?_⟩
    · rw [E.out]; rfl
    · exact below_setRow (HB3.out.trans (HB1.out.mono (by simp; omega))) (by omega) _
  | true =>
    have H0 := Lib.hid h0
    have HO := Lib.hid (right_ok h0)
    have E := Lib.hid (adv_eq (right_ok h0) now)
    obtain ⟨T, hT⟩ : ∃ T, advTm s now = T := ⟨_, rfl⟩
    have hT0 := (HO.out.advTm now).1
    have hT1 := (HO.out.advTm now).2
    rw [hT] at hT0 hT1
    have hmx : (if s.tm < clamp now then clamp now else s.tm) = T := by rw [← hT]; unfold advTm; split <;> omega
    have HT := Lib.hid hT
    clear h0 hT
    go_enter Try.func25, Try.ntmps25
    go_wp2_with fail
    refine (right_yes H0.out A cap _).mono ?_
    rintro e w1 ⟨rfl, hb1⟩
    have BP1 := Lib.hid (BP0.out.keep hb1)
    have BS1 := Lib.hid (BS0.out.keep hb1)
    have BZ1 := Lib.hid (show Box w1 (w.heap.size + 1 + 1) 32 (scells 0 0 0 (.slice none 0 0)) by unfold Box; rw [hb1.block _ (by simp)]; exact heap_alloc3_new _ _ _ _)
    have HB1 := Lib.hid (HB3.out.trans (hb1.mono (by simp; omega)))
    clear hb1
    have d0 : w1.cell? ⟨w.heap.size + 1, 0, none⟩ = some (.int .i64 s.tm) := BS1.out.cell 0
    have d1 : w1.cell? ⟨w.heap.size + 1, 1, none⟩ = some (.int .i64 s.level) := BS1.out.cell 1
    have d2 : w1.cell? ⟨w.heap.size + 1, 2, none⟩ = some (.int .i64 s.held) := BS1.out.cell 2
    have d3 : w1.cell? ⟨w.heap.size + 1, 3, none⟩ = some (.slice A s.log.length cap) := BS1.out.cell 3
    have z1 : w.heap.size + 1 < w1.heap.size := BS1.out.lt
    have z2 : w.heap.size + 1 + 1 < w1.heap.size := BZ1.out.lt
    go_wp2_with fail
    go_cut [7] (fun s7 w4 => ∃ b, s7 = .pointer (some ⟨b, 0, none⟩) ∧ Hid (Below w.heap.size w w4 ∧ Box w4 w.heap.size 23 (pcells p) ∧ Box w4 (w.heap.size + 1) 32 (scells s.tm s.level s.held (.slice A s.log.length cap)) ∧ Box w4 (w.heap.size + 1 + 1) 32 (scells 0 0 0 (.slice none 0 0)) ∧ Box w4 b 32 (scells T 0 s.held (.slice none 0 0)) ∧ w.heap.size + 1 + 1 < b))
    case first =>
      go_region_held3 (fun w' => w'.cell? ⟨w.heap.size + 1, 0, none⟩ = some (.int .i64 s.tm) ∧ w'.cell? ⟨w.heap.size + 1, 2, none⟩ = some (.int .i64 s.held)) (go_keep) (first | (go_at_call 27; refine (numclamp_calls now _).mono ?_; rintro e w' ⟨rfl, rfl⟩))
      all_goals (go_wp2_with fail; go_meet)
      all_goals exact ⟨_, rfl, (HB1.out.alloc HB1.out.size _).drew, (BP1.out.alloc _).drew, (BS1.out.alloc _).drew, (BZ1.out.alloc _).drew, (Box.new w1 _ _).drew, z2⟩
    case rest =>
      obtain ⟨b, rfl, hcut⟩ := hcut
      obtain ⟨hB4, rp4, rs4, rz4, rt4, zb⟩ := hcut.out
      obtain ⟨q1, hq1⟩ : ∃ q, tim p T = q := ⟨_, rfl⟩
      obtain ⟨q2, hq2⟩ : ∃ q, tim p s.tm = q := ⟨_, rfl⟩
      have HQ1 := Lib.hid hq1
      have HQ2 := Lib.hid hq2
      have HB4 := Lib.hid hB4
      have BP4 := Lib.hid rp4
      have BS4 := Lib.hid rs4
      have BZ4 := Lib.hid rz4
      have BT4 := Lib.hid rt4
      clear hcut hB4 rp4 rs4 rz4 rt4 hq1 hq2
      have gp0 : ∀ g : Grow wc, g.w.cell? ⟨w.heap.size, 0, none⟩ = some (.int .i64 p.kind) := fun g => Grow.cell BP4.out g 0
      have gp1 : ∀ g : Grow wc, g.w.cell? ⟨w.heap.size, 1, none⟩ = some (.int .i64 p.limit) := fun g => Grow.cell BP4.out g 1
      have gp2 : ∀ g : Grow wc, g.w.cell? ⟨w.heap.size, 2, none⟩ = some (.int .i64 p.period) := fun g => Grow.cell BP4.out g 2
      have gp3 : ∀ g : Grow wc, g.w.cell? ⟨w.heap.size, 3, none⟩ = some (.int .i64 p.burst) := fun g => Grow.cell BP4.out g 3
      have gp4 : ∀ g : Grow wc, g.w.cell? ⟨w.heap.size, 4, none⟩ = some (.int .i64 p.cap) := fun g => Grow.cell BP4.out g 4
      have gp5 : ∀ g : Grow wc, g.w.cell? ⟨w.heap.size, 5, none⟩ = some (.bool p.opn) := fun g => Grow.cell BP4.out g 5
      have gs0 : ∀ g : Grow wc, g.w.cell? ⟨w.heap.size + 1, 0, none⟩ = some (.int .i64 s.tm) := fun g => Grow.cell BS4.out g 0
      have gs1 : ∀ g : Grow wc, g.w.cell? ⟨w.heap.size + 1, 1, none⟩ = some (.int .i64 s.level) := fun g => Grow.cell BS4.out g 1
      have gs2 : ∀ g : Grow wc, g.w.cell? ⟨w.heap.size + 1, 2, none⟩ = some (.int .i64 s.held) := fun g => Grow.cell BS4.out g 2
      have gs3 : ∀ g : Grow wc, g.w.cell? ⟨w.heap.size + 1, 3, none⟩ = some (.slice A s.log.length cap) := fun g => Grow.cell BS4.out g 3
      have gt0 : ∀ g : Grow wc, g.w.cell? ⟨b, 0, none⟩ = some (.int .i64 T) := fun g => Grow.cell BT4.out g 0
      have gt1 : ∀ g : Grow wc, g.w.cell? ⟨b, 1, none⟩ = some (.int .i64 0) := fun g => Grow.cell BT4.out g 1
      have gt2 : ∀ g : Grow wc, g.w.cell? ⟨b, 2, none⟩ = some (.int .i64 s.held) := fun g => Grow.cell BT4.out g 2
      have gt3 : ∀ g : Grow wc, g.w.cell? ⟨b, 3, none⟩ = some (.slice none 0 0) := fun g => Grow.cell BT4.out g 3
      go_wp2_with fail
      refine wp_region_grow (by kernel_rfl) (by kernel_rfl) ?_
      repeat (go_big_quiet_step ((first | (go_at_call_of 37 (Value.int .i64 T); exact grow_call (by have := numbered_ok HO.out.per (p := p) (t := T) ⟨hT0, hT1⟩; rw [HQ1.out] at this; exact this _)) | (go_at_call 37; exact grow_call (by have := numbered_ok HO.out.per ⟨HO.out.tm0, HO.out.tm1⟩ (p := p) (t := s.tm); rw [HQ2.out] at this; exact this _)))))
      refine wpQuiet_nil ?_
      intro _ hw'
      obtain ⟨gq, hw''⟩ := hw'
      subst hw''
      clear gp0 gp1 gp2 gp3 gp4 gp5 gs0 gs1 gs2 gs3 gt0 gt1 gt2 gt3
      have hbq := gq.below
      have BS5 := Lib.hid (BS4.out.keep hbq)
      have BZ5 := Lib.hid (BZ4.out.keep hbq)
      have BT5 := Lib.hid (BT4.out.keep hbq)
      have HB5 := Lib.hid (HB4.out.trans (hbq.mono HB4.out.size))
      clear hbq
      generalize gq.w = W5 at BS5 BZ5 BT5 HB5 ⊢
      have ks0 : W5.cell? ⟨w.heap.size + 1, 0, none⟩ = some (.int .i64 s.tm) := BS5.out.cell 0
      have ks1 : W5.cell? ⟨w.heap.size + 1, 1, none⟩ = some (.int .i64 s.level) := BS5.out.cell 1
      have ks2 : W5.cell? ⟨w.heap.size + 1, 2, none⟩ = some (.int .i64 s.held) := BS5.out.cell 2
      have ks3 : W5.cell? ⟨w.heap.size + 1, 3, none⟩ = some (.slice A s.log.length cap) := BS5.out.cell 3
      have kt0 : W5.cell? ⟨b, 0, none⟩ = some (.int .i64 T) := BT5.out.cell 0
      have kt1 : W5.cell? ⟨b, 1, none⟩ = some (.int .i64 0) := BT5.out.cell 1
      have kt2 : W5.cell? ⟨b, 2, none⟩ = some (.int .i64 s.held) := BT5.out.cell 2
      have kt3 : W5.cell? ⟨b, 3, none⟩ = some (.slice none 0 0) := BT5.out.cell 3
      have kf0 := BT5.out.free 0
      have kf1 := BT5.out.free 1
      have kf2 := BT5.out.free 2
      have kf3 := BT5.out.free 3
      have zn : ¬ (w.heap.size + 1 + 1 = b) := by omega
      by_cases hqq : q1 = q2
      · have qb : (q1 == q2) = true := by simpa using hqq
        have HQQ := Lib.hid (show tim p T = tim p s.tm by rw [HQ1.out, HQ2.out]; exact hqq)
        clear hqq
        go_wp2_with (refine wpList_store_row rfl 32 _ _ rfl (w.heap.size + 1 + 1) (scells T s.level s.held (.slice none 0 0)) rfl rfl 32 _ (BZ5.out.far1 (Nat.ne_of_lt zb) 1 _) st_size rfl (scells_one _ _ _ _ (slice_one _ _ _)) ?_)
        refine ret_st Try.results25 rfl rfl (setRow_heap _ _ _ _ _ _ (BZ5.out.far1 (Nat.ne_of_lt zb) 1 _)) ⟨?_, below_setRow (Below.setCell HB5.out (show w.heap.size ≤ (⟨b, 1, none⟩ : Addr).block from by show w.heap.size ≤ b; omega) _) (by omega) _⟩
        rw [E.out, adv0, HT.out, if_pos HQQ.out]
      · have qb : (q1 == q2) = false := by simpa using hqq
        have HQQ := Lib.hid (show ¬ tim p T = tim p s.tm by rw [HQ1.out, HQ2.out]; exact hqq)
        clear hqq
        go_wp2_with (refine wpList_store_row rfl 32 _ _ rfl (w.heap.size + 1 + 1) (scells T 0 s.held (.slice none 0 0)) rfl rfl 32 _ BZ5.out st_size rfl (scells_one _ _ _ _ (slice_one _ _ _)) ?_)
        refine ret_st Try.results25 rfl rfl (setRow_heap _ _ _ _ _ _ BZ5.out) ⟨?_, below_setRow HB5.out (by omega) _⟩
        rw [E.out, adv0, HT.out, if_neg HQQ.out]
theorem advance_is {p : Pol} {s t : St} {now : Int} (he : adv p s now = t) (A : Option Addr) (cap : Nat) (w : World) :
    Calls Try.prog 25 #[p.val, s.val A s.log.length cap, .int .i64 now] w fun e w' => e = .returned (t.val none 0 0) ∧ Below w.heap.size w w' := by
  have := advance_calls p s A cap now w; rw [he] at this; exact this
set_option maxHeartbeats 8000000 in
theorem roomAt_calls (p : Pol) (s : St) (A : Option Addr) (cap : Nat) (now : Int) (w : World) :
    Calls Try.prog 24 #[p.val, s.val A s.log.length cap, .int .i64 now] w fun e w' => e = .returned (.int .i64 (roomAt p s now)) ∧ Below w.heap.size w w' := by
  have HB0 := Lib.hid (below_two w p.box (s.box A s.log.length cap))
  have BP0 := Lib.hid (Box.alloc (Box.new w 23 (pcells p)) (s.box A s.log.length cap))
  have BS0 := Lib.hid (Box.new1 w 32 (scells s.tm s.level s.held (.slice A s.log.length cap)) p.box)
  unfold Pol.val St.val
  cases h0 : right p s with
  | false =>
    have E := Lib.hid (show roomAt p s now = 0 by simp [roomAt, h0])
    have H0 := Lib.hid h0
    clear h0
    go_enter Try.func24, Try.ntmps24
    go_wp2_with fail
    refine (right_no H0.out A cap _).mono ?_
    rintro e w1 ⟨rfl, hb1⟩
    have HB1 := Lib.hid hb1
    clear hb1
    go_wp2_with fail
    go_ret
    exact ⟨by rw [E.out]; rfl, HB0.out.trans (HB1.out.mono (by simp; omega))⟩
  | true =>
    obtain ⟨a, ha⟩ : ∃ a, adv p s now = a := ⟨_, rfl⟩
    have HOA := Lib.hid (show Ok p a by rw [← ha]; exact (right_ok h0).adv now)
    have HA := Lib.hid ha
    have E := Lib.hid (show roomAt p s now = room p a by rw [← ha]; simp [roomAt, h0])
    have H0 := Lib.hid h0
    clear h0 ha
    go_enter Try.func24, Try.ntmps24
    go_wp2_with fail
    refine (right_yes H0.out A cap _).mono ?_
    rintro e w1 ⟨rfl, hb1⟩
    have BP1 := Lib.hid (BP0.out.keep hb1)
    have BS1 := Lib.hid (BS0.out.keep hb1)
    have HB1 := Lib.hid (HB0.out.trans (hb1.mono (by simp; omega)))
    clear hb1
    have ep0 : w1.cell? ⟨w.heap.size, 0, none⟩ = some (.int .i64 p.kind) := BP1.out.cell 0
    have ep1 : w1.cell? ⟨w.heap.size, 1, none⟩ = some (.int .i64 p.limit) := BP1.out.cell 1
    have ep2 : w1.cell? ⟨w.heap.size, 2, none⟩ = some (.int .i64 p.period) := BP1.out.cell 2
    have ep3 : w1.cell? ⟨w.heap.size, 3, none⟩ = some (.int .i64 p.burst) := BP1.out.cell 3
    have ep4 : w1.cell? ⟨w.heap.size, 4, none⟩ = some (.int .i64 p.cap) := BP1.out.cell 4
    have ep5 : w1.cell? ⟨w.heap.size, 5, none⟩ = some (.bool p.opn) := BP1.out.cell 5
    have es0 : w1.cell? ⟨w.heap.size + 1, 0, none⟩ = some (.int .i64 s.tm) := BS1.out.cell 0
    have es1 : w1.cell? ⟨w.heap.size + 1, 1, none⟩ = some (.int .i64 s.level) := BS1.out.cell 1
    have es2 : w1.cell? ⟨w.heap.size + 1, 2, none⟩ = some (.int .i64 s.held) := BS1.out.cell 2
    have es3 : w1.cell? ⟨w.heap.size + 1, 3, none⟩ = some (.slice A s.log.length cap) := BS1.out.cell 3
    go_wp2_with fail
    clear ep0 ep1 ep2 ep3 ep4 ep5 es0 es1 es2 es3
    have gp0 : ∀ g : Grow w1, g.w.cell? ⟨w.heap.size, 0, none⟩ = some (.int .i64 p.kind) := fun g => Grow.cell BP1.out g 0
    have gp1 : ∀ g : Grow w1, g.w.cell? ⟨w.heap.size, 1, none⟩ = some (.int .i64 p.limit) := fun g => Grow.cell BP1.out g 1
    have gp2 : ∀ g : Grow w1, g.w.cell? ⟨w.heap.size, 2, none⟩ = some (.int .i64 p.period) := fun g => Grow.cell BP1.out g 2
    have gp3 : ∀ g : Grow w1, g.w.cell? ⟨w.heap.size, 3, none⟩ = some (.int .i64 p.burst) := fun g => Grow.cell BP1.out g 3
    have gp4 : ∀ g : Grow w1, g.w.cell? ⟨w.heap.size, 4, none⟩ = some (.int .i64 p.cap) := fun g => Grow.cell BP1.out g 4
    have gp5 : ∀ g : Grow w1, g.w.cell? ⟨w.heap.size, 5, none⟩ = some (.bool p.opn) := fun g => Grow.cell BP1.out g 5
    have gs0 : ∀ g : Grow w1, g.w.cell? ⟨w.heap.size + 1, 0, none⟩ = some (.int .i64 s.tm) := fun g => Grow.cell BS1.out g 0
    have gs1 : ∀ g : Grow w1, g.w.cell? ⟨w.heap.size + 1, 1, none⟩ = some (.int .i64 s.level) := fun g => Grow.cell BS1.out g 1
    have gs2 : ∀ g : Grow w1, g.w.cell? ⟨w.heap.size + 1, 2, none⟩ = some (.int .i64 s.held) := fun g => Grow.cell BS1.out g 2
    have gs3 : ∀ g : Grow w1, g.w.cell? ⟨w.heap.size + 1, 3, none⟩ = some (.slice A s.log.length cap) := fun g => Grow.cell BS1.out g 3
    refine wp_region_grow (by kernel_rfl) (by kernel_rfl) ?_
    repeat (go_big_quiet_step ((first | (go_at_call 25; exact grow_call (advance_is HA.out A cap _)) | (go_at_call 36; exact grow_call (room_ok HOA.out none 0 0 _)))))
    refine wpQuiet_nil ?_
    intro _ hw'
    obtain ⟨gq, hw''⟩ := hw'
    subst hw''
    have hbq := gq.below
    go_wp2_with fail
    go_ret
    exact ⟨by rw [E.out]; rfl, HB1.out.trans (hbq.mono HB1.out.size)⟩
set_option maxHeartbeats 8000000 in
theorem untilAt_calls (p : Pol) (s : St) (A : Option Addr) (cap : Nat) (now : Int) (w : World) :
    Calls Try.prog 22 #[p.val, s.val A s.log.length cap, .int .i64 now] w fun e w' => e = .returned (.int .i64 (untilAt p s now)) ∧ Below w.heap.size w w' := by
  have HB0 := Lib.hid (below_two w p.box (s.box A s.log.length cap))
  have BP0 := Lib.hid (Box.alloc (Box.new w 23 (pcells p)) (s.box A s.log.length cap))
  have BS0 := Lib.hid (Box.new1 w 32 (scells s.tm s.level s.held (.slice A s.log.length cap)) p.box)
  unfold Pol.val St.val
  cases h0 : right p s with
  | false =>
    have E := Lib.hid (show untilAt p s now = -1 by simp [untilAt, h0])
    have H0 := Lib.hid h0
    clear h0
    go_enter Try.func22, Try.ntmps22
    go_wp2_with fail
    refine (right_no H0.out A cap _).mono ?_
    rintro e w1 ⟨rfl, hb1⟩
    have HB1 := Lib.hid hb1
    clear hb1
    go_wp2_with fail
    go_ret
    exact ⟨by rw [E.out]; rfl, HB0.out.trans (HB1.out.mono (by simp; omega))⟩
  | true =>
    obtain ⟨a, ha⟩ : ∃ a, adv p s now = a := ⟨_, rfl⟩
    have HOA := Lib.hid (show Ok p a by rw [← ha]; exact (right_ok h0).adv now)
    have HA := Lib.hid ha
    by_cases hh : s.held > 0
    · have E := Lib.hid (show untilAt p s now = -1 by simp [untilAt, h0, hh])
      have H0 := Lib.hid h0
      clear h0 ha
      go_enter Try.func22, Try.ntmps22
      go_wp2_with fail
      refine (right_yes H0.out A cap _).mono ?_
      rintro e w1 ⟨rfl, hb1⟩
      have BP1 := Lib.hid (BP0.out.keep hb1)
      have BS1 := Lib.hid (BS0.out.keep hb1)
      have HB1 := Lib.hid (HB0.out.trans (hb1.mono (by simp; omega)))
      clear hb1
      have ep0 : w1.cell? ⟨w.heap.size, 0, none⟩ = some (.int .i64 p.kind) := BP1.out.cell 0
      have ep1 : w1.cell? ⟨w.heap.size, 1, none⟩ = some (.int .i64 p.limit) := BP1.out.cell 1
      have ep2 : w1.cell? ⟨w.heap.size, 2, none⟩ = some (.int .i64 p.period) := BP1.out.cell 2
      have ep3 : w1.cell? ⟨w.heap.size, 3, none⟩ = some (.int .i64 p.burst) := BP1.out.cell 3
      have ep4 : w1.cell? ⟨w.heap.size, 4, none⟩ = some (.int .i64 p.cap) := BP1.out.cell 4
      have ep5 : w1.cell? ⟨w.heap.size, 5, none⟩ = some (.bool p.opn) := BP1.out.cell 5
      have es0 : w1.cell? ⟨w.heap.size + 1, 0, none⟩ = some (.int .i64 s.tm) := BS1.out.cell 0
      have es1 : w1.cell? ⟨w.heap.size + 1, 1, none⟩ = some (.int .i64 s.level) := BS1.out.cell 1
      have es2 : w1.cell? ⟨w.heap.size + 1, 2, none⟩ = some (.int .i64 s.held) := BS1.out.cell 2
      have es3 : w1.cell? ⟨w.heap.size + 1, 3, none⟩ = some (.slice A s.log.length cap) := BS1.out.cell 3
      go_wp2_with fail
      go_ret
      exact ⟨by rw [E.out]; rfl, HB1.out⟩
    · have E := Lib.hid (show untilAt p s now = wt p a p.limit by rw [← ha]; simp [untilAt, waitAt, h0]; intro h; omega)
      have H0 := Lib.hid h0
      clear h0 ha
      go_enter Try.func22, Try.ntmps22
      go_wp2_with fail
      refine (right_yes H0.out A cap _).mono ?_
      rintro e w1 ⟨rfl, hb1⟩
      have BP1 := Lib.hid (BP0.out.keep hb1)
      have BS1 := Lib.hid (BS0.out.keep hb1)
      have HB1 := Lib.hid (HB0.out.trans (hb1.mono (by simp; omega)))
      clear hb1
      have ep0 : w1.cell? ⟨w.heap.size, 0, none⟩ = some (.int .i64 p.kind) := BP1.out.cell 0
      have ep1 : w1.cell? ⟨w.heap.size, 1, none⟩ = some (.int .i64 p.limit) := BP1.out.cell 1
      have ep2 : w1.cell? ⟨w.heap.size, 2, none⟩ = some (.int .i64 p.period) := BP1.out.cell 2
      have ep3 : w1.cell? ⟨w.heap.size, 3, none⟩ = some (.int .i64 p.burst) := BP1.out.cell 3
      have ep4 : w1.cell? ⟨w.heap.size, 4, none⟩ = some (.int .i64 p.cap) := BP1.out.cell 4
      have ep5 : w1.cell? ⟨w.heap.size, 5, none⟩ = some (.bool p.opn) := BP1.out.cell 5
      have es0 : w1.cell? ⟨w.heap.size + 1, 0, none⟩ = some (.int .i64 s.tm) := BS1.out.cell 0
      have es1 : w1.cell? ⟨w.heap.size + 1, 1, none⟩ = some (.int .i64 s.level) := BS1.out.cell 1
      have es2 : w1.cell? ⟨w.heap.size + 1, 2, none⟩ = some (.int .i64 s.held) := BS1.out.cell 2
      have es3 : w1.cell? ⟨w.heap.size + 1, 3, none⟩ = some (.slice A s.log.length cap) := BS1.out.cell 3
      go_wp2_with fail
      clear ep0 ep1 ep2 ep3 ep4 ep5 es0 es1 es2 es3
      have gp0 : ∀ g : Grow w1, g.w.cell? ⟨w.heap.size, 0, none⟩ = some (.int .i64 p.kind) := fun g => Grow.cell BP1.out g 0
      have gp1 : ∀ g : Grow w1, g.w.cell? ⟨w.heap.size, 1, none⟩ = some (.int .i64 p.limit) := fun g => Grow.cell BP1.out g 1
      have gp2 : ∀ g : Grow w1, g.w.cell? ⟨w.heap.size, 2, none⟩ = some (.int .i64 p.period) := fun g => Grow.cell BP1.out g 2
      have gp3 : ∀ g : Grow w1, g.w.cell? ⟨w.heap.size, 3, none⟩ = some (.int .i64 p.burst) := fun g => Grow.cell BP1.out g 3
      have gp4 : ∀ g : Grow w1, g.w.cell? ⟨w.heap.size, 4, none⟩ = some (.int .i64 p.cap) := fun g => Grow.cell BP1.out g 4
      have gp5 : ∀ g : Grow w1, g.w.cell? ⟨w.heap.size, 5, none⟩ = some (.bool p.opn) := fun g => Grow.cell BP1.out g 5
      have gs0 : ∀ g : Grow w1, g.w.cell? ⟨w.heap.size + 1, 0, none⟩ = some (.int .i64 s.tm) := fun g => Grow.cell BS1.out g 0
      have gs1 : ∀ g : Grow w1, g.w.cell? ⟨w.heap.size + 1, 1, none⟩ = some (.int .i64 s.level) := fun g => Grow.cell BS1.out g 1
      have gs2 : ∀ g : Grow w1, g.w.cell? ⟨w.heap.size + 1, 2, none⟩ = some (.int .i64 s.held) := fun g => Grow.cell BS1.out g 2
      have gs3 : ∀ g : Grow w1, g.w.cell? ⟨w.heap.size + 1, 3, none⟩ = some (.slice A s.log.length cap) := fun g => Grow.cell BS1.out g 3
      refine wp_region_grow (by kernel_rfl) (by kernel_rfl) ?_
      repeat (go_big_quiet_step ((first | (go_at_call 25; exact grow_call (advance_is HA.out A cap _)) | (go_at_call 35; exact grow_call (wait_calls p a none 0 0 p.limit _ HOA.out)))))
      refine wpQuiet_nil ?_
      intro _ hw'
      obtain ⟨gq, hw''⟩ := hw'
      subst hw''
      have hbq := gq.below
      go_wp2_with fail
      go_ret
      exact ⟨by rw [E.out]; rfl, HB1.out.trans (hbq.mono HB1.out.size)⟩
set_option maxHeartbeats 8000000 in
theorem retryAt_calls (p : Pol) (s : St) (A : Option Addr) (cap : Nat) (now cost : Int) (w : World) :
    Calls Try.prog 21 #[p.val, s.val A s.log.length cap, .int .i64 now, .int .i64 cost] w fun e w' => e = .returned (.tuple #[.int .i64 (retryAt p s now cost).1, .bool (retryAt p s now cost).2]) ∧ Below w.heap.size w w' := by
  have HB0 := Lib.hid (below_two w p.box (s.box A s.log.length cap))
  have BP0 := Lib.hid (Box.alloc (Box.new w 23 (pcells p)) (s.box A s.log.length cap))
  have BS0 := Lib.hid (Box.new1 w 32 (scells s.tm s.level s.held (.slice A s.log.length cap)) p.box)
  unfold Pol.val St.val
  cases h0 : right p s with
  | false =>
    have E := Lib.hid (show retryAt p s now cost = (0, false) by simp [retryAt, h0])
    have H0 := Lib.hid h0
    clear h0
    go_enter Try.func21, Try.ntmps21
    go_wp2_with fail
    refine (right_no H0.out A cap _).mono ?_
    rintro e w1 ⟨rfl, hb1⟩
    have HB1 := Lib.hid hb1
    clear hb1
    go_wp2_with fail
    go_ret2
    exact ⟨by rw [E.out]; rfl, HB0.out.trans (HB1.out.mono (by simp; omega))⟩
  | true =>
    obtain ⟨a, ha⟩ : ∃ a, adv p s now = a := ⟨_, rfl⟩
    have HOA := Lib.hid (show Ok p a by rw [← ha]; exact (right_ok h0).adv now)
    have HA := Lib.hid ha
    have l1 := (right_ok h0).rl
    cases hh : wi cost 1 (p.limit - s.held) with
    | false =>
      have E := Lib.hid (show retryAt p s now cost = (0, false) by simp [retryAt, h0, hh])
      have HH := Lib.hid hh
      have H0 := Lib.hid h0
      clear h0 hh ha
      go_enter Try.func21, Try.ntmps21
      go_wp2_with fail
      refine (right_yes H0.out A cap _).mono ?_
      rintro e w1 ⟨rfl, hb1⟩
      have BP1 := Lib.hid (BP0.out.keep hb1)
      have BS1 := Lib.hid (BS0.out.keep hb1)
      have HB1 := Lib.hid (HB0.out.trans (hb1.mono (by simp; omega)))
      clear hb1
      have ep0 : w1.cell? ⟨w.heap.size, 0, none⟩ = some (.int .i64 p.kind) := BP1.out.cell 0
      have ep1 : w1.cell? ⟨w.heap.size, 1, none⟩ = some (.int .i64 p.limit) := BP1.out.cell 1
      have ep2 : w1.cell? ⟨w.heap.size, 2, none⟩ = some (.int .i64 p.period) := BP1.out.cell 2
      have ep3 : w1.cell? ⟨w.heap.size, 3, none⟩ = some (.int .i64 p.burst) := BP1.out.cell 3
      have ep4 : w1.cell? ⟨w.heap.size, 4, none⟩ = some (.int .i64 p.cap) := BP1.out.cell 4
      have ep5 : w1.cell? ⟨w.heap.size, 5, none⟩ = some (.bool p.opn) := BP1.out.cell 5
      have es0 : w1.cell? ⟨w.heap.size + 1, 0, none⟩ = some (.int .i64 s.tm) := BS1.out.cell 0
      have es1 : w1.cell? ⟨w.heap.size + 1, 1, none⟩ = some (.int .i64 s.level) := BS1.out.cell 1
      have es2 : w1.cell? ⟨w.heap.size + 1, 2, none⟩ = some (.int .i64 s.held) := BS1.out.cell 2
      have es3 : w1.cell? ⟨w.heap.size + 1, 3, none⟩ = some (.slice A s.log.length cap) := BS1.out.cell 3
      go_wp2_with fail
      refine (within_is HH.out _).mono ?_
      rintro e w2 ⟨rfl, rfl⟩
      go_wp2_with fail
      go_ret2
      exact ⟨by rw [E.out]; rfl, HB1.out⟩
    | true =>
      have E := Lib.hid (show retryAt p s now cost = (wt p a cost, true) by rw [← ha]; simp [retryAt, waitAt, h0, hh])
      have HH := Lib.hid hh
      have H0 := Lib.hid h0
      clear h0 hh ha
      go_enter Try.func21, Try.ntmps21
      go_wp2_with fail
      refine (right_yes H0.out A cap _).mono ?_
      rintro e w1 ⟨rfl, hb1⟩
      have BP1 := Lib.hid (BP0.out.keep hb1)
      have BS1 := Lib.hid (BS0.out.keep hb1)
      have HB1 := Lib.hid (HB0.out.trans (hb1.mono (by simp; omega)))
      clear hb1
      have ep0 : w1.cell? ⟨w.heap.size, 0, none⟩ = some (.int .i64 p.kind) := BP1.out.cell 0
      have ep1 : w1.cell? ⟨w.heap.size, 1, none⟩ = some (.int .i64 p.limit) := BP1.out.cell 1
      have ep2 : w1.cell? ⟨w.heap.size, 2, none⟩ = some (.int .i64 p.period) := BP1.out.cell 2
      have ep3 : w1.cell? ⟨w.heap.size, 3, none⟩ = some (.int .i64 p.burst) := BP1.out.cell 3
      have ep4 : w1.cell? ⟨w.heap.size, 4, none⟩ = some (.int .i64 p.cap) := BP1.out.cell 4
      have ep5 : w1.cell? ⟨w.heap.size, 5, none⟩ = some (.bool p.opn) := BP1.out.cell 5
      have es0 : w1.cell? ⟨w.heap.size + 1, 0, none⟩ = some (.int .i64 s.tm) := BS1.out.cell 0
      have es1 : w1.cell? ⟨w.heap.size + 1, 1, none⟩ = some (.int .i64 s.level) := BS1.out.cell 1
      have es2 : w1.cell? ⟨w.heap.size + 1, 2, none⟩ = some (.int .i64 s.held) := BS1.out.cell 2
      have es3 : w1.cell? ⟨w.heap.size + 1, 3, none⟩ = some (.slice A s.log.length cap) := BS1.out.cell 3
      go_wp2_with fail
      refine (within_is HH.out _).mono ?_
      rintro e w2 ⟨rfl, rfl⟩
      go_wp2_with fail
      clear ep0 ep1 ep2 ep3 ep4 ep5 es0 es1 es2 es3
      have gp0 : ∀ g : Grow w1, g.w.cell? ⟨w.heap.size, 0, none⟩ = some (.int .i64 p.kind) := fun g => Grow.cell BP1.out g 0
      have gp1 : ∀ g : Grow w1, g.w.cell? ⟨w.heap.size, 1, none⟩ = some (.int .i64 p.limit) := fun g => Grow.cell BP1.out g 1
      have gp2 : ∀ g : Grow w1, g.w.cell? ⟨w.heap.size, 2, none⟩ = some (.int .i64 p.period) := fun g => Grow.cell BP1.out g 2
      have gp3 : ∀ g : Grow w1, g.w.cell? ⟨w.heap.size, 3, none⟩ = some (.int .i64 p.burst) := fun g => Grow.cell BP1.out g 3
      have gp4 : ∀ g : Grow w1, g.w.cell? ⟨w.heap.size, 4, none⟩ = some (.int .i64 p.cap) := fun g => Grow.cell BP1.out g 4
      have gp5 : ∀ g : Grow w1, g.w.cell? ⟨w.heap.size, 5, none⟩ = some (.bool p.opn) := fun g => Grow.cell BP1.out g 5
      have gs0 : ∀ g : Grow w1, g.w.cell? ⟨w.heap.size + 1, 0, none⟩ = some (.int .i64 s.tm) := fun g => Grow.cell BS1.out g 0
      have gs1 : ∀ g : Grow w1, g.w.cell? ⟨w.heap.size + 1, 1, none⟩ = some (.int .i64 s.level) := fun g => Grow.cell BS1.out g 1
      have gs2 : ∀ g : Grow w1, g.w.cell? ⟨w.heap.size + 1, 2, none⟩ = some (.int .i64 s.held) := fun g => Grow.cell BS1.out g 2
      have gs3 : ∀ g : Grow w1, g.w.cell? ⟨w.heap.size + 1, 3, none⟩ = some (.slice A s.log.length cap) := fun g => Grow.cell BS1.out g 3
      refine wp_region_grow (by kernel_rfl) (by kernel_rfl) ?_
      repeat (go_big_quiet_step ((first | (go_at_call 25; exact grow_call (advance_is HA.out A cap _)) | (go_at_call 35; exact grow_call (wait_calls p a none 0 0 cost _ HOA.out)))))
      refine wpQuiet_nil ?_
      intro _ hw'
      obtain ⟨gq, hw''⟩ := hw'
      subst hw''
      have hbq := gq.below
      go_wp2_with fail
      go_ret2
      exact ⟨by rw [E.out]; rfl, HB1.out.trans (hbq.mono HB1.out.size)⟩
end Wn
end Go.Proofs.Ytikfjdpkjifcdaa
