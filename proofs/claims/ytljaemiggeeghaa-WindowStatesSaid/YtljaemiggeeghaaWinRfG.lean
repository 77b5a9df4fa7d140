/-
  What the document's own Do answers where something is done, in any world.
-/
import Derived.Test.YtljaemiggeeghaaWinRfF
namespace Go.Proofs.Ytljaemiggeeghaa
open Go.RowKit
attribute [local go_sem ↓] Go.wp_at_zero Go.wp_at_succ
namespace Wn

theorem Own.entsOf {w : World} {B : Nat} {A : Option Addr} {n c : Nat} {l : List (Int × Int)} (h : Own w B (.slice A n c) l) : Ents w A l := by
  obtain ⟨A', c', e, h2⟩ := h.ents
  injection e with e1 e2 e3
  subst e1
  exact h2
theorem Own.setRow' {w : World} {B g : Nat} {v : Value} {l : List (Int × Int)} {cs0 : Array Value} (h : Own w B v l) (hg : Box w g 32 cs0) (cs : Array Value) : Own (w.setRow g cs) B v l := by
  refine ⟨h.1, ?_⟩
  rcases h.2 with h2 | ⟨k, cap, cur, hv, hb, hk, r⟩
  · exact .inl h2
  · refine .inr ⟨k, cap, cur, hv, hb, ?_, r⟩
    have hne : k ≠ g := fun e => by
      subst e
      unfold Box at hg
      rw [hk] at hg
      injection hg with hg
      injection hg with _ h2 _
      exact absurd h2 (by decide)
    rw [setRow_other _ _ _ _ hne]; exact hk

set_option maxHeartbeats 16000000 in
set_option maxRecDepth 100000 in
theorem rdo_take (p : Pol) (s : St) (A : Option Addr) (cap : Nat) (now cost : Int) (w : World) (hA : Ents w A s.log) (a : St) (h0 : right p s = true) (ha : adv p s now = a) (hc : ¬ cost < 1) (hh : ¬ roomAt p s now < cost) (hm : cost ≤ 1048576) :
    Calls Try.prog 19 #[p.val, s.val A s.log.length cap, .agg (acells 1 now cost)] w fun e w' => ∃ A' cap', e = .returned (.tuple #[.agg (scells (⟨a.tm, 0, a.held, put p a.tm a.log cost⟩ : St).tm (⟨a.tm, 0, a.held, put p a.tm a.log cost⟩ : St).level (⟨a.tm, 0, a.held, put p a.tm a.log cost⟩ : St).held (.slice A' (⟨a.tm, 0, a.held, put p a.tm a.log cost⟩ : St).log.length cap')), .bool true]) ∧ ((A' = A ∧ cap' = cap ∧ (⟨a.tm, 0, a.held, put p a.tm a.log cost⟩ : St) = s) ∨ Sl w' 0 A' cap' (⟨a.tm, 0, a.held, put p a.tm a.log cost⟩ : St).log) ∧ Below w.heap.size w w' := by
  obtain ⟨r, hr⟩ : ∃ r, roomAt p s now = r := ⟨_, rfl⟩
  rw [hr] at hh
  have HR := Lib.hid hr
  have g1 : decide (cost < 1) = false := by simp; omega
  have g5 : decide (r < cost) = false := by simp; omega
  have hc1 : 1 ≤ cost := by omega
  clear hc hh hr
  have HA := Lib.hid hA
  clear hA
  have HB4 := Lib.hid (below_four w p.box (s.box A s.log.length cap) (.cells (acells 1 now cost) 38) (.cells (scells 0 0 0 (.slice none 0 0)) 32))
  have H0 := Lib.hid h0
  have HADV := Lib.hid ha
  have HS := Lib.hid (right_ok h0)
  have HO := Lib.hid (show Ok p a by rw [← ha]; exact (right_ok h0).adv now)
  have l1 := HO.out.lim
  have l2 := HO.out.tot1
  have l3 := HO.out.held0
  have l4 := HO.out.held1
  have l5 := HO.out.n
  have l6 := HS.out.held0
  have l7 := HS.out.held1
  clear h0 ha
  unfold Pol.val St.val
  go_enter Try.func19, Try.ntmps19
  go_wp2_with fail
  refine (rright_yes H0.out A cap _ (HA.out.keep HB4.out)).mono ?_
  rintro e w1 ⟨rfl, hb1⟩
  have BP1 := Lib.hid (Box.keep (Box.alloc (Box.alloc (Box.alloc (Box.new w 23 (pcells p)) (s.box A s.log.length cap)) (.cells (acells 1 now cost) 38)) (.cells (scells 0 0 0 (.slice none 0 0)) 32)) hb1)
  have BS1 := Lib.hid (Box.keep (Box.alloc (Box.alloc (Box.new1 w 32 (scells s.tm s.level s.held (.slice A s.log.length cap)) p.box) (.cells (acells 1 now cost) 38)) (.cells (scells 0 0 0 (.slice none 0 0)) 32)) hb1)
  have BA1 := Lib.hid (show Box w1 (w.heap.size + 1 + 1) 38 (acells 1 now cost) from by unfold Box; rw [hb1.block _ (by simp)]; rw [heap_alloc_old _ _ (by simp)]; exact heap_alloc3_new _ _ _ _)
  have BZ1 := Lib.hid (show Box w1 (w.heap.size + 1 + 1 + 1) 32 (scells 0 0 0 (.slice none 0 0)) from by unfold Box; rw [hb1.block _ (by simp)]; exact (heap_alloc4 _ _ _ _ _).1)
  have ep0 : w1.cell? ⟨w.heap.size, 0, none⟩ = some (.int .i64 p.kind) := BP1.out.cell 0
  have ep1 : w1.cell? ⟨w.heap.size, 1, none⟩ = some (.int .i64 p.limit) := BP1.out.cell 1
  have ep2 : w1.cell? ⟨w.heap.size, 2, none⟩ = some (.int .i64 p.period) := BP1.out.cell 2
  have ep3 : w1.cell? ⟨w.heap.size, 3, none⟩ = some (.int .i64 p.burst) := BP1.out.cell 3
  have ep4 : w1.cell? ⟨w.heap.size, 4, none⟩ = some (.int .i64 p.cap) := BP1.out.cell 4
  have ep5 : w1.cell? ⟨w.heap.size, 5, none⟩ = some (.bool p.opn) := BP1.out.cell 5
  have es0 : w1.cell? ⟨w.heap.size + 1, 0, none⟩ = some (.int .i64 (s).tm) := BS1.out.cell 0
  have es1 : w1.cell? ⟨w.heap.size + 1, 1, none⟩ = some (.int .i64 (s).level) := BS1.out.cell 1
  have es2 : w1.cell? ⟨w.heap.size + 1, 2, none⟩ = some (.int .i64 (s).held) := BS1.out.cell 2
  have es3 : w1.cell? ⟨w.heap.size + 1, 3, none⟩ = some (.slice A (s).log.length cap) := BS1.out.cell 3
  have ea0 : w1.cell? ⟨w.heap.size + 1 + 1, 0, none⟩ = some (.int .i64 1) := BA1.out.cell 0
  have ea1 : w1.cell? ⟨w.heap.size + 1 + 1, 1, none⟩ = some (.int .i64 now) := BA1.out.cell 1
  have ea2 : w1.cell? ⟨w.heap.size + 1 + 1, 2, none⟩ = some (.int .i64 cost) := BA1.out.cell 2
  have z1 : w.heap.size + 1 + 1 + 1 < w1.heap.size := BZ1.out.lt
  have HE := Lib.hid ((HA.out.keep HB4.out).keep hb1)
  have HB1 := Lib.hid (HB4.out.trans (hb1.mono (by simp <;> omega)))
  clear hb1
  go_wp2_with fail
  refine (radv_is HADV.out A cap _ HE.out).mono ?_
  rintro e w2 ⟨v, rfl, ⟨u, rfl, ho⟩, hb2⟩
  obtain ⟨A', c', rfl, hE'⟩ := ho.ents
  have BP2 := Lib.hid (Box.keep BP1.out hb2)
  have BS2 := Lib.hid (Box.keep BS1.out hb2)
  have BA2 := Lib.hid (Box.keep BA1.out hb2)
  have BZ2 := Lib.hid (Box.keep BZ1.out hb2)
  have HE2 := Lib.hid (HE.out.keep hb2)
  have HB2 := Lib.hid (HB1.out.trans (hb2.mono HB1.out.size))
  have HO2 := Lib.hid ho
  have z2 : w.heap.size + 1 + 1 + 1 < w2.heap.size := BZ2.out.lt
  clear hE' hb2 ho ep0 ep1 ep2 ep3 ep4 ep5 es0 es1 es2 es3 ea0 ea1 ea2
  have fp0 : w2.cell? ⟨w.heap.size, 0, none⟩ = some (.int .i64 p.kind) := BP2.out.cell 0
  have fp1 : w2.cell? ⟨w.heap.size, 1, none⟩ = some (.int .i64 p.limit) := BP2.out.cell 1
  have fp2 : w2.cell? ⟨w.heap.size, 2, none⟩ = some (.int .i64 p.period) := BP2.out.cell 2
  have fp3 : w2.cell? ⟨w.heap.size, 3, none⟩ = some (.int .i64 p.burst) := BP2.out.cell 3
  have fp4 : w2.cell? ⟨w.heap.size, 4, none⟩ = some (.int .i64 p.cap) := BP2.out.cell 4
  have fp5 : w2.cell? ⟨w.heap.size, 5, none⟩ = some (.bool p.opn) := BP2.out.cell 5
  have fs0 : w2.cell? ⟨w.heap.size + 1, 0, none⟩ = some (.int .i64 (s).tm) := BS2.out.cell 0
  have fs1 : w2.cell? ⟨w.heap.size + 1, 1, none⟩ = some (.int .i64 (s).level) := BS2.out.cell 1
  have fs2 : w2.cell? ⟨w.heap.size + 1, 2, none⟩ = some (.int .i64 (s).held) := BS2.out.cell 2
  have fs3 : w2.cell? ⟨w.heap.size + 1, 3, none⟩ = some (.slice A (s).log.length cap) := BS2.out.cell 3
  have fa0 : w2.cell? ⟨w.heap.size + 1 + 1, 0, none⟩ = some (.int .i64 1) := BA2.out.cell 0
  have fa1 : w2.cell? ⟨w.heap.size + 1 + 1, 1, none⟩ = some (.int .i64 now) := BA2.out.cell 1
  have fa2 : w2.cell? ⟨w.heap.size + 1 + 1, 2, none⟩ = some (.int .i64 cost) := BA2.out.cell 2
  have y0 : w.heap.size < w2.heap.size := by omega
  have y1 : w.heap.size + 1 < w2.heap.size := by omega
  have y2 : w.heap.size + 1 + 1 < w2.heap.size := by omega
  go_wp2_with fail
  have BP3 := Lib.hid (Box.alloc BP2.out (.cells (scells a.tm a.level a.held (.slice A' a.log.length c')) 32))
  have BS3 := Lib.hid (Box.alloc BS2.out (.cells (scells a.tm a.level a.held (.slice A' a.log.length c')) 32))
  have BA3 := Lib.hid (Box.alloc BA2.out (.cells (scells a.tm a.level a.held (.slice A' a.log.length c')) 32))
  have BZ3 := Lib.hid (Box.alloc BZ2.out (.cells (scells a.tm a.level a.held (.slice A' a.log.length c')) 32))
  have BT3 := Lib.hid (Box.new w2 32 (scells a.tm a.level a.held (.slice A' a.log.length c')))
  have HE3 := Lib.hid (HE2.out.alloc (.cells (scells a.tm a.level a.held (.slice A' a.log.length c')) 32))
  have HO3 := Lib.hid (HO2.out.alloc (.cells (scells a.tm a.level a.held (.slice A' a.log.length c')) 32))
  have HB3 := Lib.hid (HB2.out.alloc HB2.out.size (.cells (scells a.tm a.level a.held (.slice A' a.log.length c')) 32))
  clear fp0 fp1 fp2 fp3 fp4 fp5 fs0 fs1 fs2 fs3 fa0 fa1 fa2
  generalize w2.alloc (.cells (scells a.tm a.level a.held (.slice A' a.log.length c')) 32) = W3 at BP3 BS3 BA3 BZ3 BT3 HE3 HO3 HB3 ⊢
  have gp0 : ∀ g : Grow W3, g.w.cell? ⟨w.heap.size, 0, none⟩ = some (.int .i64 p.kind) := fun g => Grow.cell BP3.out g 0
  have gp1 : ∀ g : Grow W3, g.w.cell? ⟨w.heap.size, 1, none⟩ = some (.int .i64 p.limit) := fun g => Grow.cell BP3.out g 1
  have gp2 : ∀ g : Grow W3, g.w.cell? ⟨w.heap.size, 2, none⟩ = some (.int .i64 p.period) := fun g => Grow.cell BP3.out g 2
  have gp3 : ∀ g : Grow W3, g.w.cell? ⟨w.heap.size, 3, none⟩ = some (.int .i64 p.burst) := fun g => Grow.cell BP3.out g 3
  have gp4 : ∀ g : Grow W3, g.w.cell? ⟨w.heap.size, 4, none⟩ = some (.int .i64 p.cap) := fun g => Grow.cell BP3.out g 4
  have gp5 : ∀ g : Grow W3, g.w.cell? ⟨w.heap.size, 5, none⟩ = some (.bool p.opn) := fun g => Grow.cell BP3.out g 5
  have gs0 : ∀ g : Grow W3, g.w.cell? ⟨w.heap.size + 1, 0, none⟩ = some (.int .i64 (s).tm) := fun g => Grow.cell BS3.out g 0
  have gs1 : ∀ g : Grow W3, g.w.cell? ⟨w.heap.size + 1, 1, none⟩ = some (.int .i64 (s).level) := fun g => Grow.cell BS3.out g 1
  have gs2 : ∀ g : Grow W3, g.w.cell? ⟨w.heap.size + 1, 2, none⟩ = some (.int .i64 (s).held) := fun g => Grow.cell BS3.out g 2
  have gs3 : ∀ g : Grow W3, g.w.cell? ⟨w.heap.size + 1, 3, none⟩ = some (.slice A (s).log.length cap) := fun g => Grow.cell BS3.out g 3
  have ga0 : ∀ g : Grow W3, g.w.cell? ⟨w.heap.size + 1 + 1, 0, none⟩ = some (.int .i64 1) := fun g => Grow.cell BA3.out g 0
  have ga1 : ∀ g : Grow W3, g.w.cell? ⟨w.heap.size + 1 + 1, 1, none⟩ = some (.int .i64 now) := fun g => Grow.cell BA3.out g 1
  have ga2 : ∀ g : Grow W3, g.w.cell? ⟨w.heap.size + 1 + 1, 2, none⟩ = some (.int .i64 cost) := fun g => Grow.cell BA3.out g 2
  refine wp_region_grow (by kernel_rfl) (by kernel_rfl) ?_
  repeat (go_big_quiet_step ((go_at_call 33; exact grow_call (rroom_is HR.out A cap _ (HE3.out.keep (Grow.below _))))))
  refine wpQuiet_nil ?_
  intro _ hw'
  obtain ⟨gq, hw''⟩ := hw'
  subst hw''
  clear gp0 gp1 gp2 gp3 gp4 gp5 gs0 gs1 gs2 gs3 ga0 ga1 ga2
  have hbq := gq.below
  have BP4 := Lib.hid (BP3.out.keep hbq)
  have BS4 := Lib.hid (BS3.out.keep hbq)
  have BA4 := Lib.hid (BA3.out.keep hbq)
  have BZ4 := Lib.hid (BZ3.out.keep hbq)
  have BT4 := Lib.hid (BT3.out.keep hbq)
  have HO4 := Lib.hid (HO3.out.keep hbq)
  have HB4w := Lib.hid (HB3.out.trans (hbq.mono HB3.out.size))
  clear hbq
  generalize gq.w = W4 at BP4 BS4 BA4 BZ4 BT4 HO4 HB4w ⊢
  have kp0 : W4.cell? ⟨w.heap.size, 0, none⟩ = some (.int .i64 p.kind) := BP4.out.cell 0
  have kp1 : W4.cell? ⟨w.heap.size, 1, none⟩ = some (.int .i64 p.limit) := BP4.out.cell 1
  have kp2 : W4.cell? ⟨w.heap.size, 2, none⟩ = some (.int .i64 p.period) := BP4.out.cell 2
  have kp3 : W4.cell? ⟨w.heap.size, 3, none⟩ = some (.int .i64 p.burst) := BP4.out.cell 3
  have kp4 : W4.cell? ⟨w.heap.size, 4, none⟩ = some (.int .i64 p.cap) := BP4.out.cell 4
  have kp5 : W4.cell? ⟨w.heap.size, 5, none⟩ = some (.bool p.opn) := BP4.out.cell 5
  have ks0 : W4.cell? ⟨w.heap.size + 1, 0, none⟩ = some (.int .i64 (s).tm) := BS4.out.cell 0
  have ks1 : W4.cell? ⟨w.heap.size + 1, 1, none⟩ = some (.int .i64 (s).level) := BS4.out.cell 1
  have ks2 : W4.cell? ⟨w.heap.size + 1, 2, none⟩ = some (.int .i64 (s).held) := BS4.out.cell 2
  have ks3 : W4.cell? ⟨w.heap.size + 1, 3, none⟩ = some (.slice A (s).log.length cap) := BS4.out.cell 3
  have ka0 : W4.cell? ⟨w.heap.size + 1 + 1, 0, none⟩ = some (.int .i64 1) := BA4.out.cell 0
  have ka1 : W4.cell? ⟨w.heap.size + 1 + 1, 1, none⟩ = some (.int .i64 now) := BA4.out.cell 1
  have ka2 : W4.cell? ⟨w.heap.size + 1 + 1, 2, none⟩ = some (.int .i64 cost) := BA4.out.cell 2
  have zt4 : w2.heap.size < W4.heap.size := BT4.out.lt
  have zn : ¬ (w.heap.size + 1 + 1 + 1 = w2.heap.size) := by omega
  have zn0 : ¬ (w.heap.size = w2.heap.size) := by omega
  have zn1 : ¬ (w.heap.size + 1 = w2.heap.size) := by omega
  have zn2 : ¬ (w.heap.size + 1 + 1 = w2.heap.size) := by omega
  have kt0 : W4.cell? ⟨w2.heap.size, 0, none⟩ = some (.int .i64 a.tm) := BT4.out.cell 0
  have kt1 : W4.cell? ⟨w2.heap.size, 1, none⟩ = some (.int .i64 a.level) := BT4.out.cell 1
  have kt2 : W4.cell? ⟨w2.heap.size, 2, none⟩ = some (.int .i64 a.held) := BT4.out.cell 2
  have kt3 : W4.cell? ⟨w2.heap.size, 3, none⟩ = some (.slice A' a.log.length c') := BT4.out.cell 3
  have ktf0 := BT4.out.free 0
  have ktf1 := BT4.out.free 1
  have ktf2 := BT4.out.free 2
  have ktf3 := BT4.out.free 3
  go_wp2_with fail
  refine (rlogged_calls p a (.slice A' a.log.length c') cost _ _ HO4.out (by show a.log.length ≤ 1000; omega) (fun e he => by have := HO.out.costs2 e he; omega) ⟨by omega, by omega⟩).mono ?_
  rintro e w5 ⟨v5, rfl, ⟨u5, rfl, ho5⟩, hb5⟩
  obtain ⟨A5, c5, rfl, hE5⟩ := ho5.ents
  have BZ5 := Lib.hid (BZ4.out.keep hb5)
  have BT5 := Lib.hid (BT4.out.keep hb5)
  have HB5 := Lib.hid (HB4w.out.trans (hb5.mono HB4w.out.size))
  have HO5 := Lib.hid ho5
  have zt5 : w2.heap.size < w5.heap.size := BT5.out.lt
  clear hE5 hb5 ho5
  have mt0 : w5.cell? ⟨w2.heap.size, 0, none⟩ = some (.int .i64 a.tm) := BT5.out.cell 0
  have mt1 : w5.cell? ⟨w2.heap.size, 1, none⟩ = some (.int .i64 a.level) := BT5.out.cell 1
  have mt2 : w5.cell? ⟨w2.heap.size, 2, none⟩ = some (.int .i64 a.held) := BT5.out.cell 2
  have mt3 : w5.cell? ⟨w2.heap.size, 3, none⟩ = some (.slice A' a.log.length c') := BT5.out.cell 3
  have mtf0 := BT5.out.free 0
  have mtf1 := BT5.out.free 1
  have mtf2 := BT5.out.free 2
  have mtf3 := BT5.out.free 3
  have HZ6 := Lib.hid (BZ5.out.far4 zn (.int .i64 a.tm) (.int .i64 0) (.int .i64 a.held) (.slice A5 (put p a.tm a.log cost).length c5))
  go_upto_region 12 with (fail)
  go_wp2_with (refine wpList_store_row rfl 32 _ _ rfl (w.heap.size + 1 + 1 + 1) (scells a.tm 0 a.held (.slice A5 (put p a.tm a.log cost).length c5)) rfl rfl 32 _ HZ6.out st_size rfl (scells_one _ _ _ _ (slice_one _ _ _)) ?_)
  refine ret_st2 Try.results19 rfl rfl rfl (setRow_heap _ _ _ _ _ _ HZ6.out) ⟨_, _, rfl, ?_, ?_⟩
  · exact .inr (Own.mono ((HO5.out.set4 zt4 _ _ _ _).setRow (show w.heap.size + 1 + 1 + 1 < W4.heap.size by omega) _) (Nat.zero_le _))
  · exact below_setRow (below_set4 HB5.out (by omega) _ _ _ _) (by omega) _

set_option maxHeartbeats 16000000 in
set_option maxRecDepth 100000 in
theorem rdo_hold (p : Pol) (s : St) (A : Option Addr) (cap : Nat) (now cost : Int) (w : World) (hA : Ents w A s.log) (a : St) (h0 : right p s = true) (ha : adv p s now = a) (hc : ¬ cost < 1) (hh : ¬ roomAt p s now < cost) (hm : cost ≤ 1048576) :
    Calls Try.prog 19 #[p.val, s.val A s.log.length cap, .agg (acells 2 now cost)] w fun e w' => ∃ A' cap', e = .returned (.tuple #[.agg (scells (⟨a.tm, a.level, a.held + cost, a.log⟩ : St).tm (⟨a.tm, a.level, a.held + cost, a.log⟩ : St).level (⟨a.tm, a.level, a.held + cost, a.log⟩ : St).held (.slice A' (⟨a.tm, a.level, a.held + cost, a.log⟩ : St).log.length cap')), .bool true]) ∧ ((A' = A ∧ cap' = cap ∧ (⟨a.tm, a.level, a.held + cost, a.log⟩ : St) = s) ∨ Sl w' 0 A' cap' (⟨a.tm, a.level, a.held + cost, a.log⟩ : St).log) ∧ Below w.heap.size w w' := by
  obtain ⟨r, hr⟩ : ∃ r, roomAt p s now = r := ⟨_, rfl⟩
  rw [hr] at hh
  have HR := Lib.hid hr
  have g1 : decide (cost < 1) = false := by simp; omega
  have g5 : decide (r < cost) = false := by simp; omega
  have hc1 : 1 ≤ cost := by omega
  clear hc hh hr
  have HA := Lib.hid hA
  clear hA
  have HB4 := Lib.hid (below_four w p.box (s.box A s.log.length cap) (.cells (acells 2 now cost) 38) (.cells (scells 0 0 0 (.slice none 0 0)) 32))
  have H0 := Lib.hid h0
  have HADV := Lib.hid ha
  have HS := Lib.hid (right_ok h0)
  have HO := Lib.hid (show Ok p a by rw [← ha]; exact (right_ok h0).adv now)
  have l1 := HO.out.lim
  have l2 := HO.out.tot1
  have l3 := HO.out.held0
  have l4 := HO.out.held1
  have l5 := HO.out.n
  have l6 := HS.out.held0
  have l7 := HS.out.held1
  clear h0 ha
  unfold Pol.val St.val
  go_enter Try.func19, Try.ntmps19
  go_wp2_with fail
  refine (rright_yes H0.out A cap _ (HA.out.keep HB4.out)).mono ?_
  rintro e w1 ⟨rfl, hb1⟩
  have BP1 := Lib.hid (Box.keep (Box.alloc (Box.alloc (Box.alloc (Box.new w 23 (pcells p)) (s.box A s.log.length cap)) (.cells (acells 2 now cost) 38)) (.cells (scells 0 0 0 (.slice none 0 0)) 32)) hb1)
  have BS1 := Lib.hid (Box.keep (Box.alloc (Box.alloc (Box.new1 w 32 (scells s.tm s.level s.held (.slice A s.log.length cap)) p.box) (.cells (acells 2 now cost) 38)) (.cells (scells 0 0 0 (.slice none 0 0)) 32)) hb1)
  have BA1 := Lib.hid (show Box w1 (w.heap.size + 1 + 1) 38 (acells 2 now cost) from by unfold Box; rw [hb1.block _ (by simp)]; rw [heap_alloc_old _ _ (by simp)]; exact heap_alloc3_new _ _ _ _)
  have BZ1 := Lib.hid (show Box w1 (w.heap.size + 1 + 1 + 1) 32 (scells 0 0 0 (.slice none 0 0)) from by unfold Box; rw [hb1.block _ (by simp)]; exact (heap_alloc4 _ _ _ _ _).1)
  have ep0 : w1.cell? ⟨w.heap.size, 0, none⟩ = some (.int .i64 p.kind) := BP1.out.cell 0
  have ep1 : w1.cell? ⟨w.heap.size, 1, none⟩ = some (.int .i64 p.limit) := BP1.out.cell 1
  have ep2 : w1.cell? ⟨w.heap.size, 2, none⟩ = some (.int .i64 p.period) := BP1.out.cell 2
  have ep3 : w1.cell? ⟨w.heap.size, 3, none⟩ = some (.int .i64 p.burst) := BP1.out.cell 3
  have ep4 : w1.cell? ⟨w.heap.size, 4, none⟩ = some (.int .i64 p.cap) := BP1.out.cell 4
  have ep5 : w1.cell? ⟨w.heap.size, 5, none⟩ = some (.bool p.opn) := BP1.out.cell 5
  have es0 : w1.cell? ⟨w.heap.size + 1, 0, none⟩ = some (.int .i64 (s).tm) := BS1.out.cell 0
  have es1 : w1.cell? ⟨w.heap.size + 1, 1, none⟩ = some (.int .i64 (s).level) := BS1.out.cell 1
  have es2 : w1.cell? ⟨w.heap.size + 1, 2, none⟩ = some (.int .i64 (s).held) := BS1.out.cell 2
  have es3 : w1.cell? ⟨w.heap.size + 1, 3, none⟩ = some (.slice A (s).log.length cap) := BS1.out.cell 3
  have ea0 : w1.cell? ⟨w.heap.size + 1 + 1, 0, none⟩ = some (.int .i64 2) := BA1.out.cell 0
  have ea1 : w1.cell? ⟨w.heap.size + 1 + 1, 1, none⟩ = some (.int .i64 now) := BA1.out.cell 1
  have ea2 : w1.cell? ⟨w.heap.size + 1 + 1, 2, none⟩ = some (.int .i64 cost) := BA1.out.cell 2
  have z1 : w.heap.size + 1 + 1 + 1 < w1.heap.size := BZ1.out.lt
  have HE := Lib.hid ((HA.out.keep HB4.out).keep hb1)
  have HB1 := Lib.hid (HB4.out.trans (hb1.mono (by simp <;> omega)))
  clear hb1
  go_wp2_with fail
  refine (radv_is HADV.out A cap _ HE.out).mono ?_
  rintro e w2 ⟨v, rfl, ⟨u, rfl, ho⟩, hb2⟩
  obtain ⟨A', c', rfl, hE'⟩ := ho.ents
  have BP2 := Lib.hid (Box.keep BP1.out hb2)
  have BS2 := Lib.hid (Box.keep BS1.out hb2)
  have BA2 := Lib.hid (Box.keep BA1.out hb2)
  have BZ2 := Lib.hid (Box.keep BZ1.out hb2)
  have HE2 := Lib.hid (HE.out.keep hb2)
  have HB2 := Lib.hid (HB1.out.trans (hb2.mono HB1.out.size))
  have HO2 := Lib.hid ho
  have z2 : w.heap.size + 1 + 1 + 1 < w2.heap.size := BZ2.out.lt
  clear hE' hb2 ho ep0 ep1 ep2 ep3 ep4 ep5 es0 es1 es2 es3 ea0 ea1 ea2
  have fp0 : w2.cell? ⟨w.heap.size, 0, none⟩ = some (.int .i64 p.kind) := BP2.out.cell 0
  have fp1 : w2.cell? ⟨w.heap.size, 1, none⟩ = some (.int .i64 p.limit) := BP2.out.cell 1
  have fp2 : w2.cell? ⟨w.heap.size, 2, none⟩ = some (.int .i64 p.period) := BP2.out.cell 2
  have fp3 : w2.cell? ⟨w.heap.size, 3, none⟩ = some (.int .i64 p.burst) := BP2.out.cell 3
  have fp4 : w2.cell? ⟨w.heap.size, 4, none⟩ = some (.int .i64 p.cap) := BP2.out.cell 4
  have fp5 : w2.cell? ⟨w.heap.size, 5, none⟩ = some (.bool p.opn) := BP2.out.cell 5
  have fs0 : w2.cell? ⟨w.heap.size + 1, 0, none⟩ = some (.int .i64 (s).tm) := BS2.out.cell 0
  have fs1 : w2.cell? ⟨w.heap.size + 1, 1, none⟩ = some (.int .i64 (s).level) := BS2.out.cell 1
  have fs2 : w2.cell? ⟨w.heap.size + 1, 2, none⟩ = some (.int .i64 (s).held) := BS2.out.cell 2
  have fs3 : w2.cell? ⟨w.heap.size + 1, 3, none⟩ = some (.slice A (s).log.length cap) := BS2.out.cell 3
  have fa0 : w2.cell? ⟨w.heap.size + 1 + 1, 0, none⟩ = some (.int .i64 2) := BA2.out.cell 0
  have fa1 : w2.cell? ⟨w.heap.size + 1 + 1, 1, none⟩ = some (.int .i64 now) := BA2.out.cell 1
  have fa2 : w2.cell? ⟨w.heap.size + 1 + 1, 2, none⟩ = some (.int .i64 cost) := BA2.out.cell 2
  have y0 : w.heap.size < w2.heap.size := by omega
  have y1 : w.heap.size + 1 < w2.heap.size := by omega
  have y2 : w.heap.size + 1 + 1 < w2.heap.size := by omega
  go_wp2_with fail
  have BP3 := Lib.hid (Box.alloc BP2.out (.cells (scells a.tm a.level a.held (.slice A' a.log.length c')) 32))
  have BS3 := Lib.hid (Box.alloc BS2.out (.cells (scells a.tm a.level a.held (.slice A' a.log.length c')) 32))
  have BA3 := Lib.hid (Box.alloc BA2.out (.cells (scells a.tm a.level a.held (.slice A' a.log.length c')) 32))
  have BZ3 := Lib.hid (Box.alloc BZ2.out (.cells (scells a.tm a.level a.held (.slice A' a.log.length c')) 32))
  have BT3 := Lib.hid (Box.new w2 32 (scells a.tm a.level a.held (.slice A' a.log.length c')))
  have HE3 := Lib.hid (HE2.out.alloc (.cells (scells a.tm a.level a.held (.slice A' a.log.length c')) 32))
  have HO3 := Lib.hid (HO2.out.alloc (.cells (scells a.tm a.level a.held (.slice A' a.log.length c')) 32))
  have HB3 := Lib.hid (HB2.out.alloc HB2.out.size (.cells (scells a.tm a.level a.held (.slice A' a.log.length c')) 32))
  clear fp0 fp1 fp2 fp3 fp4 fp5 fs0 fs1 fs2 fs3 fa0 fa1 fa2
  generalize w2.alloc (.cells (scells a.tm a.level a.held (.slice A' a.log.length c')) 32) = W3 at BP3 BS3 BA3 BZ3 BT3 HE3 HO3 HB3 ⊢
  have gp0 : ∀ g : Grow W3, g.w.cell? ⟨w.heap.size, 0, none⟩ = some (.int .i64 p.kind) := fun g => Grow.cell BP3.out g 0
  have gp1 : ∀ g : Grow W3, g.w.cell? ⟨w.heap.size, 1, none⟩ = some (.int .i64 p.limit) := fun g => Grow.cell BP3.out g 1
  have gp2 : ∀ g : Grow W3, g.w.cell? ⟨w.heap.size, 2, none⟩ = some (.int .i64 p.period) := fun g => Grow.cell BP3.out g 2
  have gp3 : ∀ g : Grow W3, g.w.cell? ⟨w.heap.size, 3, none⟩ = some (.int .i64 p.burst) := fun g => Grow.cell BP3.out g 3
  have gp4 : ∀ g : Grow W3, g.w.cell? ⟨w.heap.size, 4, none⟩ = some (.int .i64 p.cap) := fun g => Grow.cell BP3.out g 4
  have gp5 : ∀ g : Grow W3, g.w.cell? ⟨w.heap.size, 5, none⟩ = some (.bool p.opn) := fun g => Grow.cell BP3.out g 5
  have gs0 : ∀ g : Grow W3, g.w.cell? ⟨w.heap.size + 1, 0, none⟩ = some (.int .i64 (s).tm) := fun g => Grow.cell BS3.out g 0
  have gs1 : ∀ g : Grow W3, g.w.cell? ⟨w.heap.size + 1, 1, none⟩ = some (.int .i64 (s).level) := fun g => Grow.cell BS3.out g 1
  have gs2 : ∀ g : Grow W3, g.w.cell? ⟨w.heap.size + 1, 2, none⟩ = some (.int .i64 (s).held) := fun g => Grow.cell BS3.out g 2
  have gs3 : ∀ g : Grow W3, g.w.cell? ⟨w.heap.size + 1, 3, none⟩ = some (.slice A (s).log.length cap) := fun g => Grow.cell BS3.out g 3
  have ga0 : ∀ g : Grow W3, g.w.cell? ⟨w.heap.size + 1 + 1, 0, none⟩ = some (.int .i64 2) := fun g => Grow.cell BA3.out g 0
  have ga1 : ∀ g : Grow W3, g.w.cell? ⟨w.heap.size + 1 + 1, 1, none⟩ = some (.int .i64 now) := fun g => Grow.cell BA3.out g 1
  have ga2 : ∀ g : Grow W3, g.w.cell? ⟨w.heap.size + 1 + 1, 2, none⟩ = some (.int .i64 cost) := fun g => Grow.cell BA3.out g 2
  refine wp_region_grow (by kernel_rfl) (by kernel_rfl) ?_
  repeat (go_big_quiet_step ((go_at_call 33; exact grow_call (rroom_is HR.out A cap _ (HE3.out.keep (Grow.below _))))))
  refine wpQuiet_nil ?_
  intro _ hw'
  obtain ⟨gq, hw''⟩ := hw'
  subst hw''
  clear gp0 gp1 gp2 gp3 gp4 gp5 gs0 gs1 gs2 gs3 ga0 ga1 ga2
  have hbq := gq.below
  have BP4 := Lib.hid (BP3.out.keep hbq)
  have BS4 := Lib.hid (BS3.out.keep hbq)
  have BA4 := Lib.hid (BA3.out.keep hbq)
  have BZ4 := Lib.hid (BZ3.out.keep hbq)
  have BT4 := Lib.hid (BT3.out.keep hbq)
  have HO4 := Lib.hid (HO3.out.keep hbq)
  have HB4w := Lib.hid (HB3.out.trans (hbq.mono HB3.out.size))
  clear hbq
  generalize gq.w = W4 at BP4 BS4 BA4 BZ4 BT4 HO4 HB4w ⊢
  have kp0 : W4.cell? ⟨w.heap.size, 0, none⟩ = some (.int .i64 p.kind) := BP4.out.cell 0
  have kp1 : W4.cell? ⟨w.heap.size, 1, none⟩ = some (.int .i64 p.limit) := BP4.out.cell 1
  have kp2 : W4.cell? ⟨w.heap.size, 2, none⟩ = some (.int .i64 p.period) := BP4.out.cell 2
  have kp3 : W4.cell? ⟨w.heap.size, 3, none⟩ = some (.int .i64 p.burst) := BP4.out.cell 3
  have kp4 : W4.cell? ⟨w.heap.size, 4, none⟩ = some (.int .i64 p.cap) := BP4.out.cell 4
  have kp5 : W4.cell? ⟨w.heap.size, 5, none⟩ = some (.bool p.opn) := BP4.out.cell 5
  have ks0 : W4.cell? ⟨w.heap.size + 1, 0, none⟩ = some (.int .i64 (s).tm) := BS4.out.cell 0
  have ks1 : W4.cell? ⟨w.heap.size + 1, 1, none⟩ = some (.int .i64 (s).level) := BS4.out.cell 1
  have ks2 : W4.cell? ⟨w.heap.size + 1, 2, none⟩ = some (.int .i64 (s).held) := BS4.out.cell 2
  have ks3 : W4.cell? ⟨w.heap.size + 1, 3, none⟩ = some (.slice A (s).log.length cap) := BS4.out.cell 3
  have ka0 : W4.cell? ⟨w.heap.size + 1 + 1, 0, none⟩ = some (.int .i64 2) := BA4.out.cell 0
  have ka1 : W4.cell? ⟨w.heap.size + 1 + 1, 1, none⟩ = some (.int .i64 now) := BA4.out.cell 1
  have ka2 : W4.cell? ⟨w.heap.size + 1 + 1, 2, none⟩ = some (.int .i64 cost) := BA4.out.cell 2
  have zt4 : w2.heap.size < W4.heap.size := BT4.out.lt
  have zn : ¬ (w.heap.size + 1 + 1 + 1 = w2.heap.size) := by omega
  have zn0 : ¬ (w.heap.size = w2.heap.size) := by omega
  have zn1 : ¬ (w.heap.size + 1 = w2.heap.size) := by omega
  have zn2 : ¬ (w.heap.size + 1 + 1 = w2.heap.size) := by omega
  have kt0 : W4.cell? ⟨w2.heap.size, 0, none⟩ = some (.int .i64 a.tm) := BT4.out.cell 0
  have kt1 : W4.cell? ⟨w2.heap.size, 1, none⟩ = some (.int .i64 a.level) := BT4.out.cell 1
  have kt2 : W4.cell? ⟨w2.heap.size, 2, none⟩ = some (.int .i64 a.held) := BT4.out.cell 2
  have kt3 : W4.cell? ⟨w2.heap.size, 3, none⟩ = some (.slice A' a.log.length c') := BT4.out.cell 3
  have ktf0 := BT4.out.free 0
  have ktf1 := BT4.out.free 1
  have ktf2 := BT4.out.free 2
  have ktf3 := BT4.out.free 3
  have HZ6 := Lib.hid (BZ4.out.far1 zn 2 (.int .i64 (a.held + cost)))
  go_upto_region 12 with (fail)
  go_wp2_with (refine wpList_store_row rfl 32 _ _ rfl (w.heap.size + 1 + 1 + 1) (scells a.tm a.level (a.held + cost) (.slice A' a.log.length c')) rfl rfl 32 _ HZ6.out st_size rfl (scells_one _ _ _ _ (slice_one _ _ _)) ?_)
  refine ret_st2 Try.results19 rfl rfl rfl (setRow_heap _ _ _ _ _ _ HZ6.out) ⟨_, _, rfl, ?_, ?_⟩
  · exact .inr (Own.mono (Own.setRow' ((HO4.out.setOther BT4.out 2 _)) (HZ6.out) _) (Nat.zero_le _))
  · exact below_setRow (HB4w.out.setCell (show w.heap.size ≤ w2.heap.size by omega) _) (by omega) _

set_option maxHeartbeats 16000000 in
set_option maxRecDepth 100000 in
theorem rdo_release (p : Pol) (s : St) (A : Option Addr) (cap : Nat) (now cost : Int) (w : World) (hA : Ents w A s.log) (a : St) (h0 : right p s = true) (ha : adv p s now = a) (hc : ¬ cost < 1) (hh : ¬ s.held < cost) (hm : cost ≤ 1048576) :
    Calls Try.prog 19 #[p.val, s.val A s.log.length cap, .agg (acells 3 now cost)] w fun e w' => ∃ A' cap', e = .returned (.tuple #[.agg (scells (⟨a.tm, a.level, a.held - cost, a.log⟩ : St).tm (⟨a.tm, a.level, a.held - cost, a.log⟩ : St).level (⟨a.tm, a.level, a.held - cost, a.log⟩ : St).held (.slice A' (⟨a.tm, a.level, a.held - cost, a.log⟩ : St).log.length cap')), .bool true]) ∧ ((A' = A ∧ cap' = cap ∧ (⟨a.tm, a.level, a.held - cost, a.log⟩ : St) = s) ∨ Sl w' 0 A' cap' (⟨a.tm, a.level, a.held - cost, a.log⟩ : St).log) ∧ Below w.heap.size w w' := by
  obtain ⟨r, hr⟩ : ∃ r, roomAt p s now = r := ⟨_, rfl⟩
  have HR := Lib.hid hr
  have g1 : decide (cost < 1) = false := by simp; omega
  have g5 : decide (s.held < cost) = false := by simp; omega
  have hc1 : 1 ≤ cost := by omega
  clear hc hh hr
  have HA := Lib.hid hA
  clear hA
  have HB4 := Lib.hid (below_four w p.box (s.box A s.log.length cap) (.cells (acells 3 now cost) 38) (.cells (scells 0 0 0 (.slice none 0 0)) 32))
  have H0 := Lib.hid h0
  have HADV := Lib.hid ha
  have HS := Lib.hid (right_ok h0)
  have HO := Lib.hid (show Ok p a by rw [← ha]; exact (right_ok h0).adv now)
  have l1 := HO.out.lim
  have l2 := HO.out.tot1
  have l3 := HO.out.held0
  have l4 := HO.out.held1
  have l5 := HO.out.n
  have l6 := HS.out.held0
  have l7 := HS.out.held1
  clear h0 ha
  unfold Pol.val St.val
  go_enter Try.func19, Try.ntmps19
  go_wp2_with fail
  refine (rright_yes H0.out A cap _ (HA.out.keep HB4.out)).mono ?_
  rintro e w1 ⟨rfl, hb1⟩
  have BP1 := Lib.hid (Box.keep (Box.alloc (Box.alloc (Box.alloc (Box.new w 23 (pcells p)) (s.box A s.log.length cap)) (.cells (acells 3 now cost) 38)) (.cells (scells 0 0 0 (.slice none 0 0)) 32)) hb1)
  have BS1 := Lib.hid (Box.keep (Box.alloc (Box.alloc (Box.new1 w 32 (scells s.tm s.level s.held (.slice A s.log.length cap)) p.box) (.cells (acells 3 now cost) 38)) (.cells (scells 0 0 0 (.slice none 0 0)) 32)) hb1)
  have BA1 := Lib.hid (show Box w1 (w.heap.size + 1 + 1) 38 (acells 3 now cost) from by unfold Box; rw [hb1.block _ (by simp)]; rw [heap_alloc_old _ _ (by simp)]; exact heap_alloc3_new _ _ _ _)
  have BZ1 := Lib.hid (show Box w1 (w.heap.size + 1 + 1 + 1) 32 (scells 0 0 0 (.slice none 0 0)) from by unfold Box; rw [hb1.block _ (by simp)]; exact (heap_alloc4 _ _ _ _ _).1)
  have ep0 : w1.cell? ⟨w.heap.size, 0, none⟩ = some (.int .i64 p.kind) := BP1.out.cell 0
  have ep1 : w1.cell? ⟨w.heap.size, 1, none⟩ = some (.int .i64 p.limit) := BP1.out.cell 1
  have ep2 : w1.cell? ⟨w.heap.size, 2, none⟩ = some (.int .i64 p.period) := BP1.out.cell 2
  have ep3 : w1.cell? ⟨w.heap.size, 3, none⟩ = some (.int .i64 p.burst) := BP1.out.cell 3
  have ep4 : w1.cell? ⟨w.heap.size, 4, none⟩ = some (.int .i64 p.cap) := BP1.out.cell 4
  have ep5 : w1.cell? ⟨w.heap.size, 5, none⟩ = some (.bool p.opn) := BP1.out.cell 5
  have es0 : w1.cell? ⟨w.heap.size + 1, 0, none⟩ = some (.int .i64 (s).tm) := BS1.out.cell 0
  have es1 : w1.cell? ⟨w.heap.size + 1, 1, none⟩ = some (.int .i64 (s).level) := BS1.out.cell 1
  have es2 : w1.cell? ⟨w.heap.size + 1, 2, none⟩ = some (.int .i64 (s).held) := BS1.out.cell 2
  have es3 : w1.cell? ⟨w.heap.size + 1, 3, none⟩ = some (.slice A (s).log.length cap) := BS1.out.cell 3
  have ea0 : w1.cell? ⟨w.heap.size + 1 + 1, 0, none⟩ = some (.int .i64 3) := BA1.out.cell 0
  have ea1 : w1.cell? ⟨w.heap.size + 1 + 1, 1, none⟩ = some (.int .i64 now) := BA1.out.cell 1
  have ea2 : w1.cell? ⟨w.heap.size + 1 + 1, 2, none⟩ = some (.int .i64 cost) := BA1.out.cell 2
  have z1 : w.heap.size + 1 + 1 + 1 < w1.heap.size := BZ1.out.lt
  have HE := Lib.hid ((HA.out.keep HB4.out).keep hb1)
  have HB1 := Lib.hid (HB4.out.trans (hb1.mono (by simp <;> omega)))
  clear hb1
  go_wp2_with fail
  refine (radv_is HADV.out A cap _ HE.out).mono ?_
  rintro e w2 ⟨v, rfl, ⟨u, rfl, ho⟩, hb2⟩
  obtain ⟨A', c', rfl, hE'⟩ := ho.ents
  have BP2 := Lib.hid (Box.keep BP1.out hb2)
  have BS2 := Lib.hid (Box.keep BS1.out hb2)
  have BA2 := Lib.hid (Box.keep BA1.out hb2)
  have BZ2 := Lib.hid (Box.keep BZ1.out hb2)
  have HE2 := Lib.hid (HE.out.keep hb2)
  have HB2 := Lib.hid (HB1.out.trans (hb2.mono HB1.out.size))
  have HO2 := Lib.hid ho
  have z2 : w.heap.size + 1 + 1 + 1 < w2.heap.size := BZ2.out.lt
  clear hE' hb2 ho ep0 ep1 ep2 ep3 ep4 ep5 es0 es1 es2 es3 ea0 ea1 ea2
  have fp0 : w2.cell? ⟨w.heap.size, 0, none⟩ = some (.int .i64 p.kind) := BP2.out.cell 0
  have fp1 : w2.cell? ⟨w.heap.size, 1, none⟩ = some (.int .i64 p.limit) := BP2.out.cell 1
  have fp2 : w2.cell? ⟨w.heap.size, 2, none⟩ = some (.int .i64 p.period) := BP2.out.cell 2
  have fp3 : w2.cell? ⟨w.heap.size, 3, none⟩ = some (.int .i64 p.burst) := BP2.out.cell 3
  have fp4 : w2.cell? ⟨w.heap.size, 4, none⟩ = some (.int .i64 p.cap) := BP2.out.cell 4
  have fp5 : w2.cell? ⟨w.heap.size, 5, none⟩ = some (.bool p.opn) := BP2.out.cell 5
  have fs0 : w2.cell? ⟨w.heap.size + 1, 0, none⟩ = some (.int .i64 (s).tm) := BS2.out.cell 0
  have fs1 : w2.cell? ⟨w.heap.size + 1, 1, none⟩ = some (.int .i64 (s).level) := BS2.out.cell 1
  have fs2 : w2.cell? ⟨w.heap.size + 1, 2, none⟩ = some (.int .i64 (s).held) := BS2.out.cell 2
  have fs3 : w2.cell? ⟨w.heap.size + 1, 3, none⟩ = some (.slice A (s).log.length cap) := BS2.out.cell 3
  have fa0 : w2.cell? ⟨w.heap.size + 1 + 1, 0, none⟩ = some (.int .i64 3) := BA2.out.cell 0
  have fa1 : w2.cell? ⟨w.heap.size + 1 + 1, 1, none⟩ = some (.int .i64 now) := BA2.out.cell 1
  have fa2 : w2.cell? ⟨w.heap.size + 1 + 1, 2, none⟩ = some (.int .i64 cost) := BA2.out.cell 2
  have y0 : w.heap.size < w2.heap.size := by omega
  have y1 : w.heap.size + 1 < w2.heap.size := by omega
  have y2 : w.heap.size + 1 + 1 < w2.heap.size := by omega
  go_wp2_with fail
  have BP3 := Lib.hid (Box.alloc BP2.out (.cells (scells a.tm a.level a.held (.slice A' a.log.length c')) 32))
  have BS3 := Lib.hid (Box.alloc BS2.out (.cells (scells a.tm a.level a.held (.slice A' a.log.length c')) 32))
  have BA3 := Lib.hid (Box.alloc BA2.out (.cells (scells a.tm a.level a.held (.slice A' a.log.length c')) 32))
  have BZ3 := Lib.hid (Box.alloc BZ2.out (.cells (scells a.tm a.level a.held (.slice A' a.log.length c')) 32))
  have BT3 := Lib.hid (Box.new w2 32 (scells a.tm a.level a.held (.slice A' a.log.length c')))
  have HE3 := Lib.hid (HE2.out.alloc (.cells (scells a.tm a.level a.held (.slice A' a.log.length c')) 32))
  have HO3 := Lib.hid (HO2.out.alloc (.cells (scells a.tm a.level a.held (.slice A' a.log.length c')) 32))
  have HB3 := Lib.hid (HB2.out.alloc HB2.out.size (.cells (scells a.tm a.level a.held (.slice A' a.log.length c')) 32))
  clear fp0 fp1 fp2 fp3 fp4 fp5 fs0 fs1 fs2 fs3 fa0 fa1 fa2
  generalize w2.alloc (.cells (scells a.tm a.level a.held (.slice A' a.log.length c')) 32) = W3 at BP3 BS3 BA3 BZ3 BT3 HE3 HO3 HB3 ⊢
  have gp0 : ∀ g : Grow W3, g.w.cell? ⟨w.heap.size, 0, none⟩ = some (.int .i64 p.kind) := fun g => Grow.cell BP3.out g 0
  have gp1 : ∀ g : Grow W3, g.w.cell? ⟨w.heap.size, 1, none⟩ = some (.int .i64 p.limit) := fun g => Grow.cell BP3.out g 1
  have gp2 : ∀ g : Grow W3, g.w.cell? ⟨w.heap.size, 2, none⟩ = some (.int .i64 p.period) := fun g => Grow.cell BP3.out g 2
  have gp3 : ∀ g : Grow W3, g.w.cell? ⟨w.heap.size, 3, none⟩ = some (.int .i64 p.burst) := fun g => Grow.cell BP3.out g 3
  have gp4 : ∀ g : Grow W3, g.w.cell? ⟨w.heap.size, 4, none⟩ = some (.int .i64 p.cap) := fun g => Grow.cell BP3.out g 4
  have gp5 : ∀ g : Grow W3, g.w.cell? ⟨w.heap.size, 5, none⟩ = some (.bool p.opn) := fun g => Grow.cell BP3.out g 5
  have gs0 : ∀ g : Grow W3, g.w.cell? ⟨w.heap.size + 1, 0, none⟩ = some (.int .i64 (s).tm) := fun g => Grow.cell BS3.out g 0
  have gs1 : ∀ g : Grow W3, g.w.cell? ⟨w.heap.size + 1, 1, none⟩ = some (.int .i64 (s).level) := fun g => Grow.cell BS3.out g 1
  have gs2 : ∀ g : Grow W3, g.w.cell? ⟨w.heap.size + 1, 2, none⟩ = some (.int .i64 (s).held) := fun g => Grow.cell BS3.out g 2
  have gs3 : ∀ g : Grow W3, g.w.cell? ⟨w.heap.size + 1, 3, none⟩ = some (.slice A (s).log.length cap) := fun g => Grow.cell BS3.out g 3
  have ga0 : ∀ g : Grow W3, g.w.cell? ⟨w.heap.size + 1 + 1, 0, none⟩ = some (.int .i64 3) := fun g => Grow.cell BA3.out g 0
  have ga1 : ∀ g : Grow W3, g.w.cell? ⟨w.heap.size + 1 + 1, 1, none⟩ = some (.int .i64 now) := fun g => Grow.cell BA3.out g 1
  have ga2 : ∀ g : Grow W3, g.w.cell? ⟨w.heap.size + 1 + 1, 2, none⟩ = some (.int .i64 cost) := fun g => Grow.cell BA3.out g 2
  refine wp_region_grow (by kernel_rfl) (by kernel_rfl) ?_
  repeat (go_big_quiet_step ((go_at_call 33; exact grow_call (rroom_is HR.out A cap _ (HE3.out.keep (Grow.below _))))))
  refine wpQuiet_nil ?_
  intro _ hw'
  obtain ⟨gq, hw''⟩ := hw'
  subst hw''
  clear gp0 gp1 gp2 gp3 gp4 gp5 gs0 gs1 gs2 gs3 ga0 ga1 ga2
  have hbq := gq.below
  have BP4 := Lib.hid (BP3.out.keep hbq)
  have BS4 := Lib.hid (BS3.out.keep hbq)
  have BA4 := Lib.hid (BA3.out.keep hbq)
  have BZ4 := Lib.hid (BZ3.out.keep hbq)
  have BT4 := Lib.hid (BT3.out.keep hbq)
  have HO4 := Lib.hid (HO3.out.keep hbq)
  have HB4w := Lib.hid (HB3.out.trans (hbq.mono HB3.out.size))
  clear hbq
  generalize gq.w = W4 at BP4 BS4 BA4 BZ4 BT4 HO4 HB4w ⊢
  have kp0 : W4.cell? ⟨w.heap.size, 0, none⟩ = some (.int .i64 p.kind) := BP4.out.cell 0
  have kp1 : W4.cell? ⟨w.heap.size, 1, none⟩ = some (.int .i64 p.limit) := BP4.out.cell 1
  have kp2 : W4.cell? ⟨w.heap.size, 2, none⟩ = some (.int .i64 p.period) := BP4.out.cell 2
  have kp3 : W4.cell? ⟨w.heap.size, 3, none⟩ = some (.int .i64 p.burst) := BP4.out.cell 3
  have kp4 : W4.cell? ⟨w.heap.size, 4, none⟩ = some (.int .i64 p.cap) := BP4.out.cell 4
  have kp5 : W4.cell? ⟨w.heap.size, 5, none⟩ = some (.bool p.opn) := BP4.out.cell 5
  have ks0 : W4.cell? ⟨w.heap.size + 1, 0, none⟩ = some (.int .i64 (s).tm) := BS4.out.cell 0
  have ks1 : W4.cell? ⟨w.heap.size + 1, 1, none⟩ = some (.int .i64 (s).level) := BS4.out.cell 1
  have ks2 : W4.cell? ⟨w.heap.size + 1, 2, none⟩ = some (.int .i64 (s).held) := BS4.out.cell 2
  have ks3 : W4.cell? ⟨w.heap.size + 1, 3, none⟩ = some (.slice A (s).log.length cap) := BS4.out.cell 3
  have ka0 : W4.cell? ⟨w.heap.size + 1 + 1, 0, none⟩ = some (.int .i64 3) := BA4.out.cell 0
  have ka1 : W4.cell? ⟨w.heap.size + 1 + 1, 1, none⟩ = some (.int .i64 now) := BA4.out.cell 1
  have ka2 : W4.cell? ⟨w.heap.size + 1 + 1, 2, none⟩ = some (.int .i64 cost) := BA4.out.cell 2
  have zt4 : w2.heap.size < W4.heap.size := BT4.out.lt
  have zn : ¬ (w.heap.size + 1 + 1 + 1 = w2.heap.size) := by omega
  have zn0 : ¬ (w.heap.size = w2.heap.size) := by omega
  have zn1 : ¬ (w.heap.size + 1 = w2.heap.size) := by omega
  have zn2 : ¬ (w.heap.size + 1 + 1 = w2.heap.size) := by omega
  have kt0 : W4.cell? ⟨w2.heap.size, 0, none⟩ = some (.int .i64 a.tm) := BT4.out.cell 0
  have kt1 : W4.cell? ⟨w2.heap.size, 1, none⟩ = some (.int .i64 a.level) := BT4.out.cell 1
  have kt2 : W4.cell? ⟨w2.heap.size, 2, none⟩ = some (.int .i64 a.held) := BT4.out.cell 2
  have kt3 : W4.cell? ⟨w2.heap.size, 3, none⟩ = some (.slice A' a.log.length c') := BT4.out.cell 3
  have ktf0 := BT4.out.free 0
  have ktf1 := BT4.out.free 1
  have ktf2 := BT4.out.free 2
  have ktf3 := BT4.out.free 3
  have HZ6 := Lib.hid (BZ4.out.far1 zn 2 (.int .i64 (a.held - cost)))
  go_upto_region 12 with (fail)
  go_wp2_with (refine wpList_store_row rfl 32 _ _ rfl (w.heap.size + 1 + 1 + 1) (scells a.tm a.level (a.held - cost) (.slice A' a.log.length c')) rfl rfl 32 _ HZ6.out st_size rfl (scells_one _ _ _ _ (slice_one _ _ _)) ?_)
  refine ret_st2 Try.results19 rfl rfl rfl (setRow_heap _ _ _ _ _ _ HZ6.out) ⟨_, _, rfl, ?_, ?_⟩
  · exact .inr (Own.mono (Own.setRow' ((HO4.out.setOther BT4.out 2 _)) (HZ6.out) _) (Nat.zero_le _))
  · exact below_setRow (HB4w.out.setCell (show w.heap.size ≤ w2.heap.size by omega) _) (by omega) _

set_option maxHeartbeats 16000000 in
set_option maxRecDepth 100000 in
theorem rdo_commit (p : Pol) (s : St) (A : Option Addr) (cap : Nat) (now cost : Int) (w : World) (hA : Ents w A s.log) (a : St) (h0 : right p s = true) (ha : adv p s now = a) (hc : ¬ cost < 1) (hh : ¬ s.held < cost) (hm : cost ≤ 1048576) :
    Calls Try.prog 19 #[p.val, s.val A s.log.length cap, .agg (acells 4 now cost)] w fun e w' => ∃ A' cap', e = .returned (.tuple #[.agg (scells (⟨a.tm, 0, a.held - cost, put p a.tm a.log cost⟩ : St).tm (⟨a.tm, 0, a.held - cost, put p a.tm a.log cost⟩ : St).level (⟨a.tm, 0, a.held - cost, put p a.tm a.log cost⟩ : St).held (.slice A' (⟨a.tm, 0, a.held - cost, put p a.tm a.log cost⟩ : St).log.length cap')), .bool true]) ∧ ((A' = A ∧ cap' = cap ∧ (⟨a.tm, 0, a.held - cost, put p a.tm a.log cost⟩ : St) = s) ∨ Sl w' 0 A' cap' (⟨a.tm, 0, a.held - cost, put p a.tm a.log cost⟩ : St).log) ∧ Below w.heap.size w w' := by
  obtain ⟨r, hr⟩ : ∃ r, roomAt p s now = r := ⟨_, rfl⟩
  have HR := Lib.hid hr
  have g1 : decide (cost < 1) = false := by simp; omega
  have g5 : decide (s.held < cost) = false := by simp; omega
  have hc1 : 1 ≤ cost := by omega
  clear hc hh hr
  have HA := Lib.hid hA
  clear hA
  have HB4 := Lib.hid (below_four w p.box (s.box A s.log.length cap) (.cells (acells 4 now cost) 38) (.cells (scells 0 0 0 (.slice none 0 0)) 32))
  have H0 := Lib.hid h0
  have HADV := Lib.hid ha
  have HS := Lib.hid (right_ok h0)
  have HO := Lib.hid (show Ok p a by rw [← ha]; exact (right_ok h0).adv now)
  have l1 := HO.out.lim
  have l2 := HO.out.tot1
  have l3 := HO.out.held0
  have l4 := HO.out.held1
  have l5 := HO.out.n
  have l6 := HS.out.held0
  have l7 := HS.out.held1
  clear h0 ha
  unfold Pol.val St.val
  go_enter Try.func19, Try.ntmps19
  go_wp2_with fail
  refine (rright_yes H0.out A cap _ (HA.out.keep HB4.out)).mono ?_
  rintro e w1 ⟨rfl, hb1⟩
  have BP1 := Lib.hid (Box.keep (Box.alloc (Box.alloc (Box.alloc (Box.new w 23 (pcells p)) (s.box A s.log.length cap)) (.cells (acells 4 now cost) 38)) (.cells (scells 0 0 0 (.slice none 0 0)) 32)) hb1)
  have BS1 := Lib.hid (Box.keep (Box.alloc (Box.alloc (Box.new1 w 32 (scells s.tm s.level s.held (.slice A s.log.length cap)) p.box) (.cells (acells 4 now cost) 38)) (.cells (scells 0 0 0 (.slice none 0 0)) 32)) hb1)
  have BA1 := Lib.hid (show Box w1 (w.heap.size + 1 + 1) 38 (acells 4 now cost) from by unfold Box; rw [hb1.block _ (by simp)]; rw [heap_alloc_old _ _ (by simp)]; exact heap_alloc3_new _ _ _ _)
  have BZ1 := Lib.hid (show Box w1 (w.heap.size + 1 + 1 + 1) 32 (scells 0 0 0 (.slice none 0 0)) from by unfold Box; rw [hb1.block _ (by simp)]; exact (heap_alloc4 _ _ _ _ _).1)
  have ep0 : w1.cell? ⟨w.heap.size, 0, none⟩ = some (.int .i64 p.kind) := BP1.out.cell 0
  have ep1 : w1.cell? ⟨w.heap.size, 1, none⟩ = some (.int .i64 p.limit) := BP1.out.cell 1
  have ep2 : w1.cell? ⟨w.heap.size, 2, none⟩ = some (.int .i64 p.period) := BP1.out.cell 2
  have ep3 : w1.cell? ⟨w.heap.size, 3, none⟩ = some (.int .i64 p.burst) := BP1.out.cell 3
  have ep4 : w1.cell? ⟨w.heap.size, 4, none⟩ = some (.int .i64 p.cap) := BP1.out.cell 4
  have ep5 : w1.cell? ⟨w.heap.size, 5, none⟩ = some (.bool p.opn) := BP1.out.cell 5
  have es0 : w1.cell? ⟨w.heap.size + 1, 0, none⟩ = some (.int .i64 (s).tm) := BS1.out.cell 0
  have es1 : w1.cell? ⟨w.heap.size + 1, 1, none⟩ = some (.int .i64 (s).level) := BS1.out.cell 1
  have es2 : w1.cell? ⟨w.heap.size + 1, 2, none⟩ = some (.int .i64 (s).held) := BS1.out.cell 2
  have es3 : w1.cell? ⟨w.heap.size + 1, 3, none⟩ = some (.slice A (s).log.length cap) := BS1.out.cell 3
  have ea0 : w1.cell? ⟨w.heap.size + 1 + 1, 0, none⟩ = some (.int .i64 4) := BA1.out.cell 0
  have ea1 : w1.cell? ⟨w.heap.size + 1 + 1, 1, none⟩ = some (.int .i64 now) := BA1.out.cell 1
  have ea2 : w1.cell? ⟨w.heap.size + 1 + 1, 2, none⟩ = some (.int .i64 cost) := BA1.out.cell 2
  have z1 : w.heap.size + 1 + 1 + 1 < w1.heap.size := BZ1.out.lt
  have HE := Lib.hid ((HA.out.keep HB4.out).keep hb1)
  have HB1 := Lib.hid (HB4.out.trans (hb1.mono (by simp <;> omega)))
  clear hb1
  go_wp2_with fail
  refine (radv_is HADV.out A cap _ HE.out).mono ?_
  rintro e w2 ⟨v, rfl, ⟨u, rfl, ho⟩, hb2⟩
  obtain ⟨A', c', rfl, hE'⟩ := ho.ents
  have BP2 := Lib.hid (Box.keep BP1.out hb2)
  have BS2 := Lib.hid (Box.keep BS1.out hb2)
  have BA2 := Lib.hid (Box.keep BA1.out hb2)
  have BZ2 := Lib.hid (Box.keep BZ1.out hb2)
  have HE2 := Lib.hid (HE.out.keep hb2)
  have HB2 := Lib.hid (HB1.out.trans (hb2.mono HB1.out.size))
  have HO2 := Lib.hid ho
  have z2 : w.heap.size + 1 + 1 + 1 < w2.heap.size := BZ2.out.lt
  clear hE' hb2 ho ep0 ep1 ep2 ep3 ep4 ep5 es0 es1 es2 es3 ea0 ea1 ea2
  have fp0 : w2.cell? ⟨w.heap.size, 0, none⟩ = some (.int .i64 p.kind) := BP2.out.cell 0
  have fp1 : w2.cell? ⟨w.heap.size, 1, none⟩ = some (.int .i64 p.limit) := BP2.out.cell 1
  have fp2 : w2.cell? ⟨w.heap.size, 2, none⟩ = some (.int .i64 p.period) := BP2.out.cell 2
  have fp3 : w2.cell? ⟨w.heap.size, 3, none⟩ = some (.int .i64 p.burst) := BP2.out.cell 3
  have fp4 : w2.cell? ⟨w.heap.size, 4, none⟩ = some (.int .i64 p.cap) := BP2.out.cell 4
  have fp5 : w2.cell? ⟨w.heap.size, 5, none⟩ = some (.bool p.opn) := BP2.out.cell 5
  have fs0 : w2.cell? ⟨w.heap.size + 1, 0, none⟩ = some (.int .i64 (s).tm) := BS2.out.cell 0
  have fs1 : w2.cell? ⟨w.heap.size + 1, 1, none⟩ = some (.int .i64 (s).level) := BS2.out.cell 1
  have fs2 : w2.cell? ⟨w.heap.size + 1, 2, none⟩ = some (.int .i64 (s).held) := BS2.out.cell 2
  have fs3 : w2.cell? ⟨w.heap.size + 1, 3, none⟩ = some (.slice A (s).log.length cap) := BS2.out.cell 3
  have fa0 : w2.cell? ⟨w.heap.size + 1 + 1, 0, none⟩ = some (.int .i64 4) := BA2.out.cell 0
  have fa1 : w2.cell? ⟨w.heap.size + 1 + 1, 1, none⟩ = some (.int .i64 now) := BA2.out.cell 1
  have fa2 : w2.cell? ⟨w.heap.size + 1 + 1, 2, none⟩ = some (.int .i64 cost) := BA2.out.cell 2
  have y0 : w.heap.size < w2.heap.size := by omega
  have y1 : w.heap.size + 1 < w2.heap.size := by omega
  have y2 : w.heap.size + 1 + 1 < w2.heap.size := by omega
  go_wp2_with fail
  have BP3 := Lib.hid (Box.alloc BP2.out (.cells (scells a.tm a.level a.held (.slice A' a.log.length c')) 32))
  have BS3 := Lib.hid (Box.alloc BS2.out (.cells (scells a.tm a.level a.held (.slice A' a.log.length c')) 32))
  have BA3 := Lib.hid (Box.alloc BA2.out (.cells (scells a.tm a.level a.held (.slice A' a.log.length c')) 32))
  have BZ3 := Lib.hid (Box.alloc BZ2.out (.cells (scells a.tm a.level a.held (.slice A' a.log.length c')) 32))
  have BT3 := Lib.hid (Box.new w2 32 (scells a.tm a.level a.held (.slice A' a.log.length c')))
  have HE3 := Lib.hid (HE2.out.alloc (.cells (scells a.tm a.level a.held (.slice A' a.log.length c')) 32))
  have HO3 := Lib.hid (HO2.out.alloc (.cells (scells a.tm a.level a.held (.slice A' a.log.length c')) 32))
  have HB3 := Lib.hid (HB2.out.alloc HB2.out.size (.cells (scells a.tm a.level a.held (.slice A' a.log.length c')) 32))
  clear fp0 fp1 fp2 fp3 fp4 fp5 fs0 fs1 fs2 fs3 fa0 fa1 fa2
  generalize w2.alloc (.cells (scells a.tm a.level a.held (.slice A' a.log.length c')) 32) = W3 at BP3 BS3 BA3 BZ3 BT3 HE3 HO3 HB3 ⊢
  have gp0 : ∀ g : Grow W3, g.w.cell? ⟨w.heap.size, 0, none⟩ = some (.int .i64 p.kind) := fun g => Grow.cell BP3.out g 0
  have gp1 : ∀ g : Grow W3, g.w.cell? ⟨w.heap.size, 1, none⟩ = some (.int .i64 p.limit) := fun g => Grow.cell BP3.out g 1
  have gp2 : ∀ g : Grow W3, g.w.cell? ⟨w.heap.size, 2, none⟩ = some (.int .i64 p.period) := fun g => Grow.cell BP3.out g 2
  have gp3 : ∀ g : Grow W3, g.w.cell? ⟨w.heap.size, 3, none⟩ = some (.int .i64 p.burst) := fun g => Grow.cell BP3.out g 3
  have gp4 : ∀ g : Grow W3, g.w.cell? ⟨w.heap.size, 4, none⟩ = some (.int .i64 p.cap) := fun g => Grow.cell BP3.out g 4
  have gp5 : ∀ g : Grow W3, g.w.cell? ⟨w.heap.size, 5, none⟩ = some (.bool p.opn) := fun g => Grow.cell BP3.out g 5
  have gs0 : ∀ g : Grow W3, g.w.cell? ⟨w.heap.size + 1, 0, none⟩ = some (.int .i64 (s).tm) := fun g => Grow.cell BS3.out g 0
  have gs1 : ∀ g : Grow W3, g.w.cell? ⟨w.heap.size + 1, 1, none⟩ = some (.int .i64 (s).level) := fun g => Grow.cell BS3.out g 1
  have gs2 : ∀ g : Grow W3, g.w.cell? ⟨w.heap.size + 1, 2, none⟩ = some (.int .i64 (s).held) := fun g => Grow.cell BS3.out g 2
  have gs3 : ∀ g : Grow W3, g.w.cell? ⟨w.heap.size + 1, 3, none⟩ = some (.slice A (s).log.length cap) := fun g => Grow.cell BS3.out g 3
  have ga0 : ∀ g : Grow W3, g.w.cell? ⟨w.heap.size + 1 + 1, 0, none⟩ = some (.int .i64 4) := fun g => Grow.cell BA3.out g 0
  have ga1 : ∀ g : Grow W3, g.w.cell? ⟨w.heap.size + 1 + 1, 1, none⟩ = some (.int .i64 now) := fun g => Grow.cell BA3.out g 1
  have ga2 : ∀ g : Grow W3, g.w.cell? ⟨w.heap.size + 1 + 1, 2, none⟩ = some (.int .i64 cost) := fun g => Grow.cell BA3.out g 2
  refine wp_region_grow (by kernel_rfl) (by kernel_rfl) ?_
  repeat (go_big_quiet_step ((go_at_call 33; exact grow_call (rroom_is HR.out A cap _ (HE3.out.keep (Grow.below _))))))
  refine wpQuiet_nil ?_
  intro _ hw'
  obtain ⟨gq, hw''⟩ := hw'
  subst hw''
  clear gp0 gp1 gp2 gp3 gp4 gp5 gs0 gs1 gs2 gs3 ga0 ga1 ga2
  have hbq := gq.below
  have BP4 := Lib.hid (BP3.out.keep hbq)
  have BS4 := Lib.hid (BS3.out.keep hbq)
  have BA4 := Lib.hid (BA3.out.keep hbq)
  have BZ4 := Lib.hid (BZ3.out.keep hbq)
  have BT4 := Lib.hid (BT3.out.keep hbq)
  have HO4 := Lib.hid (HO3.out.keep hbq)
  have HB4w := Lib.hid (HB3.out.trans (hbq.mono HB3.out.size))
  clear hbq
  generalize gq.w = W4 at BP4 BS4 BA4 BZ4 BT4 HO4 HB4w ⊢
  have kp0 : W4.cell? ⟨w.heap.size, 0, none⟩ = some (.int .i64 p.kind) := BP4.out.cell 0
  have kp1 : W4.cell? ⟨w.heap.size, 1, none⟩ = some (.int .i64 p.limit) := BP4.out.cell 1
  have kp2 : W4.cell? ⟨w.heap.size, 2, none⟩ = some (.int .i64 p.period) := BP4.out.cell 2
  have kp3 : W4.cell? ⟨w.heap.size, 3, none⟩ = some (.int .i64 p.burst) := BP4.out.cell 3
  have kp4 : W4.cell? ⟨w.heap.size, 4, none⟩ = some (.int .i64 p.cap) := BP4.out.cell 4
  have kp5 : W4.cell? ⟨w.heap.size, 5, none⟩ = some (.bool p.opn) := BP4.out.cell 5
  have ks0 : W4.cell? ⟨w.heap.size + 1, 0, none⟩ = some (.int .i64 (s).tm) := BS4.out.cell 0
  have ks1 : W4.cell? ⟨w.heap.size + 1, 1, none⟩ = some (.int .i64 (s).level) := BS4.out.cell 1
  have ks2 : W4.cell? ⟨w.heap.size + 1, 2, none⟩ = some (.int .i64 (s).held) := BS4.out.cell 2
  have ks3 : W4.cell? ⟨w.heap.size + 1, 3, none⟩ = some (.slice A (s).log.length cap) := BS4.out.cell 3
  have ka0 : W4.cell? ⟨w.heap.size + 1 + 1, 0, none⟩ = some (.int .i64 4) := BA4.out.cell 0
  have ka1 : W4.cell? ⟨w.heap.size + 1 + 1, 1, none⟩ = some (.int .i64 now) := BA4.out.cell 1
  have ka2 : W4.cell? ⟨w.heap.size + 1 + 1, 2, none⟩ = some (.int .i64 cost) := BA4.out.cell 2
  have zt4 : w2.heap.size < W4.heap.size := BT4.out.lt
  have zn : ¬ (w.heap.size + 1 + 1 + 1 = w2.heap.size) := by omega
  have zn0 : ¬ (w.heap.size = w2.heap.size) := by omega
  have zn1 : ¬ (w.heap.size + 1 = w2.heap.size) := by omega
  have zn2 : ¬ (w.heap.size + 1 + 1 = w2.heap.size) := by omega
  have kt0 : W4.cell? ⟨w2.heap.size, 0, none⟩ = some (.int .i64 a.tm) := BT4.out.cell 0
  have kt1 : W4.cell? ⟨w2.heap.size, 1, none⟩ = some (.int .i64 a.level) := BT4.out.cell 1
  have kt2 : W4.cell? ⟨w2.heap.size, 2, none⟩ = some (.int .i64 a.held) := BT4.out.cell 2
  have kt3 : W4.cell? ⟨w2.heap.size, 3, none⟩ = some (.slice A' a.log.length c') := BT4.out.cell 3
  have ktf0 := BT4.out.free 0
  have ktf1 := BT4.out.free 1
  have ktf2 := BT4.out.free 2
  have ktf3 := BT4.out.free 3
  have BZL := Lib.hid (BZ4.out.far1 zn 2 (.int .i64 (a.held - cost)))
  have BTL := Lib.hid (show Box (W4.setCell ⟨w2.heap.size, 2, none⟩ (.int .i64 (a.held - cost))) w2.heap.size 32 (scells a.tm a.level (a.held - cost) (.slice A' a.log.length c')) from heap_setCell_same _ _ 2 _ _ _ BT4.out)
  have HBL := Lib.hid (show Below w.heap.size w (W4.setCell ⟨w2.heap.size, 2, none⟩ (.int .i64 (a.held - cost))) from HB4w.out.setCell (show w.heap.size ≤ w2.heap.size by omega) _)
  have HOL := Lib.hid (HO4.out.setOther BT4.out 2 (.int .i64 (a.held - cost)))
  go_wp2_with fail
  refine (rlogged_calls p { a with held := a.held - cost } (.slice A' a.log.length c') cost _ _ HOL.out (by show a.log.length ≤ 1000; omega) (fun e he => by have := HO.out.costs2 e he; omega) ⟨by omega, by omega⟩).mono ?_
  rintro e w5 ⟨v5, rfl, ⟨u5, rfl, ho5⟩, hb5⟩
  obtain ⟨A5, c5, rfl, hE5⟩ := ho5.ents
  have BZ5 := Lib.hid (BZL.out.keep hb5)
  have BT5 := Lib.hid (BTL.out.keep hb5)
  have HB5 := Lib.hid (HBL.out.trans (hb5.mono HBL.out.size))
  have HO5 := Lib.hid ho5
  have zt5 : w2.heap.size < w5.heap.size := BT5.out.lt
  clear hE5 hb5 ho5
  have mt0 : w5.cell? ⟨w2.heap.size, 0, none⟩ = some (.int .i64 a.tm) := BT5.out.cell 0
  have mt1 : w5.cell? ⟨w2.heap.size, 1, none⟩ = some (.int .i64 a.level) := BT5.out.cell 1
  have mt2 : w5.cell? ⟨w2.heap.size, 2, none⟩ = some (.int .i64 (a.held - cost)) := BT5.out.cell 2
  have mt3 : w5.cell? ⟨w2.heap.size, 3, none⟩ = some (.slice A' a.log.length c') := BT5.out.cell 3
  have mtf0 := BT5.out.free 0
  have mtf1 := BT5.out.free 1
  have mtf2 := BT5.out.free 2
  have mtf3 := BT5.out.free 3
  have HZ6 := Lib.hid (BZ5.out.far4 zn (.int .i64 a.tm) (.int .i64 0) (.int .i64 (a.held - cost)) (.slice A5 (put p a.tm a.log cost).length c5))
  go_upto_region 12 with (fail)
  go_wp2_with (refine wpList_store_row rfl 32 _ _ rfl (w.heap.size + 1 + 1 + 1) (scells a.tm 0 (a.held - cost) (.slice A5 (put p a.tm a.log cost).length c5)) rfl rfl 32 _ HZ6.out st_size rfl (scells_one _ _ _ _ (slice_one _ _ _)) ?_)
  refine ret_st2 Try.results19 rfl rfl rfl (setRow_heap _ _ _ _ _ _ HZ6.out) ⟨_, _, rfl, ?_, ?_⟩
  · exact .inr (Own.mono ((HO5.out.set4 (by simpa using zt4) _ _ _ _).setRow (show w.heap.size + 1 + 1 + 1 < _ from by simp; omega) _) (Nat.zero_le _))
  · exact below_setRow (below_set4 HB5.out (by omega) _ _ _ _) (by omega) _
end Wn
end Go.Proofs.Ytljaemiggeeghaa
