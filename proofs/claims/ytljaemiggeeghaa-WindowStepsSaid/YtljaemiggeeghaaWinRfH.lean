/-
  What the document's own Until and Retry answer, in any world.
-/
import Derived.Test.YtljaemiggeeghaaWinRfF
import Derived.Test.YtljaemiggeeghaaWinRfM
namespace Go.Proofs.Ytljaemiggeeghaa
open Go.RowKit
attribute [local go_sem ↓] Go.wp_at_zero Go.wp_at_succ
namespace Wn


set_option maxHeartbeats 16000000 in
set_option maxRecDepth 100000 in
theorem runtil_zero (p : Pol) (s : St) (A : Option Addr) (cap : Nat) (now : Int) (w : World) (hA : Ents w A s.log) (h0 : right p s = false) :
    Calls Try.prog 34 #[p.val, s.val A s.log.length cap, .int .i64 now] w fun e w' => e = .returned (.int .i64 (-1)) ∧ Below w.heap.size w w' := by
  have HA := Lib.hid hA
  clear hA
  have HB0 := Lib.hid (below_two w p.box (s.box A s.log.length cap))
  have H0 := Lib.hid h0
  clear h0
  unfold Pol.val St.val
  go_enter Try.func34, Try.ntmps34
  go_wp2_with fail
  refine (rright_no H0.out A cap _ (HA.out.keep HB0.out)).mono ?_
  rintro e w1 ⟨rfl, hb1⟩
  have HB1 := Lib.hid (HB0.out.trans (hb1.mono (by simp; omega)))
  clear hb1
  go_wp2_with fail
  go_ret
  exact ⟨rfl, HB1.out⟩

set_option maxHeartbeats 16000000 in
set_option maxRecDepth 100000 in
theorem runtil_held (p : Pol) (s : St) (A : Option Addr) (cap : Nat) (now : Int) (w : World) (hA : Ents w A s.log) (h0 : right p s = true) (hh : s.held > 0) :
    Calls Try.prog 34 #[p.val, s.val A s.log.length cap, .int .i64 now] w fun e w' => e = .returned (.int .i64 (-1)) ∧ Below w.heap.size w w' := by
  have g1 : decide (0 < s.held) = true := by simp; omega
  clear hh
  have HA := Lib.hid hA
  clear hA
  have HB0 := Lib.hid (below_two w p.box (s.box A s.log.length cap))
  have H0 := Lib.hid h0
  clear h0
  unfold Pol.val St.val
  go_enter Try.func34, Try.ntmps34
  go_wp2_with fail
  refine (rright_yes H0.out A cap _ (HA.out.keep HB0.out)).mono ?_
  rintro e w1 ⟨rfl, hb1⟩
  have BP1 := Lib.hid (Box.keep (Box.alloc (Box.new w 23 (pcells p)) (s.box A s.log.length cap)) hb1)
  have BS1 := Lib.hid (Box.keep (Box.new1 w 32 (scells s.tm s.level s.held (.slice A s.log.length cap)) p.box) hb1)
  have z1 : w.heap.size + 1 < w1.heap.size := BS1.out.lt
  have HE1 := Lib.hid ((HA.out.keep HB0.out).keep hb1)
  have HB1 := Lib.hid (HB0.out.trans (hb1.mono (by simp; omega)))
  clear hb1
  have ep0 : w1.cell? ⟨w.heap.size, 0, none⟩ = some (.int .i64 p.kind) := BP1.out.cell 0
  have ep1 : w1.cell? ⟨w.heap.size, 1, none⟩ = some (.int .i64 p.limit) := BP1.out.cell 1
  have ep2 : w1.cell? ⟨w.heap.size, 2, none⟩ = some (.int .i64 p.period) := BP1.out.cell 2
  have ep3 : w1.cell? ⟨w.heap.size, 3, none⟩ = some (.int .i64 p.burst) := BP1.out.cell 3
  have ep4 : w1.cell? ⟨w.heap.size, 4, none⟩ = some (.int .i64 p.cap) := BP1.out.cell 4
  have ep5 : w1.cell? ⟨w.heap.size, 5, none⟩ = some (.bool p.opn) := BP1.out.cell 5
  have es0 : w1.cell? ⟨w.heap.size + 1, 0, none⟩ = some (.int .i64 (s).tm) := BS1.out.cell 0
  have es1 : w1.cell? ⟨w.heap.size + 1, 1, none⟩ = some (.int .i64 (s).level) := BS1.out.cell 1
  have es2 : w1.cell? ⟨w.heap.size + 1, 2, none⟩ = some (.int .i64 (s).held) := BS1.out.cell 2
  have es3 : w1.cell? ⟨w.heap.size + 1, 3, none⟩ = some (.slice A (s).log.length cap) := BS1.out.cell 3
  go_wp2_with fail
  go_ret
  exact ⟨rfl, HB1.out⟩

set_option maxHeartbeats 16000000 in
set_option maxRecDepth 100000 in
theorem runtil_max (p : Pol) (s : St) (A : Option Addr) (cap : Nat) (now : Int) (a : St) (w : World) (hA : Ents w A s.log) (h0 : right p s = true) (hh : ¬ s.held > 0) (ha : adv p s now = a) :
    Calls Try.prog 34 #[p.val, s.val A s.log.length cap, .int .i64 now] w fun e w' => e = .returned (.int .i64 (maxl p.period a.tm a.log)) ∧ Below w.heap.size w w' := by
  have g1 : decide (0 < s.held) = false := by simp; omega
  have HADV := Lib.hid ha
  have HO := Lib.hid (show Ok p a by rw [← ha]; exact (right_ok h0).adv now)
  have l1 := HO.out.lim
  have l3 := HO.out.held0
  have l4 := HO.out.held1
  have l5 := HO.out.n
  have l6 := HO.out.tm0
  have l7 := HO.out.tm1
  have l8 := HO.out.per
  clear hh ha
  have HA := Lib.hid hA
  clear hA
  have HB0 := Lib.hid (below_two w p.box (s.box A s.log.length cap))
  have H0 := Lib.hid h0
  clear h0
  unfold Pol.val St.val
  go_enter Try.func34, Try.ntmps34
  go_wp2_with fail
  refine (rright_yes H0.out A cap _ (HA.out.keep HB0.out)).mono ?_
  rintro e w1 ⟨rfl, hb1⟩
  have BP1 := Lib.hid (Box.keep (Box.alloc (Box.new w 23 (pcells p)) (s.box A s.log.length cap)) hb1)
  have BS1 := Lib.hid (Box.keep (Box.new1 w 32 (scells s.tm s.level s.held (.slice A s.log.length cap)) p.box) hb1)
  have z1 : w.heap.size + 1 < w1.heap.size := BS1.out.lt
  have HE1 := Lib.hid ((HA.out.keep HB0.out).keep hb1)
  have HB1 := Lib.hid (HB0.out.trans (hb1.mono (by simp; omega)))
  clear hb1
  have ep0 : w1.cell? ⟨w.heap.size, 0, none⟩ = some (.int .i64 p.kind) := BP1.out.cell 0
  have ep1 : w1.cell? ⟨w.heap.size, 1, none⟩ = some (.int .i64 p.limit) := BP1.out.cell 1
  have ep2 : w1.cell? ⟨w.heap.size, 2, none⟩ = some (.int .i64 p.period) := BP1.out.cell 2
  have ep3 : w1.cell? ⟨w.heap.size, 3, none⟩ = some (.int .i64 p.burst) := BP1.out.cell 3
  have ep4 : w1.cell? ⟨w.heap.size, 4, none⟩ = some (.int .i64 p.cap) := BP1.out.cell 4
  have ep5 : w1.cell? ⟨w.heap.size, 5, none⟩ = some (.bool p.opn) := BP1.out.cell 5
  have es0 : w1.cell? ⟨w.heap.size + 1, 0, none⟩ = some (.int .i64 (s).tm) := BS1.out.cell 0
  have es1 : w1.cell? ⟨w.heap.size + 1, 1, none⟩ = some (.int .i64 (s).level) := BS1.out.cell 1
  have es2 : w1.cell? ⟨w.heap.size + 1, 2, none⟩ = some (.int .i64 (s).held) := BS1.out.cell 2
  have es3 : w1.cell? ⟨w.heap.size + 1, 3, none⟩ = some (.slice A (s).log.length cap) := BS1.out.cell 3
  go_wp2_with fail
  refine (radv_is HADV.out A cap _ HE1.out).mono ?_
  rintro e w2 ⟨v, rfl, ⟨u, rfl, ho⟩, hb2⟩
  obtain ⟨A', c', rfl, hE'⟩ := ho.ents
  have BP3 := Lib.hid (Box.alloc (Box.keep BP1.out hb2) (.cells (scells a.tm a.level a.held (.slice A' a.log.length c')) 32))
  have BT3 := Lib.hid (Box.new w2 32 (scells a.tm a.level a.held (.slice A' a.log.length c')))
  have HE3 := Lib.hid (hE'.alloc (.cells (scells a.tm a.level a.held (.slice A' a.log.length c')) 32))
  have HB3 := Lib.hid ((HB1.out.trans (hb2.mono HB1.out.size)).alloc (Nat.le_trans HB1.out.size hb2.size) (.cells (scells a.tm a.level a.held (.slice A' a.log.length c')) 32))
  have z2 : w.heap.size + 1 < w2.heap.size := Nat.lt_of_lt_of_le z1 hb2.size
  clear hE' hb2 ho ep0 ep1 ep2 ep3 ep4 ep5 es0 es1 es2 es3
  go_wp2_with fail
  generalize w2.alloc (.cells (scells a.tm a.level a.held (.slice A' a.log.length c')) 32) = W3 at BP3 BT3 HE3 HB3 ⊢
  go_loopw [8, 9] (fun acc i wr => ∃ k n : Nat, k ≤ a.log.length ∧ i = .int .i64 k ∧ acc = .int .i64 (maxl p.period a.tm (a.log.take k)) ∧ wr = W3.drewN n) (fun _ i _ => a.log.length - (intOf i).toNat)
  case atStart => exact ⟨0, 0, Nat.zero_le _, rfl, rfl, rfl⟩
  case round =>
    obtain ⟨k, n, hk, rfl, rfl, rfl⟩ := hrel
    have d3 : W3.cell? ⟨w2.heap.size, 3, none⟩ = some (.slice A' a.log.length c') := BT3.out.cell 3
    have d0 : W3.cell? ⟨w2.heap.size, 0, none⟩ = some (.int .i64 a.tm) := BT3.out.cell 0
    have e2 : W3.cell? ⟨w.heap.size, 2, none⟩ = some (.int .i64 p.period) := BP3.out.cell 2
    by_cases hlt : k < a.log.length
    · obtain ⟨ad, rfl, c1, c2⟩ := HE3.out.at_ hlt
      have i1 : (k : Int) < (a.log.length : Int) := by omega
      have be := HO.out.ent _ (List.getElem_mem hlt)
      have HM := Lib.hid (maxl_take p.period a.tm a.log k hlt)
      have j1 : IntKind.i64.wrap (a.log[k].1 + p.period) = a.log[k].1 + p.period := IntWalk.i64_in _ (by omega)
      have j2 : IntKind.i64.wrap (a.log[k].1 + p.period - a.tm) = a.log[k].1 + p.period - a.tm := IntWalk.i64_in _ (by omega)
      by_cases hm : maxl p.period a.tm (a.log.take k) < a.log[k].1 + p.period - a.tm
      · have hmx : (if maxl p.period a.tm (a.log.take k) < a.log[k].1 + p.period - a.tm then a.log[k].1 + p.period - a.tm else maxl p.period a.tm (a.log.take k)) = a.log[k].1 + p.period - a.tm := by simp [hm]
        have HV := Lib.hid (show maxl p.period a.tm (a.log.take (k + 1)) = a.log[k].1 + p.period - a.tm by rw [HM.out, if_pos hm])
        clear be
        go_wp2_with fail
        go_quiet (fail)
        clear j1 j2 hmx
        go_wp2_with fail
        go_roundw
        case rel => exact ⟨k + 1, n + nq, by omega, by go_num, val_int HV.out.symm, rfl⟩
        case measure => simp [intOf]; omega
      · have hmx : (if maxl p.period a.tm (a.log.take k) < a.log[k].1 + p.period - a.tm then a.log[k].1 + p.period - a.tm else maxl p.period a.tm (a.log.take k)) = maxl p.period a.tm (a.log.take k) := by simp [hm]
        have HV := Lib.hid (show maxl p.period a.tm (a.log.take (k + 1)) = maxl p.period a.tm (a.log.take k) by rw [HM.out, if_neg hm])
        clear be
        go_wp2_with fail
        go_quiet (fail)
        clear j1 j2 hmx
        go_wp2_with fail
        go_roundw
        case rel => exact ⟨k + 1, n + nq, by omega, by go_num, val_int HV.out.symm, rfl⟩
        case measure => simp [intOf]; omega
    · go_wp2
      go_ret
      exact ⟨by rw [List.take_of_length_le (by omega)]; rfl, below_drewN HB3.out _⟩

theorem runtil_calls (p : Pol) (s : St) (A : Option Addr) (cap : Nat) (now : Int) (w : World) (hA : Ents w A s.log) :
    Calls Try.prog 34 #[p.val, s.val A s.log.length cap, .int .i64 now] w fun e w' => e = .returned (.int .i64 (untilAt p s now)) ∧ Below w.heap.size w w' := by
  cases h0 : right p s with
  | false =>
    rw [show untilAt p s now = -1 by simp [untilAt, h0]]; exact runtil_zero p s A cap now w hA h0
  | true =>
    by_cases hh : s.held > 0
    · rw [until_held (right_ok h0) hh now]; exact runtil_held p s A cap now w hA h0 hh
    · rw [until_maxl (right_ok h0) rfl hh]; exact runtil_max p s A cap now _ w hA h0 hh rfl

set_option maxHeartbeats 16000000 in
set_option maxRecDepth 100000 in
theorem rretry_zero (p : Pol) (s : St) (A : Option Addr) (cap : Nat) (now cost : Int) (w : World) (hA : Ents w A s.log) (h0 : right p s = false) :
    Calls Try.prog 30 #[p.val, s.val A s.log.length cap, .int .i64 now, .int .i64 cost] w fun e w' => e = .returned (.tuple #[.int .i64 0, .bool false]) ∧ Below w.heap.size w w' := by
  have HA := Lib.hid hA
  clear hA
  have HB0 := Lib.hid (below_two w p.box (s.box A s.log.length cap))
  have H0 := Lib.hid h0
  clear h0
  unfold Pol.val St.val
  go_enter Try.func30, Try.ntmps30
  go_wp2_with fail
  refine (rright_no H0.out A cap _ (HA.out.keep HB0.out)).mono ?_
  rintro e w1 ⟨rfl, hb1⟩
  have HB1 := Lib.hid (HB0.out.trans (hb1.mono (by simp; omega)))
  clear hb1
  go_wp2_with fail
  go_ret2
  exact ⟨rfl, HB1.out⟩

set_option maxHeartbeats 16000000 in
set_option maxRecDepth 100000 in
theorem rretry_low (p : Pol) (s : St) (A : Option Addr) (cap : Nat) (now cost : Int) (w : World) (hA : Ents w A s.log) (h0 : right p s = true) (hc : cost < 1) :
    Calls Try.prog 30 #[p.val, s.val A s.log.length cap, .int .i64 now, .int .i64 cost] w fun e w' => e = .returned (.tuple #[.int .i64 0, .bool false]) ∧ Below w.heap.size w w' := by
  have g1 : decide (cost < 1) = true := by simp; omega
  clear hc
  have HA := Lib.hid hA
  clear hA
  have HB0 := Lib.hid (below_two w p.box (s.box A s.log.length cap))
  have H0 := Lib.hid h0
  clear h0
  unfold Pol.val St.val
  go_enter Try.func30, Try.ntmps30
  go_wp2_with fail
  refine (rright_yes H0.out A cap _ (HA.out.keep HB0.out)).mono ?_
  rintro e w1 ⟨rfl, hb1⟩
  have BP1 := Lib.hid (Box.keep (Box.alloc (Box.new w 23 (pcells p)) (s.box A s.log.length cap)) hb1)
  have BS1 := Lib.hid (Box.keep (Box.new1 w 32 (scells s.tm s.level s.held (.slice A s.log.length cap)) p.box) hb1)
  have z1 : w.heap.size + 1 < w1.heap.size := BS1.out.lt
  have HE1 := Lib.hid ((HA.out.keep HB0.out).keep hb1)
  have HB1 := Lib.hid (HB0.out.trans (hb1.mono (by simp; omega)))
  clear hb1
  have ep0 : w1.cell? ⟨w.heap.size, 0, none⟩ = some (.int .i64 p.kind) := BP1.out.cell 0
  have ep1 : w1.cell? ⟨w.heap.size, 1, none⟩ = some (.int .i64 p.limit) := BP1.out.cell 1
  have ep2 : w1.cell? ⟨w.heap.size, 2, none⟩ = some (.int .i64 p.period) := BP1.out.cell 2
  have ep3 : w1.cell? ⟨w.heap.size, 3, none⟩ = some (.int .i64 p.burst) := BP1.out.cell 3
  have ep4 : w1.cell? ⟨w.heap.size, 4, none⟩ = some (.int .i64 p.cap) := BP1.out.cell 4
  have ep5 : w1.cell? ⟨w.heap.size, 5, none⟩ = some (.bool p.opn) := BP1.out.cell 5
  have es0 : w1.cell? ⟨w.heap.size + 1, 0, none⟩ = some (.int .i64 (s).tm) := BS1.out.cell 0
  have es1 : w1.cell? ⟨w.heap.size + 1, 1, none⟩ = some (.int .i64 (s).level) := BS1.out.cell 1
  have es2 : w1.cell? ⟨w.heap.size + 1, 2, none⟩ = some (.int .i64 (s).held) := BS1.out.cell 2
  have es3 : w1.cell? ⟨w.heap.size + 1, 3, none⟩ = some (.slice A (s).log.length cap) := BS1.out.cell 3
  go_wp2_with fail
  go_ret2
  exact ⟨rfl, HB1.out⟩

set_option maxHeartbeats 16000000 in
set_option maxRecDepth 100000 in
theorem rretry_much (p : Pol) (s : St) (A : Option Addr) (cap : Nat) (now cost : Int) (w : World) (hA : Ents w A s.log) (h0 : right p s = true) (hc : ¬ cost < 1) (hm : p.limit - s.held < cost) :
    Calls Try.prog 30 #[p.val, s.val A s.log.length cap, .int .i64 now, .int .i64 cost] w fun e w' => e = .returned (.tuple #[.int .i64 0, .bool false]) ∧ Below w.heap.size w w' := by
  have g1 : decide (cost < 1) = false := by simp; omega
  have g2 : decide (p.limit - s.held < cost) = true := by simp; omega
  have HS := Lib.hid (right_ok h0)
  have l1 := HS.out.lim
  have l2 := HS.out.held0
  have l3 := HS.out.held1
  clear hc hm
  have HA := Lib.hid hA
  clear hA
  have HB0 := Lib.hid (below_two w p.box (s.box A s.log.length cap))
  have H0 := Lib.hid h0
  clear h0
  unfold Pol.val St.val
  go_enter Try.func30, Try.ntmps30
  go_wp2_with fail
  refine (rright_yes H0.out A cap _ (HA.out.keep HB0.out)).mono ?_
  rintro e w1 ⟨rfl, hb1⟩
  have BP1 := Lib.hid (Box.keep (Box.alloc (Box.new w 23 (pcells p)) (s.box A s.log.length cap)) hb1)
  have BS1 := Lib.hid (Box.keep (Box.new1 w 32 (scells s.tm s.level s.held (.slice A s.log.length cap)) p.box) hb1)
  have z1 : w.heap.size + 1 < w1.heap.size := BS1.out.lt
  have HE1 := Lib.hid ((HA.out.keep HB0.out).keep hb1)
  have HB1 := Lib.hid (HB0.out.trans (hb1.mono (by simp; omega)))
  clear hb1
  have ep0 : w1.cell? ⟨w.heap.size, 0, none⟩ = some (.int .i64 p.kind) := BP1.out.cell 0
  have ep1 : w1.cell? ⟨w.heap.size, 1, none⟩ = some (.int .i64 p.limit) := BP1.out.cell 1
  have ep2 : w1.cell? ⟨w.heap.size, 2, none⟩ = some (.int .i64 p.period) := BP1.out.cell 2
  have ep3 : w1.cell? ⟨w.heap.size, 3, none⟩ = some (.int .i64 p.burst) := BP1.out.cell 3
  have ep4 : w1.cell? ⟨w.heap.size, 4, none⟩ = some (.int .i64 p.cap) := BP1.out.cell 4
  have ep5 : w1.cell? ⟨w.heap.size, 5, none⟩ = some (.bool p.opn) := BP1.out.cell 5
  have es0 : w1.cell? ⟨w.heap.size + 1, 0, none⟩ = some (.int .i64 (s).tm) := BS1.out.cell 0
  have es1 : w1.cell? ⟨w.heap.size + 1, 1, none⟩ = some (.int .i64 (s).level) := BS1.out.cell 1
  have es2 : w1.cell? ⟨w.heap.size + 1, 2, none⟩ = some (.int .i64 (s).held) := BS1.out.cell 2
  have es3 : w1.cell? ⟨w.heap.size + 1, 3, none⟩ = some (.slice A (s).log.length cap) := BS1.out.cell 3
  go_wp2_with fail
  go_ret2
  exact ⟨rfl, HB1.out⟩

set_option maxHeartbeats 16000000 in
set_option maxRecDepth 100000 in
theorem rretry_now (p : Pol) (s : St) (A : Option Addr) (cap : Nat) (now cost : Int) (a : St) (w : World) (hA : Ents w A s.log) (h0 : right p s = true) (hc : ¬ cost < 1) (hm : ¬ p.limit - s.held < cost) (ha : adv p s now = a) (hn : a.held + usedl p.period a.tm a.log + cost ≤ p.limit) :
    Calls Try.prog 30 #[p.val, s.val A s.log.length cap, .int .i64 now, .int .i64 cost] w fun e w' => e = .returned (.tuple #[.int .i64 0, .bool true]) ∧ Below w.heap.size w w' := by
  have g1 : decide (cost < 1) = false := by simp; omega
  have g2 : decide (p.limit - s.held < cost) = false := by simp; omega
  have hcl : 1 ≤ cost ∧ cost ≤ 1048576 := by have := (right_ok h0).lim; have := (right_ok h0).held0; omega
  have HS := Lib.hid (right_ok h0)
  have l9 := HS.out.held0
  have l10 := HS.out.held1
  have HADV := Lib.hid ha
  have HO := Lib.hid (show Ok p a by rw [← ha]; exact (right_ok h0).adv now)
  have l1 := HO.out.lim
  have l3 := HO.out.held0
  have l4 := HO.out.held1
  have l5 := HO.out.n
  have l6 := HO.out.tm0
  have l7 := HO.out.tm1
  have l8 := HO.out.per
  clear hc hm ha
  have HA := Lib.hid hA
  clear hA
  have HB0 := Lib.hid (below_two w p.box (s.box A s.log.length cap))
  have H0 := Lib.hid h0
  clear h0
  unfold Pol.val St.val
  go_enter Try.func30, Try.ntmps30
  go_wp2_with fail
  refine (rright_yes H0.out A cap _ (HA.out.keep HB0.out)).mono ?_
  rintro e w1 ⟨rfl, hb1⟩
  have BP1 := Lib.hid (Box.keep (Box.alloc (Box.new w 23 (pcells p)) (s.box A s.log.length cap)) hb1)
  have BS1 := Lib.hid (Box.keep (Box.new1 w 32 (scells s.tm s.level s.held (.slice A s.log.length cap)) p.box) hb1)
  have z1 : w.heap.size + 1 < w1.heap.size := BS1.out.lt
  have HE1 := Lib.hid ((HA.out.keep HB0.out).keep hb1)
  have HB1 := Lib.hid (HB0.out.trans (hb1.mono (by simp; omega)))
  clear hb1
  have ep0 : w1.cell? ⟨w.heap.size, 0, none⟩ = some (.int .i64 p.kind) := BP1.out.cell 0
  have ep1 : w1.cell? ⟨w.heap.size, 1, none⟩ = some (.int .i64 p.limit) := BP1.out.cell 1
  have ep2 : w1.cell? ⟨w.heap.size, 2, none⟩ = some (.int .i64 p.period) := BP1.out.cell 2
  have ep3 : w1.cell? ⟨w.heap.size, 3, none⟩ = some (.int .i64 p.burst) := BP1.out.cell 3
  have ep4 : w1.cell? ⟨w.heap.size, 4, none⟩ = some (.int .i64 p.cap) := BP1.out.cell 4
  have ep5 : w1.cell? ⟨w.heap.size, 5, none⟩ = some (.bool p.opn) := BP1.out.cell 5
  have es0 : w1.cell? ⟨w.heap.size + 1, 0, none⟩ = some (.int .i64 (s).tm) := BS1.out.cell 0
  have es1 : w1.cell? ⟨w.heap.size + 1, 1, none⟩ = some (.int .i64 (s).level) := BS1.out.cell 1
  have es2 : w1.cell? ⟨w.heap.size + 1, 2, none⟩ = some (.int .i64 (s).held) := BS1.out.cell 2
  have es3 : w1.cell? ⟨w.heap.size + 1, 3, none⟩ = some (.slice A (s).log.length cap) := BS1.out.cell 3
  go_wp2_with fail
  refine (radv_is HADV.out A cap _ HE1.out).mono ?_
  rintro e w2 ⟨v, rfl, ⟨u, rfl, ho⟩, hb2⟩
  obtain ⟨A', c', rfl, hE'⟩ := ho.ents
  have BP3 := Lib.hid (Box.alloc (Box.keep BP1.out hb2) (.cells (scells a.tm a.level a.held (.slice A' a.log.length c')) 32))
  have BT3 := Lib.hid (Box.new w2 32 (scells a.tm a.level a.held (.slice A' a.log.length c')))
  have HE3 := Lib.hid (hE'.alloc (.cells (scells a.tm a.level a.held (.slice A' a.log.length c')) 32))
  have HB3 := Lib.hid ((HB1.out.trans (hb2.mono HB1.out.size)).alloc (Nat.le_trans HB1.out.size hb2.size) (.cells (scells a.tm a.level a.held (.slice A' a.log.length c')) 32))
  have z2 : w.heap.size + 1 < w2.heap.size := Nat.lt_of_lt_of_le z1 hb2.size
  clear hE' hb2 ho ep0 ep1 ep2 ep3 ep4 ep5 es0 es1 es2 es3
  have ub := usedl_bounds (per := p.period) (t := a.tm) HO.out.costs2
  have u0 : 0 ≤ usedl p.period a.tm a.log := ub.1
  have u1 : usedl p.period a.tm a.log ≤ 104857600 := by omega
  have q1 : IntKind.i64.wrap (a.held + usedl p.period a.tm a.log) = a.held + usedl p.period a.tm a.log := IntWalk.i64_in _ (by omega)
  have q2 : IntKind.i64.wrap (a.held + usedl p.period a.tm a.log + cost) = a.held + usedl p.period a.tm a.log + cost := IntWalk.i64_in _ (by omega)
  have g3 : decide (a.held + usedl p.period a.tm a.log + cost ≤ p.limit) = true := by simp; omega
  clear ub hn
  go_wp2_with fail
  generalize w2.alloc (.cells (scells a.tm a.level a.held (.slice A' a.log.length c')) 32) = W3 at BP3 BT3 HE3 HB3 ⊢
  have gp0 : ∀ g : Grow W3, g.w.cell? ⟨w.heap.size, 0, none⟩ = some (.int .i64 p.kind) := fun g => Grow.cell BP3.out g 0
  have gp1 : ∀ g : Grow W3, g.w.cell? ⟨w.heap.size, 1, none⟩ = some (.int .i64 p.limit) := fun g => Grow.cell BP3.out g 1
  have gp2 : ∀ g : Grow W3, g.w.cell? ⟨w.heap.size, 2, none⟩ = some (.int .i64 p.period) := fun g => Grow.cell BP3.out g 2
  have gp3 : ∀ g : Grow W3, g.w.cell? ⟨w.heap.size, 3, none⟩ = some (.int .i64 p.burst) := fun g => Grow.cell BP3.out g 3
  have gp4 : ∀ g : Grow W3, g.w.cell? ⟨w.heap.size, 4, none⟩ = some (.int .i64 p.cap) := fun g => Grow.cell BP3.out g 4
  have gp5 : ∀ g : Grow W3, g.w.cell? ⟨w.heap.size, 5, none⟩ = some (.bool p.opn) := fun g => Grow.cell BP3.out g 5
  have gt0 : ∀ g : Grow W3, g.w.cell? ⟨w2.heap.size, 0, none⟩ = some (.int .i64 a.tm) := fun g => Grow.cell BT3.out g 0
  have gt1 : ∀ g : Grow W3, g.w.cell? ⟨w2.heap.size, 1, none⟩ = some (.int .i64 a.level) := fun g => Grow.cell BT3.out g 1
  have gt2 : ∀ g : Grow W3, g.w.cell? ⟨w2.heap.size, 2, none⟩ = some (.int .i64 a.held) := fun g => Grow.cell BT3.out g 2
  have gt3 : ∀ g : Grow W3, g.w.cell? ⟨w2.heap.size, 3, none⟩ = some (.slice A' a.log.length c') := fun g => Grow.cell BT3.out g 3
  refine wp_region_grow (by kernel_rfl) (by kernel_rfl) ?_
  repeat (go_big_quiet_step ((go_at_call 43; exact grow_call (used_calls p a A' c' a.tm _ (HE3.out.keep (Grow.below _)) HO.out.costs2 (by omega) (by omega) (by omega) l8.1 l8.2))))
  refine wpQuiet_nil ?_
  intro _ hw'
  obtain ⟨gq, hw''⟩ := hw'
  subst hw''
  clear q1 q2 u0 u1 gp0 gp1 gp2 gp3 gp4 gp5 gt0 gt1 gt2 gt3
  have hbq := gq.below
  have BP4 := Lib.hid (BP3.out.keep hbq)
  have BT4 := Lib.hid (BT3.out.keep hbq)
  have HE4 := Lib.hid (HE3.out.keep hbq)
  have HB4 := Lib.hid (HB3.out.trans (hbq.mono HB3.out.size))
  clear hbq
  generalize gq.w = W4 at BP4 BT4 HE4 HB4 ⊢
  go_wp2_with fail
  go_ret2
  exact ⟨rfl, HB4.out⟩

set_option maxHeartbeats 16000000 in
set_option maxRecDepth 100000 in
theorem rretry_wait (p : Pol) (s : St) (A : Option Addr) (cap : Nat) (now cost : Int) (a : St) (W : Int) (w : World) (hA : Ents w A s.log) (h0 : right p s = true) (hc : ¬ cost < 1) (hm : ¬ p.limit - s.held < cost) (ha : adv p s now = a) (hn : ¬ a.held + usedl p.period a.tm a.log + cost ≤ p.limit) (hx : ∃ e ∈ a.log, e.1 + p.period = W) (hlo : ∀ T, T < W → ¬ a.held + usedl p.period T a.log + cost ≤ p.limit) (hhi : ∀ T, W ≤ T → a.held + usedl p.period T a.log + cost ≤ p.limit) (hw0 : a.tm < W) :
    Calls Try.prog 30 #[p.val, s.val A s.log.length cap, .int .i64 now, .int .i64 cost] w fun e w' => e = .returned (.tuple #[.int .i64 (W - a.tm), .bool true]) ∧ Below w.heap.size w w' := by
  have g1 : decide (cost < 1) = false := by simp; omega
  have g2 : decide (p.limit - s.held < cost) = false := by simp; omega
  have hcl : 1 ≤ cost ∧ cost ≤ 1048576 := by have := (right_ok h0).lim; have := (right_ok h0).held0; omega
  have HS := Lib.hid (right_ok h0)
  have l9 := HS.out.held0
  have l10 := HS.out.held1
  have HADV := Lib.hid ha
  have HO := Lib.hid (show Ok p a by rw [← ha]; exact (right_ok h0).adv now)
  have l1 := HO.out.lim
  have l3 := HO.out.held0
  have l4 := HO.out.held1
  have l5 := HO.out.n
  have l6 := HO.out.tm0
  have l7 := HO.out.tm1
  have l8 := HO.out.per
  have HX := Lib.hid hx
  have HLO := Lib.hid hlo
  have HHI := Lib.hid hhi
  have HN := Lib.hid (show a.log.length ≤ 1000 by omega)
  have hW1 : W ≤ 9008306722504704768 := by obtain ⟨e, he, hw⟩ := hx; have := HO.out.ent e he; omega
  clear hc hm ha hx hlo hhi
  have HA := Lib.hid hA
  clear hA
  have HB0 := Lib.hid (below_two w p.box (s.box A s.log.length cap))
  have H0 := Lib.hid h0
  clear h0
  unfold Pol.val St.val
  go_enter Try.func30, Try.ntmps30
  go_wp2_with fail
  refine (rright_yes H0.out A cap _ (HA.out.keep HB0.out)).mono ?_
  rintro e w1 ⟨rfl, hb1⟩
  have BP1 := Lib.hid (Box.keep (Box.alloc (Box.new w 23 (pcells p)) (s.box A s.log.length cap)) hb1)
  have BS1 := Lib.hid (Box.keep (Box.new1 w 32 (scells s.tm s.level s.held (.slice A s.log.length cap)) p.box) hb1)
  have z1 : w.heap.size + 1 < w1.heap.size := BS1.out.lt
  have HE1 := Lib.hid ((HA.out.keep HB0.out).keep hb1)
  have HB1 := Lib.hid (HB0.out.trans (hb1.mono (by simp; omega)))
  clear hb1
  have ep0 : w1.cell? ⟨w.heap.size, 0, none⟩ = some (.int .i64 p.kind) := BP1.out.cell 0
  have ep1 : w1.cell? ⟨w.heap.size, 1, none⟩ = some (.int .i64 p.limit) := BP1.out.cell 1
  have ep2 : w1.cell? ⟨w.heap.size, 2, none⟩ = some (.int .i64 p.period) := BP1.out.cell 2
  have ep3 : w1.cell? ⟨w.heap.size, 3, none⟩ = some (.int .i64 p.burst) := BP1.out.cell 3
  have ep4 : w1.cell? ⟨w.heap.size, 4, none⟩ = some (.int .i64 p.cap) := BP1.out.cell 4
  have ep5 : w1.cell? ⟨w.heap.size, 5, none⟩ = some (.bool p.opn) := BP1.out.cell 5
  have es0 : w1.cell? ⟨w.heap.size + 1, 0, none⟩ = some (.int .i64 (s).tm) := BS1.out.cell 0
  have es1 : w1.cell? ⟨w.heap.size + 1, 1, none⟩ = some (.int .i64 (s).level) := BS1.out.cell 1
  have es2 : w1.cell? ⟨w.heap.size + 1, 2, none⟩ = some (.int .i64 (s).held) := BS1.out.cell 2
  have es3 : w1.cell? ⟨w.heap.size + 1, 3, none⟩ = some (.slice A (s).log.length cap) := BS1.out.cell 3
  go_wp2_with fail
  refine (radv_is HADV.out A cap _ HE1.out).mono ?_
  rintro e w2 ⟨v, rfl, ⟨u, rfl, ho⟩, hb2⟩
  obtain ⟨A', c', rfl, hE'⟩ := ho.ents
  have BP3 := Lib.hid (Box.alloc (Box.keep BP1.out hb2) (.cells (scells a.tm a.level a.held (.slice A' a.log.length c')) 32))
  have BT3 := Lib.hid (Box.new w2 32 (scells a.tm a.level a.held (.slice A' a.log.length c')))
  have HE3 := Lib.hid (hE'.alloc (.cells (scells a.tm a.level a.held (.slice A' a.log.length c')) 32))
  have HB3 := Lib.hid ((HB1.out.trans (hb2.mono HB1.out.size)).alloc (Nat.le_trans HB1.out.size hb2.size) (.cells (scells a.tm a.level a.held (.slice A' a.log.length c')) 32))
  have z2 : w.heap.size + 1 < w2.heap.size := Nat.lt_of_lt_of_le z1 hb2.size
  clear hE' hb2 ho ep0 ep1 ep2 ep3 ep4 ep5 es0 es1 es2 es3
  have ub := usedl_bounds (per := p.period) (t := a.tm) HO.out.costs2
  have u0 : 0 ≤ usedl p.period a.tm a.log := ub.1
  have u1 : usedl p.period a.tm a.log ≤ 104857600 := by omega
  have q1 : IntKind.i64.wrap (a.held + usedl p.period a.tm a.log) = a.held + usedl p.period a.tm a.log := IntWalk.i64_in _ (by omega)
  have q2 : IntKind.i64.wrap (a.held + usedl p.period a.tm a.log + cost) = a.held + usedl p.period a.tm a.log + cost := IntWalk.i64_in _ (by omega)
  have g3 : decide (a.held + usedl p.period a.tm a.log + cost ≤ p.limit) = false := by simp; omega
  clear ub hn
  go_wp2_with fail
  generalize w2.alloc (.cells (scells a.tm a.level a.held (.slice A' a.log.length c')) 32) = W3 at BP3 BT3 HE3 HB3 ⊢
  have gp0 : ∀ g : Grow W3, g.w.cell? ⟨w.heap.size, 0, none⟩ = some (.int .i64 p.kind) := fun g => Grow.cell BP3.out g 0
  have gp1 : ∀ g : Grow W3, g.w.cell? ⟨w.heap.size, 1, none⟩ = some (.int .i64 p.limit) := fun g => Grow.cell BP3.out g 1
  have gp2 : ∀ g : Grow W3, g.w.cell? ⟨w.heap.size, 2, none⟩ = some (.int .i64 p.period) := fun g => Grow.cell BP3.out g 2
  have gp3 : ∀ g : Grow W3, g.w.cell? ⟨w.heap.size, 3, none⟩ = some (.int .i64 p.burst) := fun g => Grow.cell BP3.out g 3
  have gp4 : ∀ g : Grow W3, g.w.cell? ⟨w.heap.size, 4, none⟩ = some (.int .i64 p.cap) := fun g => Grow.cell BP3.out g 4
  have gp5 : ∀ g : Grow W3, g.w.cell? ⟨w.heap.size, 5, none⟩ = some (.bool p.opn) := fun g => Grow.cell BP3.out g 5
  have gt0 : ∀ g : Grow W3, g.w.cell? ⟨w2.heap.size, 0, none⟩ = some (.int .i64 a.tm) := fun g => Grow.cell BT3.out g 0
  have gt1 : ∀ g : Grow W3, g.w.cell? ⟨w2.heap.size, 1, none⟩ = some (.int .i64 a.level) := fun g => Grow.cell BT3.out g 1
  have gt2 : ∀ g : Grow W3, g.w.cell? ⟨w2.heap.size, 2, none⟩ = some (.int .i64 a.held) := fun g => Grow.cell BT3.out g 2
  have gt3 : ∀ g : Grow W3, g.w.cell? ⟨w2.heap.size, 3, none⟩ = some (.slice A' a.log.length c') := fun g => Grow.cell BT3.out g 3
  refine wp_region_grow (by kernel_rfl) (by kernel_rfl) ?_
  repeat (go_big_quiet_step ((go_at_call 43; exact grow_call (used_calls p a A' c' a.tm _ (HE3.out.keep (Grow.below _)) HO.out.costs2 (by omega) (by omega) (by omega) l8.1 l8.2))))
  refine wpQuiet_nil ?_
  intro _ hw'
  obtain ⟨gq, hw''⟩ := hw'
  subst hw''
  clear q1 q2 u0 u1 gp0 gp1 gp2 gp3 gp4 gp5 gt0 gt1 gt2 gt3
  have hbq := gq.below
  have BP4 := Lib.hid (BP3.out.keep hbq)
  have BT4 := Lib.hid (BT3.out.keep hbq)
  have HE4 := Lib.hid (HE3.out.keep hbq)
  have HB4 := Lib.hid (HB3.out.trans (hbq.mono HB3.out.size))
  clear hbq
  generalize gq.w = W4 at BP4 BT4 HE4 HB4 ⊢
  go_wp2_with fail
  go_loopw [11, 12] (fun best i wr => ∃ (k : Nat) (b : Int), k ≤ a.log.length ∧ i = .int .i64 k ∧ best = .int .i64 b ∧ (-1 ≤ b ∧ b ≤ 9008306722504704768) ∧ Hid (Best p.period a.tm W a.log k b) ∧ Hid (Below W4.heap.size W4 wr)) (fun _ i _ => a.log.length - (intOf i).toNat)
  case atStart => exact ⟨0, -1, Nat.zero_le _, rfl, rfl, by omega, best_start _ _ _ _, Below.refl _ _⟩
  case round =>
    obtain ⟨k, b, hk, rfl, rfl, hbb, HB, HWr⟩ := hrel
    have HB := Lib.hid (show Best p.period a.tm W a.log k b from HB)
    have HWr := Lib.hid (show Below W4.heap.size W4 wr from HWr)
    have BPr := Lib.hid (BP4.out.keep HWr.out)
    have BTr := Lib.hid (BT4.out.keep HWr.out)
    have HEr := Lib.hid (HE4.out.keep HWr.out)
    have d3 : wr.cell? ⟨w2.heap.size, 3, none⟩ = some (.slice A' a.log.length c') := BTr.out.cell 3
    have d0 : wr.cell? ⟨w2.heap.size, 0, none⟩ = some (.int .i64 a.tm) := BTr.out.cell 0
    have e2 : wr.cell? ⟨w.heap.size, 2, none⟩ = some (.int .i64 p.period) := BPr.out.cell 2
    by_cases hlt : k < a.log.length
    · have be := HO.out.ent _ (List.getElem_mem hlt)
      have ub := usedl_bounds (per := p.period) (t := a.log[k].1 + p.period) HO.out.costs2
      have u0 : 0 ≤ usedl p.period (a.log[k].1 + p.period) a.log := ub.1
      have u1 : usedl p.period (a.log[k].1 + p.period) a.log ≤ 104857600 := by omega
      have HT0 := Lib.hid (show 0 ≤ a.log[k].1 + p.period by omega)
      have HT1 := Lib.hid (show a.log[k].1 + p.period ≤ 18014398509481984 by omega)
      have b0 : 0 ≤ a.log[k].1 := be.1
      have b1 : a.log[k].1 ≤ 9007199254740992 := by omega
      have q1 : IntKind.i64.wrap (a.held + usedl p.period (a.log[k].1 + p.period) a.log) = a.held + usedl p.period (a.log[k].1 + p.period) a.log := IntWalk.i64_in _ (by omega)
      have q2 : IntKind.i64.wrap (a.held + usedl p.period (a.log[k].1 + p.period) a.log + cost) = a.held + usedl p.period (a.log[k].1 + p.period) a.log + cost := IntWalk.i64_in _ (by omega)
      clear ub be
      obtain ⟨ad, rfl, c1, c2⟩ := HEr.out.at_ hlt
      have i1 : (k : Int) < (a.log.length : Int) := by omega
      by_cases hw : a.log[k].1 + p.period < W
      · skip
        have t1 : decide (a.held + usedl p.period (a.log[k].1 + p.period) a.log + cost ≤ p.limit) = false := by have := HLO.out _ hw; simp; omega
        have HBE := Lib.hid (best_low HB.out hlt hw)
        clear hw
        go_wp2_with fail
        go_quiet (fail)
        go_wp2_with fail
        have BP5 := Lib.hid (BPr.out.drewN nq)
        have BT5 := Lib.hid (BTr.out.drewN nq)
        have HE5 := Lib.hid (HEr.out.keep (below_drewN (Below.refl _ _) nq))
        have HB5 := Lib.hid (below_drewN HWr.out nq)
        clear d0 d3 e2 c1 c2
        generalize wr.drewN nq = W5 at BP5 BT5 HE5 HB5 ⊢
        have gp0 : ∀ g : Grow W5, g.w.cell? ⟨w.heap.size, 0, none⟩ = some (.int .i64 p.kind) := fun g => Grow.cell BP5.out g 0
        have gp1 : ∀ g : Grow W5, g.w.cell? ⟨w.heap.size, 1, none⟩ = some (.int .i64 p.limit) := fun g => Grow.cell BP5.out g 1
        have gp2 : ∀ g : Grow W5, g.w.cell? ⟨w.heap.size, 2, none⟩ = some (.int .i64 p.period) := fun g => Grow.cell BP5.out g 2
        have gp3 : ∀ g : Grow W5, g.w.cell? ⟨w.heap.size, 3, none⟩ = some (.int .i64 p.burst) := fun g => Grow.cell BP5.out g 3
        have gp4 : ∀ g : Grow W5, g.w.cell? ⟨w.heap.size, 4, none⟩ = some (.int .i64 p.cap) := fun g => Grow.cell BP5.out g 4
        have gp5 : ∀ g : Grow W5, g.w.cell? ⟨w.heap.size, 5, none⟩ = some (.bool p.opn) := fun g => Grow.cell BP5.out g 5
        have gt0 : ∀ g : Grow W5, g.w.cell? ⟨w2.heap.size, 0, none⟩ = some (.int .i64 a.tm) := fun g => Grow.cell BT5.out g 0
        have gt1 : ∀ g : Grow W5, g.w.cell? ⟨w2.heap.size, 1, none⟩ = some (.int .i64 a.level) := fun g => Grow.cell BT5.out g 1
        have gt2 : ∀ g : Grow W5, g.w.cell? ⟨w2.heap.size, 2, none⟩ = some (.int .i64 a.held) := fun g => Grow.cell BT5.out g 2
        have gt3 : ∀ g : Grow W5, g.w.cell? ⟨w2.heap.size, 3, none⟩ = some (.slice (some ad) a.log.length c') := fun g => Grow.cell BT5.out g 3
        refine wp_region_grow (by kernel_rfl) (by kernel_rfl) ?_
        repeat (go_big_quiet_step ((go_at_call 43; exact grow_call (used_calls p a _ c' (a.log[k].1 + p.period) _ (HE5.out.keep (Grow.below _)) HO.out.costs2 HN.out HT0.out HT1.out l8.1 l8.2))))
        refine wpQuiet_nil ?_
        intro _ hw'
        obtain ⟨gq, hw''⟩ := hw'
        subst hw''
        have HB6 := Lib.hid (HB5.out.trans (gq.below.mono HB5.out.size))
        have BT6 := Lib.hid (BT5.out.keep gq.below)
        clear q1 q2 gp0 gp1 gp2 gp3 gp4 gp5 gt0 gt1 gt2 gt3
        generalize gq.w = W6 at HB6 BT6 ⊢
        have m0 : W6.cell? ⟨w2.heap.size, 0, none⟩ = some (.int .i64 a.tm) := BT6.out.cell 0
        go_wp2_with fail
        go_roundw
        case rel => exact ⟨k + 1, b, by omega, by go_num, rfl, by omega, HBE.out, HB6.out⟩
        case measure => simp [intOf]; omega
      · rcases HB.out with ⟨hb1, hall⟩ | hb1
        · skip
          have t1 : decide (a.held + usedl p.period (a.log[k].1 + p.period) a.log + cost ≤ p.limit) = true := by have := HHI.out _ (show W ≤ a.log[k].1 + p.period by omega); simp; omega
          have HEQ := Lib.hid (best_first HO.out.sorted HX.out hall hlt (show W ≤ a.log[k].1 + p.period by omega))
          have t2 : decide (b < 0) = true := by rw [hb1]; rfl
          clear hw hb1 hall
          go_wp2_with fail
          go_quiet (fail)
          go_wp2_with fail
          have BP5 := Lib.hid (BPr.out.drewN nq)
          have BT5 := Lib.hid (BTr.out.drewN nq)
          have HE5 := Lib.hid (HEr.out.keep (below_drewN (Below.refl _ _) nq))
          have HB5 := Lib.hid (below_drewN HWr.out nq)
          clear d0 d3 e2 c1 c2
          generalize wr.drewN nq = W5 at BP5 BT5 HE5 HB5 ⊢
          have gp0 : ∀ g : Grow W5, g.w.cell? ⟨w.heap.size, 0, none⟩ = some (.int .i64 p.kind) := fun g => Grow.cell BP5.out g 0
          have gp1 : ∀ g : Grow W5, g.w.cell? ⟨w.heap.size, 1, none⟩ = some (.int .i64 p.limit) := fun g => Grow.cell BP5.out g 1
          have gp2 : ∀ g : Grow W5, g.w.cell? ⟨w.heap.size, 2, none⟩ = some (.int .i64 p.period) := fun g => Grow.cell BP5.out g 2
          have gp3 : ∀ g : Grow W5, g.w.cell? ⟨w.heap.size, 3, none⟩ = some (.int .i64 p.burst) := fun g => Grow.cell BP5.out g 3
          have gp4 : ∀ g : Grow W5, g.w.cell? ⟨w.heap.size, 4, none⟩ = some (.int .i64 p.cap) := fun g => Grow.cell BP5.out g 4
          have gp5 : ∀ g : Grow W5, g.w.cell? ⟨w.heap.size, 5, none⟩ = some (.bool p.opn) := fun g => Grow.cell BP5.out g 5
          have gt0 : ∀ g : Grow W5, g.w.cell? ⟨w2.heap.size, 0, none⟩ = some (.int .i64 a.tm) := fun g => Grow.cell BT5.out g 0
          have gt1 : ∀ g : Grow W5, g.w.cell? ⟨w2.heap.size, 1, none⟩ = some (.int .i64 a.level) := fun g => Grow.cell BT5.out g 1
          have gt2 : ∀ g : Grow W5, g.w.cell? ⟨w2.heap.size, 2, none⟩ = some (.int .i64 a.held) := fun g => Grow.cell BT5.out g 2
          have gt3 : ∀ g : Grow W5, g.w.cell? ⟨w2.heap.size, 3, none⟩ = some (.slice (some ad) a.log.length c') := fun g => Grow.cell BT5.out g 3
          refine wp_region_grow (by kernel_rfl) (by kernel_rfl) ?_
          repeat (go_big_quiet_step ((go_at_call 43; exact grow_call (used_calls p a _ c' (a.log[k].1 + p.period) _ (HE5.out.keep (Grow.below _)) HO.out.costs2 HN.out HT0.out HT1.out l8.1 l8.2))))
          refine wpQuiet_nil ?_
          intro _ hw'
          obtain ⟨gq, hw''⟩ := hw'
          subst hw''
          have HB6 := Lib.hid (HB5.out.trans (gq.below.mono HB5.out.size))
          have BT6 := Lib.hid (BT5.out.keep gq.below)
          clear q1 q2 gp0 gp1 gp2 gp3 gp4 gp5 gt0 gt1 gt2 gt3
          generalize gq.w = W6 at HB6 BT6 ⊢
          have m0 : W6.cell? ⟨w2.heap.size, 0, none⟩ = some (.int .i64 a.tm) := BT6.out.cell 0
          go_wp2_with fail
          go_roundw
          case rel => exact ⟨k + 1, _, by omega, by go_num, rfl, by have := HEQ.out; omega, .inr (by have := HEQ.out; omega), HB6.out⟩
          case measure => simp [intOf]; omega
        · skip
          have t1 : decide (a.held + usedl p.period (a.log[k].1 + p.period) a.log + cost ≤ p.limit) = true := by have := HHI.out _ (show W ≤ a.log[k].1 + p.period by omega); simp; omega
          have t2 : decide (b < 0) = false := by simp; omega
          have t3 : decide (a.log[k].1 + p.period - a.tm < b) = false := by simp; omega
          have HBB := Lib.hid hb1
          clear hw hb1
          go_wp2_with fail
          go_quiet (fail)
          go_wp2_with fail
          have BP5 := Lib.hid (BPr.out.drewN nq)
          have BT5 := Lib.hid (BTr.out.drewN nq)
          have HE5 := Lib.hid (HEr.out.keep (below_drewN (Below.refl _ _) nq))
          have HB5 := Lib.hid (below_drewN HWr.out nq)
          clear d0 d3 e2 c1 c2
          generalize wr.drewN nq = W5 at BP5 BT5 HE5 HB5 ⊢
          have gp0 : ∀ g : Grow W5, g.w.cell? ⟨w.heap.size, 0, none⟩ = some (.int .i64 p.kind) := fun g => Grow.cell BP5.out g 0
          have gp1 : ∀ g : Grow W5, g.w.cell? ⟨w.heap.size, 1, none⟩ = some (.int .i64 p.limit) := fun g => Grow.cell BP5.out g 1
          have gp2 : ∀ g : Grow W5, g.w.cell? ⟨w.heap.size, 2, none⟩ = some (.int .i64 p.period) := fun g => Grow.cell BP5.out g 2
          have gp3 : ∀ g : Grow W5, g.w.cell? ⟨w.heap.size, 3, none⟩ = some (.int .i64 p.burst) := fun g => Grow.cell BP5.out g 3
          have gp4 : ∀ g : Grow W5, g.w.cell? ⟨w.heap.size, 4, none⟩ = some (.int .i64 p.cap) := fun g => Grow.cell BP5.out g 4
          have gp5 : ∀ g : Grow W5, g.w.cell? ⟨w.heap.size, 5, none⟩ = some (.bool p.opn) := fun g => Grow.cell BP5.out g 5
          have gt0 : ∀ g : Grow W5, g.w.cell? ⟨w2.heap.size, 0, none⟩ = some (.int .i64 a.tm) := fun g => Grow.cell BT5.out g 0
          have gt1 : ∀ g : Grow W5, g.w.cell? ⟨w2.heap.size, 1, none⟩ = some (.int .i64 a.level) := fun g => Grow.cell BT5.out g 1
          have gt2 : ∀ g : Grow W5, g.w.cell? ⟨w2.heap.size, 2, none⟩ = some (.int .i64 a.held) := fun g => Grow.cell BT5.out g 2
          have gt3 : ∀ g : Grow W5, g.w.cell? ⟨w2.heap.size, 3, none⟩ = some (.slice (some ad) a.log.length c') := fun g => Grow.cell BT5.out g 3
          refine wp_region_grow (by kernel_rfl) (by kernel_rfl) ?_
          repeat (go_big_quiet_step ((go_at_call 43; exact grow_call (used_calls p a _ c' (a.log[k].1 + p.period) _ (HE5.out.keep (Grow.below _)) HO.out.costs2 HN.out HT0.out HT1.out l8.1 l8.2))))
          refine wpQuiet_nil ?_
          intro _ hw'
          obtain ⟨gq, hw''⟩ := hw'
          subst hw''
          have HB6 := Lib.hid (HB5.out.trans (gq.below.mono HB5.out.size))
          have BT6 := Lib.hid (BT5.out.keep gq.below)
          clear q1 q2 gp0 gp1 gp2 gp3 gp4 gp5 gt0 gt1 gt2 gt3
          generalize gq.w = W6 at HB6 BT6 ⊢
          have m0 : W6.cell? ⟨w2.heap.size, 0, none⟩ = some (.int .i64 a.tm) := BT6.out.cell 0
          go_wp2_with fail
          go_roundw
          case rel => exact ⟨k + 1, b, by omega, by go_num, rfl, by omega, .inr HBB.out, HB6.out⟩
          case measure => simp [intOf]; omega
    · have HV := Lib.hid (best_end HB.out hlt HX.out)
      go_wp2
      go_ret2
      exact ⟨by rw [← HV.out]; rfl, HB4.out.trans (HWr.out.mono HB4.out.size)⟩

theorem rretry_calls (p : Pol) (s : St) (A : Option Addr) (cap : Nat) (now cost : Int) (w : World) (hA : Ents w A s.log) :
    Calls Try.prog 30 #[p.val, s.val A s.log.length cap, .int .i64 now, .int .i64 cost] w fun e w' => e = .returned (.tuple #[.int .i64 (retryAt p s now cost).1, .bool (retryAt p s now cost).2]) ∧ Below w.heap.size w w' := by
  cases h0 : right p s with
  | false =>
    rw [show retryAt p s now cost = (0, false) by simp [retryAt, h0]]; exact rretry_zero p s A cap now cost w hA h0
  | true =>
    by_cases hc : cost < 1
    · rw [show retryAt p s now cost = (0, false) by unfold retryAt; rw [if_pos h0, if_neg (fun h => by have := wi_yes h; omega)]]; exact rretry_low p s A cap now cost w hA h0 hc
    · by_cases hm : p.limit - s.held < cost
      · rw [show retryAt p s now cost = (0, false) by unfold retryAt; rw [if_pos h0, if_neg (fun h => by have := wi_yes h; omega)]]; exact rretry_much p s A cap now cost w hA h0 hc hm
      · obtain ⟨a, ha⟩ : ∃ a, adv p s now = a := ⟨_, rfl⟩
        have hok : Ok p a := by rw [← ha]; exact (right_ok h0).adv now
        have hf : Fr p a := by rw [← ha]; exact adv_fr (right_ok h0) now
        have hh : a.held = s.held := by rw [← ha, adv_eq (right_ok h0)]; rfl
        have er : retryAt p s now cost = (waitl p.period cost (room p a) a.tm a.log - a.tm, true) := by
          unfold retryAt waitAt; rw [if_pos h0, if_pos (wi_of (by omega) (by omega)), ha]
        by_cases hn : a.held + usedl p.period a.tm a.log + cost ≤ p.limit
        · have e0 := usedl_all (per := p.period) (T := a.tm) (l := a.log) hf
          have hr : cost ≤ room p a := by unfold room; omega
          rw [er, waitl_room hr, Int.sub_self]
          exact rretry_now p s A cap now cost a w hA h0 hc hm ha hn
        · obtain ⟨W, hW, hx, hlo, hhi, hw0⟩ := wait_entry hok hf (c := cost) (by omega) hn
          rw [er, hW]
          exact rretry_wait p s A cap now cost a W w hA h0 hc hm ha hn hx hlo hhi hw0
end Wn
end Go.Proofs.Ytljaemiggeeghaa
