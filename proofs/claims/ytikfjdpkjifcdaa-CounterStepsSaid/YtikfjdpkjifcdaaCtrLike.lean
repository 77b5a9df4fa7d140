/-
  What the law's own 'same' answers of one state, twice: true, in any world.
-/
import Derived.Test.YtikfjdpkjifcdaaCtrRfC
import Derived.Test.YtikfjdpkjifcdaaCtrKnown
import Derived.Deep.DrawnRows
namespace Go.Proofs.Ytikfjdpkjifcdaa
open Go.RowKit
attribute [local go_sem ↓] Go.wp_at_zero Go.wp_at_succ
namespace Wn

theorem wretry_is {p : Pol} {s : St} {now c r : Int} {b : Bool} (he : retryAt p s now c = (r, b)) (A : Option Addr) (cap : Nat) (w : World) (_hA : Ents w A s.log) (_hcap : s.log.length ≤ cap) :
    Calls Try.prog 21 #[p.val, s.val A s.log.length cap, .int .i64 now, .int .i64 c] w fun e w' => e = .returned (.tuple #[.int .i64 r, .bool b]) ∧ Below w.heap.size w w' := by
  have := retryAt_calls p s A cap now c w; rw [he] at this; exact this
theorem rretry_is {p : Pol} {s : St} {now c r : Int} {b : Bool} (he : retryAt p s now c = (r, b)) (A : Option Addr) (cap : Nat) (w : World) (_hA : Ents w A s.log) :
    Calls Try.prog 29 #[p.val, s.val A s.log.length cap, .int .i64 now, .int .i64 c] w fun e w' => e = .returned (.tuple #[.int .i64 r, .bool b]) ∧ Below w.heap.size w w' := by
  have := rretry_calls p s A cap now c w; rw [he] at this; exact this
theorem wadv_is {p : Pol} {s a : St} {now : Int} (h : adv p s now = a) (A : Option Addr) (cap : Nat) (w : World) (_hA : Ents w A s.log) (_hcap : s.log.length ≤ cap) :
    Calls Try.prog 25 #[p.val, s.val A s.log.length cap, .int .i64 now] w fun e w' => ∃ v, e = .returned v ∧ Has w' w.heap.size v a ∧ Below w.heap.size w w' :=
  (advance_is h A cap w).mono fun e w' ⟨hv, hb⟩ => ⟨_, hv, ⟨_, rfl, by rw [← h, adv_log]; exact Own.nil _ _⟩, hb⟩
theorem radv_is {p : Pol} {s a : St} {now : Int} (h : adv p s now = a) (A : Option Addr) (cap : Nat) (w : World) (_hA : Ents w A s.log) :
    Calls Try.prog 30 #[p.val, s.val A s.log.length cap, .int .i64 now] w fun e w' => ∃ Y cy, e = .returned (.agg (scells a.tm a.level a.held (.slice Y a.log.length cy))) ∧ Ents w' Y a.log ∧ Below w.heap.size w w' := by
  have hl : a.log = [] := by rw [← h, adv_log]
  cases h0 : right p s with
  | false =>
    have ea : a = zero := by rw [← h]; simp [adv, h0]
    exact (radvance_zero p s A cap now w h0).mono fun e w' ⟨hv, hb⟩ => ⟨none, 0, by rw [hv, ea]; rfl, by rw [hl]; exact Ents.nil _ _, hb⟩
  | true => exact (radvance_is h0 h A cap w).mono fun e w' ⟨hv, hb⟩ => ⟨A, cap, by rw [hv, hl]; rfl, by rw [hl]; exact Ents.nil _ _, hb⟩
theorem wright_is {p : Pol} {s : St} {r : Bool} (h : right p s = r) (A : Option Addr) (cap : Nat) (w : World) (_hA : Ents w A s.log) :
    Calls Try.prog 23 #[p.val, s.val A s.log.length cap] w fun e w' => e = .returned (.bool r) ∧ Below w.heap.size w w' := by
  have := right_calls p s A cap w; rw [h] at this; exact this
theorem rright_is {p : Pol} {s : St} {r : Bool} (h : right p s = r) (A : Option Addr) (cap : Nat) (w : World) (_hA : Ents w A s.log) :
    Calls Try.prog 31 #[p.val, s.val A s.log.length cap] w fun e w' => e = .returned (.bool r) ∧ Below w.heap.size w w' := by
  have := rright_calls p s A cap w; rw [h] at this; exact this
theorem wroom_is {p : Pol} {s : St} {now r : Int} (h : roomAt p s now = r) (A : Option Addr) (cap : Nat) (w : World) (_hA : Ents w A s.log) (_hcap : s.log.length ≤ cap) :
    Calls Try.prog 24 #[p.val, s.val A s.log.length cap, .int .i64 now] w fun e w' => e = .returned (.int .i64 r) ∧ Below w.heap.size w w' := by
  have := roomAt_calls p s A cap now w; rw [h] at this; exact this
theorem wuntil_is {p : Pol} {s : St} {now r : Int} (h : untilAt p s now = r) (A : Option Addr) (cap : Nat) (w : World) (_hA : Ents w A s.log) (_hcap : s.log.length ≤ cap) :
    Calls Try.prog 22 #[p.val, s.val A s.log.length cap, .int .i64 now] w fun e w' => e = .returned (.int .i64 r) ∧ Below w.heap.size w w' := by
  have := untilAt_calls p s A cap now w; rw [h] at this; exact this
theorem runtil_is {p : Pol} {s : St} {now r : Int} (h : untilAt p s now = r) (A : Option Addr) (cap : Nat) (w : World) (_hA : Ents w A s.log) :
    Calls Try.prog 33 #[p.val, s.val A s.log.length cap, .int .i64 now] w fun e w' => e = .returned (.int .i64 r) ∧ Below w.heap.size w w' := by
  have := runtil_calls p s A cap now w; rw [h] at this; exact this

set_option maxHeartbeats 16000000 in
set_option maxRecDepth 100000 in
theorem like_calls (p : Pol) (s : St) (A C : Option Addr) (cap cap2 : Nat) (now cost : Int) (w : World) (hA : Ents w A s.log) (hcap : s.log.length ≤ cap) (hC : Ents w C s.log) (hn : s.log.length ≤ 1000000) :
    Calls Try.prog 16 #[p.val, s.val A s.log.length cap, s.val C s.log.length cap2, .int .i64 now, .int .i64 cost] w fun e w' => e = .returned (.bool true) ∧ Below w.heap.size w w' := by
  have HA := Lib.hid hA
  have HC := Lib.hid hC
  obtain ⟨r, b, hr⟩ : ∃ r b, retryAt p s now cost = (r, b) := ⟨_, _, rfl⟩
  obtain ⟨a, ha⟩ : ∃ a, adv p s now = a := ⟨_, rfl⟩
  obtain ⟨rt, hrt⟩ : ∃ r, right p s = r := ⟨_, rfl⟩
  obtain ⟨rm, hrm⟩ : ∃ r, roomAt p s now = r := ⟨_, rfl⟩
  obtain ⟨un, hun⟩ : ∃ r, untilAt p s now = r := ⟨_, rfl⟩
  have HL := Lib.hid (show a.log.length ≤ 1000000 by rw [← ha]; exact Nat.le_trans (adv_len p s now) hn)
  have HN := Lib.hid hn
  have HCAP := Lib.hid hcap
  have HR := Lib.hid hr
  have HAD := Lib.hid ha
  have HRT := Lib.hid hrt
  have HRM := Lib.hid hrm
  have HUN := Lib.hid hun
  clear hA hC hr ha hrt hrm hun hn hcap
  have HB0 := Lib.hid (below_3 w p.box (s.box A s.log.length cap) (s.box C s.log.length cap2))
  have BP0 := Lib.hid (show Box (((w.alloc p.box).alloc (s.box A s.log.length cap)).alloc (s.box C s.log.length cap2)) w.heap.size 23 (pcells p) from Box.alloc (Box.alloc (Box.new w 23 (pcells p)) (s.box A s.log.length cap)) (s.box C s.log.length cap2))
  have BS0 := Lib.hid (show Box (((w.alloc p.box).alloc (s.box A s.log.length cap)).alloc (s.box C s.log.length cap2)) (w.heap.size + 1) 32 (scells s.tm s.level s.held (.slice A s.log.length cap)) from Box.alloc (Box.new1 w 32 (scells s.tm s.level s.held (.slice A s.log.length cap)) p.box) (s.box C s.log.length cap2))
  have BT0 := Lib.hid (show Box (((w.alloc p.box).alloc (s.box A s.log.length cap)).alloc (s.box C s.log.length cap2)) (w.heap.size + 1 + 1) 32 (scells s.tm s.level s.held (.slice C s.log.length cap2)) from heap_alloc3_new _ _ _ _)
  have EA0 := Lib.hid (HA.out.keep HB0.out)
  have EC0 := Lib.hid (HC.out.keep HB0.out)
  unfold Pol.val St.val
  go_enter Try.func16, Try.ntmps16
  go_wp2_with fail
  refine (wretry_is HR.out A cap _ EA0.out HCAP.out).mono ?_
  rintro e v1 ⟨rfl, hb1⟩
  have BP1 := Lib.hid (Box.keep BP0.out hb1)
  have BS1 := Lib.hid (Box.keep BS0.out hb1)
  have BT1 := Lib.hid (Box.keep BT0.out hb1)
  have EA1 := Lib.hid (Ents.keep EA0.out hb1)
  have EC1 := Lib.hid (Ents.keep EC0.out hb1)
  have HB1 := Lib.hid (HB0.out.trans (hb1.mono HB0.out.size))
  clear hb1
  have cP1_0 : v1.cell? ⟨w.heap.size, 0, none⟩ = some (.int .i64 p.kind) := BP1.out.cell 0
  have cP1_1 : v1.cell? ⟨w.heap.size, 1, none⟩ = some (.int .i64 p.limit) := BP1.out.cell 1
  have cP1_2 : v1.cell? ⟨w.heap.size, 2, none⟩ = some (.int .i64 p.period) := BP1.out.cell 2
  have cP1_3 : v1.cell? ⟨w.heap.size, 3, none⟩ = some (.int .i64 p.burst) := BP1.out.cell 3
  have cP1_4 : v1.cell? ⟨w.heap.size, 4, none⟩ = some (.int .i64 p.cap) := BP1.out.cell 4
  have cP1_5 : v1.cell? ⟨w.heap.size, 5, none⟩ = some (.bool p.opn) := BP1.out.cell 5
  have cS1_0 : v1.cell? ⟨w.heap.size + 1, 0, none⟩ = some (.int .i64 (s).tm) := BS1.out.cell 0
  have cS1_1 : v1.cell? ⟨w.heap.size + 1, 1, none⟩ = some (.int .i64 (s).level) := BS1.out.cell 1
  have cS1_2 : v1.cell? ⟨w.heap.size + 1, 2, none⟩ = some (.int .i64 (s).held) := BS1.out.cell 2
  have cS1_3 : v1.cell? ⟨w.heap.size + 1, 3, none⟩ = some (.slice A (s).log.length cap) := BS1.out.cell 3
  have cT1_0 : v1.cell? ⟨w.heap.size + 1 + 1, 0, none⟩ = some (.int .i64 (s).tm) := BT1.out.cell 0
  have cT1_1 : v1.cell? ⟨w.heap.size + 1 + 1, 1, none⟩ = some (.int .i64 (s).level) := BT1.out.cell 1
  have cT1_2 : v1.cell? ⟨w.heap.size + 1 + 1, 2, none⟩ = some (.int .i64 (s).held) := BT1.out.cell 2
  have cT1_3 : v1.cell? ⟨w.heap.size + 1 + 1, 3, none⟩ = some (.slice C (s).log.length cap2) := BT1.out.cell 3
  go_wp2_with fail
  refine (rretry_is HR.out C cap2 _ EC1.out).mono ?_
  rintro e v2 ⟨rfl, hb2⟩
  have BP2 := Lib.hid (Box.keep BP1.out hb2)
  have BS2 := Lib.hid (Box.keep BS1.out hb2)
  have BT2 := Lib.hid (Box.keep BT1.out hb2)
  have EA2 := Lib.hid (Ents.keep EA1.out hb2)
  have EC2 := Lib.hid (Ents.keep EC1.out hb2)
  have HB2 := Lib.hid (HB1.out.trans (hb2.mono HB1.out.size))
  clear hb2
  clear cP1_0 cP1_1 cP1_2 cP1_3 cP1_4 cP1_5 cS1_0 cS1_1 cS1_2 cS1_3 cT1_0 cT1_1 cT1_2 cT1_3
  have cP2_0 : v2.cell? ⟨w.heap.size, 0, none⟩ = some (.int .i64 p.kind) := BP2.out.cell 0
  have cP2_1 : v2.cell? ⟨w.heap.size, 1, none⟩ = some (.int .i64 p.limit) := BP2.out.cell 1
  have cP2_2 : v2.cell? ⟨w.heap.size, 2, none⟩ = some (.int .i64 p.period) := BP2.out.cell 2
  have cP2_3 : v2.cell? ⟨w.heap.size, 3, none⟩ = some (.int .i64 p.burst) := BP2.out.cell 3
  have cP2_4 : v2.cell? ⟨w.heap.size, 4, none⟩ = some (.int .i64 p.cap) := BP2.out.cell 4
  have cP2_5 : v2.cell? ⟨w.heap.size, 5, none⟩ = some (.bool p.opn) := BP2.out.cell 5
  have cS2_0 : v2.cell? ⟨w.heap.size + 1, 0, none⟩ = some (.int .i64 (s).tm) := BS2.out.cell 0
  have cS2_1 : v2.cell? ⟨w.heap.size + 1, 1, none⟩ = some (.int .i64 (s).level) := BS2.out.cell 1
  have cS2_2 : v2.cell? ⟨w.heap.size + 1, 2, none⟩ = some (.int .i64 (s).held) := BS2.out.cell 2
  have cS2_3 : v2.cell? ⟨w.heap.size + 1, 3, none⟩ = some (.slice A (s).log.length cap) := BS2.out.cell 3
  have cT2_0 : v2.cell? ⟨w.heap.size + 1 + 1, 0, none⟩ = some (.int .i64 (s).tm) := BT2.out.cell 0
  have cT2_1 : v2.cell? ⟨w.heap.size + 1 + 1, 1, none⟩ = some (.int .i64 (s).level) := BT2.out.cell 1
  have cT2_2 : v2.cell? ⟨w.heap.size + 1 + 1, 2, none⟩ = some (.int .i64 (s).held) := BT2.out.cell 2
  have cT2_3 : v2.cell? ⟨w.heap.size + 1 + 1, 3, none⟩ = some (.slice C (s).log.length cap2) := BT2.out.cell 3
  go_wp2_with fail
  refine (wadv_is HAD.out A cap _ EA2.out HCAP.out).mono ?_
  rintro e v3 ⟨v, rfl, ⟨u, rfl, ho⟩, hb3⟩
  have BP3 := Lib.hid (Box.keep BP2.out hb3)
  have BS3 := Lib.hid (Box.keep BS2.out hb3)
  have BT3 := Lib.hid (Box.keep BT2.out hb3)
  have EA3 := Lib.hid (Ents.keep EA2.out hb3)
  have EC3 := Lib.hid (Ents.keep EC2.out hb3)
  have HB3 := Lib.hid (HB2.out.trans (hb3.mono HB2.out.size))
  clear cP2_0 cP2_1 cP2_2 cP2_3 cP2_4 cP2_5 cS2_0 cS2_1 cS2_2 cS2_3 cT2_0 cT2_1 cT2_2 cT2_3
  obtain ⟨X, cx, rfl, hX⟩ := ho.ents
  have EX3 := Lib.hid hX
  clear hb3 ho hX
  have BP3a := Lib.hid (Box.alloc BP3.out (.cells (scells a.tm a.level a.held (.slice X a.log.length cx)) 32))
  have BS3a := Lib.hid (Box.alloc BS3.out (.cells (scells a.tm a.level a.held (.slice X a.log.length cx)) 32))
  have BT3a := Lib.hid (Box.alloc BT3.out (.cells (scells a.tm a.level a.held (.slice X a.log.length cx)) 32))
  have EA3a := Lib.hid (Ents.alloc EA3.out (.cells (scells a.tm a.level a.held (.slice X a.log.length cx)) 32))
  have EC3a := Lib.hid (Ents.alloc EC3.out (.cells (scells a.tm a.level a.held (.slice X a.log.length cx)) 32))
  have EX3a := Lib.hid (Ents.alloc EX3.out (.cells (scells a.tm a.level a.held (.slice X a.log.length cx)) 32))
  have HB3a := Lib.hid ((HB3.out).alloc HB3.out.size (.cells (scells a.tm a.level a.held (.slice X a.log.length cx)) 32))
  have BX3a := Lib.hid (Box.new v3 32 (scells a.tm a.level a.held (.slice X a.log.length cx)))
  have cP3_0 : (v3.alloc (.cells (scells a.tm a.level a.held (.slice X a.log.length cx)) 32)).cell? ⟨w.heap.size, 0, none⟩ = some (.int .i64 p.kind) := BP3a.out.cell 0
  have cP3_1 : (v3.alloc (.cells (scells a.tm a.level a.held (.slice X a.log.length cx)) 32)).cell? ⟨w.heap.size, 1, none⟩ = some (.int .i64 p.limit) := BP3a.out.cell 1
  have cP3_2 : (v3.alloc (.cells (scells a.tm a.level a.held (.slice X a.log.length cx)) 32)).cell? ⟨w.heap.size, 2, none⟩ = some (.int .i64 p.period) := BP3a.out.cell 2
  have cP3_3 : (v3.alloc (.cells (scells a.tm a.level a.held (.slice X a.log.length cx)) 32)).cell? ⟨w.heap.size, 3, none⟩ = some (.int .i64 p.burst) := BP3a.out.cell 3
  have cP3_4 : (v3.alloc (.cells (scells a.tm a.level a.held (.slice X a.log.length cx)) 32)).cell? ⟨w.heap.size, 4, none⟩ = some (.int .i64 p.cap) := BP3a.out.cell 4
  have cP3_5 : (v3.alloc (.cells (scells a.tm a.level a.held (.slice X a.log.length cx)) 32)).cell? ⟨w.heap.size, 5, none⟩ = some (.bool p.opn) := BP3a.out.cell 5
  have cS3_0 : (v3.alloc (.cells (scells a.tm a.level a.held (.slice X a.log.length cx)) 32)).cell? ⟨w.heap.size + 1, 0, none⟩ = some (.int .i64 (s).tm) := BS3a.out.cell 0
  have cS3_1 : (v3.alloc (.cells (scells a.tm a.level a.held (.slice X a.log.length cx)) 32)).cell? ⟨w.heap.size + 1, 1, none⟩ = some (.int .i64 (s).level) := BS3a.out.cell 1
  have cS3_2 : (v3.alloc (.cells (scells a.tm a.level a.held (.slice X a.log.length cx)) 32)).cell? ⟨w.heap.size + 1, 2, none⟩ = some (.int .i64 (s).held) := BS3a.out.cell 2
  have cS3_3 : (v3.alloc (.cells (scells a.tm a.level a.held (.slice X a.log.length cx)) 32)).cell? ⟨w.heap.size + 1, 3, none⟩ = some (.slice A (s).log.length cap) := BS3a.out.cell 3
  have cT3_0 : (v3.alloc (.cells (scells a.tm a.level a.held (.slice X a.log.length cx)) 32)).cell? ⟨w.heap.size + 1 + 1, 0, none⟩ = some (.int .i64 (s).tm) := BT3a.out.cell 0
  have cT3_1 : (v3.alloc (.cells (scells a.tm a.level a.held (.slice X a.log.length cx)) 32)).cell? ⟨w.heap.size + 1 + 1, 1, none⟩ = some (.int .i64 (s).level) := BT3a.out.cell 1
  have cT3_2 : (v3.alloc (.cells (scells a.tm a.level a.held (.slice X a.log.length cx)) 32)).cell? ⟨w.heap.size + 1 + 1, 2, none⟩ = some (.int .i64 (s).held) := BT3a.out.cell 2
  have cT3_3 : (v3.alloc (.cells (scells a.tm a.level a.held (.slice X a.log.length cx)) 32)).cell? ⟨w.heap.size + 1 + 1, 3, none⟩ = some (.slice C (s).log.length cap2) := BT3a.out.cell 3
  have cX3_0 : (v3.alloc (.cells (scells a.tm a.level a.held (.slice X a.log.length cx)) 32)).cell? ⟨v3.heap.size, 0, none⟩ = some (.int .i64 (a).tm) := BX3a.out.cell 0
  have cX3_1 : (v3.alloc (.cells (scells a.tm a.level a.held (.slice X a.log.length cx)) 32)).cell? ⟨v3.heap.size, 1, none⟩ = some (.int .i64 (a).level) := BX3a.out.cell 1
  have cX3_2 : (v3.alloc (.cells (scells a.tm a.level a.held (.slice X a.log.length cx)) 32)).cell? ⟨v3.heap.size, 2, none⟩ = some (.int .i64 (a).held) := BX3a.out.cell 2
  have cX3_3 : (v3.alloc (.cells (scells a.tm a.level a.held (.slice X a.log.length cx)) 32)).cell? ⟨v3.heap.size, 3, none⟩ = some (.slice X (a).log.length cx) := BX3a.out.cell 3
  go_wp2_with fail
  refine (radv_is HAD.out C cap2 _ EC3a.out).mono ?_
  rintro e v4 ⟨Y, cy, rfl, hY, hb4⟩
  have BP4 := Lib.hid (Box.keep BP3a.out hb4)
  have BS4 := Lib.hid (Box.keep BS3a.out hb4)
  have BT4 := Lib.hid (Box.keep BT3a.out hb4)
  have BX4 := Lib.hid (Box.keep BX3a.out hb4)
  have EA4 := Lib.hid (Ents.keep EA3a.out hb4)
  have EC4 := Lib.hid (Ents.keep EC3a.out hb4)
  have EX4 := Lib.hid (Ents.keep EX3a.out hb4)
  have HB4 := Lib.hid (HB3a.out.trans (hb4.mono HB3a.out.size))
  clear cP3_0 cP3_1 cP3_2 cP3_3 cP3_4 cP3_5 cS3_0 cS3_1 cS3_2 cS3_3 cT3_0 cT3_1 cT3_2 cT3_3 cX3_0 cX3_1 cX3_2 cX3_3
  have EY4 := Lib.hid hY
  clear hb4 hY
  have BP4a := Lib.hid (Box.alloc BP4.out (.cells (scells a.tm a.level a.held (.slice Y a.log.length cy)) 32))
  have BS4a := Lib.hid (Box.alloc BS4.out (.cells (scells a.tm a.level a.held (.slice Y a.log.length cy)) 32))
  have BT4a := Lib.hid (Box.alloc BT4.out (.cells (scells a.tm a.level a.held (.slice Y a.log.length cy)) 32))
  have BX4a := Lib.hid (Box.alloc BX4.out (.cells (scells a.tm a.level a.held (.slice Y a.log.length cy)) 32))
  have EA4a := Lib.hid (Ents.alloc EA4.out (.cells (scells a.tm a.level a.held (.slice Y a.log.length cy)) 32))
  have EC4a := Lib.hid (Ents.alloc EC4.out (.cells (scells a.tm a.level a.held (.slice Y a.log.length cy)) 32))
  have EX4a := Lib.hid (Ents.alloc EX4.out (.cells (scells a.tm a.level a.held (.slice Y a.log.length cy)) 32))
  have EY4a := Lib.hid (Ents.alloc EY4.out (.cells (scells a.tm a.level a.held (.slice Y a.log.length cy)) 32))
  have HB4a := Lib.hid ((HB4.out).alloc HB4.out.size (.cells (scells a.tm a.level a.held (.slice Y a.log.length cy)) 32))
  have BY4a := Lib.hid (Box.new v4 32 (scells a.tm a.level a.held (.slice Y a.log.length cy)))
  go_wp2_with fail
  generalize (v4.alloc (.cells (scells a.tm a.level a.held (.slice Y a.log.length cy)) 32)) = W at BP4a BS4a BT4a BX4a BY4a EA4a EC4a EX4a EY4a HB4a ⊢
  have gP0 : ∀ g : Grow W, g.w.cell? ⟨w.heap.size, 0, none⟩ = some (.int .i64 p.kind) := fun g => Grow.cell BP4a.out g 0
  have gP1 : ∀ g : Grow W, g.w.cell? ⟨w.heap.size, 1, none⟩ = some (.int .i64 p.limit) := fun g => Grow.cell BP4a.out g 1
  have gP2 : ∀ g : Grow W, g.w.cell? ⟨w.heap.size, 2, none⟩ = some (.int .i64 p.period) := fun g => Grow.cell BP4a.out g 2
  have gP3 : ∀ g : Grow W, g.w.cell? ⟨w.heap.size, 3, none⟩ = some (.int .i64 p.burst) := fun g => Grow.cell BP4a.out g 3
  have gP4 : ∀ g : Grow W, g.w.cell? ⟨w.heap.size, 4, none⟩ = some (.int .i64 p.cap) := fun g => Grow.cell BP4a.out g 4
  have gP5 : ∀ g : Grow W, g.w.cell? ⟨w.heap.size, 5, none⟩ = some (.bool p.opn) := fun g => Grow.cell BP4a.out g 5
  have gS0 : ∀ g : Grow W, g.w.cell? ⟨w.heap.size + 1, 0, none⟩ = some (.int .i64 (s).tm) := fun g => Grow.cell BS4a.out g 0
  have gS1 : ∀ g : Grow W, g.w.cell? ⟨w.heap.size + 1, 1, none⟩ = some (.int .i64 (s).level) := fun g => Grow.cell BS4a.out g 1
  have gS2 : ∀ g : Grow W, g.w.cell? ⟨w.heap.size + 1, 2, none⟩ = some (.int .i64 (s).held) := fun g => Grow.cell BS4a.out g 2
  have gS3 : ∀ g : Grow W, g.w.cell? ⟨w.heap.size + 1, 3, none⟩ = some (.slice A (s).log.length cap) := fun g => Grow.cell BS4a.out g 3
  have gT0 : ∀ g : Grow W, g.w.cell? ⟨w.heap.size + 1 + 1, 0, none⟩ = some (.int .i64 (s).tm) := fun g => Grow.cell BT4a.out g 0
  have gT1 : ∀ g : Grow W, g.w.cell? ⟨w.heap.size + 1 + 1, 1, none⟩ = some (.int .i64 (s).level) := fun g => Grow.cell BT4a.out g 1
  have gT2 : ∀ g : Grow W, g.w.cell? ⟨w.heap.size + 1 + 1, 2, none⟩ = some (.int .i64 (s).held) := fun g => Grow.cell BT4a.out g 2
  have gT3 : ∀ g : Grow W, g.w.cell? ⟨w.heap.size + 1 + 1, 3, none⟩ = some (.slice C (s).log.length cap2) := fun g => Grow.cell BT4a.out g 3
  have gX0 : ∀ g : Grow W, g.w.cell? ⟨v3.heap.size, 0, none⟩ = some (.int .i64 (a).tm) := fun g => Grow.cell BX4a.out g 0
  have gX1 : ∀ g : Grow W, g.w.cell? ⟨v3.heap.size, 1, none⟩ = some (.int .i64 (a).level) := fun g => Grow.cell BX4a.out g 1
  have gX2 : ∀ g : Grow W, g.w.cell? ⟨v3.heap.size, 2, none⟩ = some (.int .i64 (a).held) := fun g => Grow.cell BX4a.out g 2
  have gX3 : ∀ g : Grow W, g.w.cell? ⟨v3.heap.size, 3, none⟩ = some (.slice X (a).log.length cx) := fun g => Grow.cell BX4a.out g 3
  have gY0 : ∀ g : Grow W, g.w.cell? ⟨v4.heap.size, 0, none⟩ = some (.int .i64 (a).tm) := fun g => Grow.cell BY4a.out g 0
  have gY1 : ∀ g : Grow W, g.w.cell? ⟨v4.heap.size, 1, none⟩ = some (.int .i64 (a).level) := fun g => Grow.cell BY4a.out g 1
  have gY2 : ∀ g : Grow W, g.w.cell? ⟨v4.heap.size, 2, none⟩ = some (.int .i64 (a).held) := fun g => Grow.cell BY4a.out g 2
  have gY3 : ∀ g : Grow W, g.w.cell? ⟨v4.heap.size, 3, none⟩ = some (.slice Y (a).log.length cy) := fun g => Grow.cell BY4a.out g 3
  refine wp_region_grow (by kernel_rfl) (by kernel_rfl) ?_
  repeat (go_big_quiet_step ((first | (go_at_call 19; first | (with_reducible exact grow_call (same_self s A C cap cap2 _ (EA4a.out.keep (Grow.below _)) (EC4a.out.keep (Grow.below _)) HN.out)) | (with_reducible exact grow_call (same_self a X Y cx cy _ (EX4a.out.keep (Grow.below _)) (EY4a.out.keep (Grow.below _)) HL.out))) | (go_at_call 23; exact grow_call (wright_is HRT.out A cap _ (EA4a.out.keep (Grow.below _)))) | (go_at_call 31; exact grow_call (rright_is HRT.out C cap2 _ (EC4a.out.keep (Grow.below _)))) | (go_at_call 24; exact grow_call (wroom_is HRM.out A cap _ (EA4a.out.keep (Grow.below _)) HCAP.out)) | (go_at_call 32; exact grow_call (rroom_is HRM.out C cap2 _)) | (go_at_call 22; exact grow_call (wuntil_is HUN.out A cap _ (EA4a.out.keep (Grow.below _)) HCAP.out)) | (go_at_call 33; exact grow_call (runtil_is HUN.out C cap2 _ (EC4a.out.keep (Grow.below _)))))))
  refine wpQuiet_nil ?_
  intro _ hw'
  obtain ⟨gq, hw''⟩ := hw'
  subst hw''
  have HBE := Lib.hid (HB4a.out.trans (gq.below.mono HB4a.out.size))
  go_wp2_with fail
  go_ret
  exact ⟨rfl, HBE.out⟩
end Wn
end Go.Proofs.Ytikfjdpkjifcdaa
