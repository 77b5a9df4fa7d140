/-
  The walk of the law CounterStates.
-/
import Derived.Test.YtikfjdpkjifcdaaCtrLike
namespace Go.Proofs.Ytikfjdpkjifcdaa
open Go.RowKit
attribute [local go_sem ↓] Go.wp_at_zero Go.wp_at_succ
namespace Wn

theorem rdo_is {p : Pol} {s t : St} {b : Bool} {k now cost : Int} (he : act p s k now cost = (t, b)) (A : Option Addr) (cap : Nat) (w : World) (_hA : Ents w A s.log) :
    Calls Try.prog 18 #[p.val, s.val A s.log.length cap, .agg (acells k now cost)] w fun e w' => ∃ A' cap', e = .returned (.tuple #[.agg (scells t.tm t.level t.held (.slice A' t.log.length cap')), .bool b]) ∧ Ents w' A' t.log ∧ Below w.heap.size w w' :=
  (rdo_do he A cap w).mono fun e w' ⟨A', cap', h1, _, h3, h4⟩ => ⟨A', cap', h1, by rw [h3]; exact Ents.nil _ _, h4⟩
theorem rdo_sl {p : Pol} {s t : St} {b : Bool} {k now cost : Int} (he : act p s k now cost = (t, b)) (A : Option Addr) (cap : Nat) (w : World) (hA : Sl w 0 A cap s.log) :
    Calls Try.prog 18 #[p.val, s.val A s.log.length cap, .agg (acells k now cost)] w fun e w' => ∃ A' cap', e = .returned (.tuple #[.agg (scells t.tm t.level t.held (.slice A' t.log.length cap')), .bool b]) ∧ Sl w' 0 A' cap' t.log ∧ Below w.heap.size w w' :=
  (rdo_do he A cap w).mono fun e w' ⟨A', cap', h1, h2, h3, h4⟩ => ⟨A', cap', h1, by
    rcases h2 with ⟨rfl, rfl, hl⟩ | ⟨rfl, rfl⟩
    · rw [h3, ← hl]; exact hA.keep h4
    · rw [h3]; exact Sl.nil _ _, h4⟩
theorem wdo_is {p : Pol} {s t : St} {b : Bool} {k now cost : Int} (he : act p s k now cost = (t, b)) (A : Option Addr) (cap : Nat) (w : World) (_hA : Ents w A s.log) (_hcap : s.log.length ≤ cap) :
    Calls Try.prog 17 #[p.val, s.val A s.log.length cap, .agg (acells k now cost)] w fun e w' => ∃ v, e = .returned (.tuple #[v, .bool b]) ∧ Has w' w.heap.size v t ∧ Below w.heap.size w w' := by
  have h := do_calls p s A cap k now cost w
  have hl := act_log p s k now cost
  rw [he] at h hl
  exact h.mono fun e w' ⟨h1, h2⟩ => ⟨_, h1, ⟨_, rfl, by rw [show t.log = [] from hl]; exact Own.nil _ _⟩, h2⟩
theorem act_len {p : Pol} {s t : St} {b : Bool} {k now cost : Int} (he : act p s k now cost = (t, b)) : t.log.length ≤ 100 := by
  have hl := act_log p s k now cost
  rw [he] at hl
  rw [show t.log = [] from hl]; exact Nat.zero_le _

set_option maxHeartbeats 16000000 in
set_option maxRecDepth 100000 in
theorem states_far (p : Pol) (s : St) (A : Option Addr) (cap : Nat) (k n c now cost : Int) (w : World) (h : ¬ s.log.length ≤ 150) :
    Calls Try.prog 4 #[p.val, s.val A s.log.length cap, .agg (acells k n c), .int .i64 now, .int .i64 cost] w fun e w' => e = .returned (.bool true) ∧ Below w.heap.size w w' := by
  have g1 : decide ((150 : Int) < (s.log.length : Int)) = true := by simp; omega
  have HB0 := Lib.hid (below_3 w p.box (s.box A s.log.length cap) (.cells (acells k n c) 38))
  clear h
  unfold Pol.val St.val
  go_enter Try.func4, Try.ntmps4
  go_wp2_with fail
  refine (known_calls _).mono ?_
  rintro e w1 ⟨rfl, hb1⟩
  have HB1 := Lib.hid (HB0.out.trans (hb1.mono (by simp; omega)))
  clear hb1
  go_wp2_with fail
  go_ret
  exact ⟨rfl, HB1.out⟩

set_option maxHeartbeats 16000000 in
set_option maxRecDepth 100000 in
theorem states_near (p : Pol) (s : St) (A : Option Addr) (cap : Nat) (k n c now cost : Int) (w : World) (hA : Ents w A s.log) (hcap : s.log.length ≤ cap) (h : s.log.length ≤ 150) :
    Calls Try.prog 4 #[p.val, s.val A s.log.length cap, .agg (acells k n c), .int .i64 now, .int .i64 cost] w fun e w' => e = .returned (.bool true) ∧ Below w.heap.size w w' := by
  have g1 : decide ((150 : Int) < (s.log.length : Int)) = false := by simp; omega
  have HA := Lib.hid hA
  have HCAP := Lib.hid hcap
  have HN := Lib.hid (show s.log.length ≤ 1000000 by omega)
  obtain ⟨t, b, ht⟩ : ∃ t b, act p s k n c = (t, b) := ⟨_, _, rfl⟩
  have HT := Lib.hid ht
  have HL := Lib.hid (show t.log.length ≤ 1000000 by have := act_len ht; omega)
  clear hA hcap h ht
  have HB0 := Lib.hid (below_3 w p.box (s.box A s.log.length cap) (.cells (acells k n c) 38))
  have BP0 := Lib.hid (show Box (((w.alloc p.box).alloc (s.box A s.log.length cap)).alloc (.cells (acells k n c) 38)) w.heap.size 23 (pcells p) from Box.alloc (Box.alloc (Box.new w 23 (pcells p)) (s.box A s.log.length cap)) (.cells (acells k n c) 38))
  have BS0 := Lib.hid (show Box (((w.alloc p.box).alloc (s.box A s.log.length cap)).alloc (.cells (acells k n c) 38)) (w.heap.size + 1) 32 (scells s.tm s.level s.held (.slice A s.log.length cap)) from Box.alloc (Box.new1 w 32 (scells s.tm s.level s.held (.slice A s.log.length cap)) p.box) (.cells (acells k n c) 38))
  have BA0 := Lib.hid (show Box (((w.alloc p.box).alloc (s.box A s.log.length cap)).alloc (.cells (acells k n c) 38)) (w.heap.size + 1 + 1) 38 (acells k n c) from heap_alloc3_new _ _ _ _)
  have EA0 := Lib.hid (HA.out.keep HB0.out)
  unfold Pol.val St.val
  go_enter Try.func4, Try.ntmps4
  go_wp2_with fail
  refine (wdo_is HT.out A cap _ EA0.out HCAP.out).mono ?_
  rintro e v1 ⟨v, rfl, ⟨u, rfl, ho⟩, hb1⟩
  have BP1 := Lib.hid (Box.keep BP0.out hb1)
  have BS1 := Lib.hid (Box.keep BS0.out hb1)
  have BA1 := Lib.hid (Box.keep BA0.out hb1)
  have EA1 := Lib.hid (Ents.keep EA0.out hb1)
  have HB1 := Lib.hid (HB0.out.trans (hb1.mono HB0.out.size))
  obtain ⟨X, cx, rfl, hX⟩ := ho.ents
  have EX1 := Lib.hid hX
  clear hb1 ho hX
  have BP1a := Lib.hid (Box.alloc BP1.out (.cells (scells t.tm t.level t.held (.slice X t.log.length cx)) 32))
  have BS1a := Lib.hid (Box.alloc BS1.out (.cells (scells t.tm t.level t.held (.slice X t.log.length cx)) 32))
  have BA1a := Lib.hid (Box.alloc BA1.out (.cells (scells t.tm t.level t.held (.slice X t.log.length cx)) 32))
  have EA1a := Lib.hid (Ents.alloc EA1.out (.cells (scells t.tm t.level t.held (.slice X t.log.length cx)) 32))
  have EX1a := Lib.hid (Ents.alloc EX1.out (.cells (scells t.tm t.level t.held (.slice X t.log.length cx)) 32))
  have HB1a := Lib.hid ((HB1.out).alloc HB1.out.size (.cells (scells t.tm t.level t.held (.slice X t.log.length cx)) 32))
  have BX1a := Lib.hid (Box.new v1 32 (scells t.tm t.level t.held (.slice X t.log.length cx)))
  have cP1_0 : (v1.alloc (.cells (scells t.tm t.level t.held (.slice X t.log.length cx)) 32)).cell? ⟨w.heap.size, 0, none⟩ = some (.int .i64 p.kind) := BP1a.out.cell 0
  have cP1_1 : (v1.alloc (.cells (scells t.tm t.level t.held (.slice X t.log.length cx)) 32)).cell? ⟨w.heap.size, 1, none⟩ = some (.int .i64 p.limit) := BP1a.out.cell 1
  have cP1_2 : (v1.alloc (.cells (scells t.tm t.level t.held (.slice X t.log.length cx)) 32)).cell? ⟨w.heap.size, 2, none⟩ = some (.int .i64 p.period) := BP1a.out.cell 2
  have cP1_3 : (v1.alloc (.cells (scells t.tm t.level t.held (.slice X t.log.length cx)) 32)).cell? ⟨w.heap.size, 3, none⟩ = some (.int .i64 p.burst) := BP1a.out.cell 3
  have cP1_4 : (v1.alloc (.cells (scells t.tm t.level t.held (.slice X t.log.length cx)) 32)).cell? ⟨w.heap.size, 4, none⟩ = some (.int .i64 p.cap) := BP1a.out.cell 4
  have cP1_5 : (v1.alloc (.cells (scells t.tm t.level t.held (.slice X t.log.length cx)) 32)).cell? ⟨w.heap.size, 5, none⟩ = some (.bool p.opn) := BP1a.out.cell 5
  have cS1_0 : (v1.alloc (.cells (scells t.tm t.level t.held (.slice X t.log.length cx)) 32)).cell? ⟨w.heap.size + 1, 0, none⟩ = some (.int .i64 (s).tm) := BS1a.out.cell 0
  have cS1_1 : (v1.alloc (.cells (scells t.tm t.level t.held (.slice X t.log.length cx)) 32)).cell? ⟨w.heap.size + 1, 1, none⟩ = some (.int .i64 (s).level) := BS1a.out.cell 1
  have cS1_2 : (v1.alloc (.cells (scells t.tm t.level t.held (.slice X t.log.length cx)) 32)).cell? ⟨w.heap.size + 1, 2, none⟩ = some (.int .i64 (s).held) := BS1a.out.cell 2
  have cS1_3 : (v1.alloc (.cells (scells t.tm t.level t.held (.slice X t.log.length cx)) 32)).cell? ⟨w.heap.size + 1, 3, none⟩ = some (.slice A (s).log.length cap) := BS1a.out.cell 3
  have cA1_0 : (v1.alloc (.cells (scells t.tm t.level t.held (.slice X t.log.length cx)) 32)).cell? ⟨w.heap.size + 1 + 1, 0, none⟩ = some (.int .i64 k) := BA1a.out.cell 0
  have cA1_1 : (v1.alloc (.cells (scells t.tm t.level t.held (.slice X t.log.length cx)) 32)).cell? ⟨w.heap.size + 1 + 1, 1, none⟩ = some (.int .i64 n) := BA1a.out.cell 1
  have cA1_2 : (v1.alloc (.cells (scells t.tm t.level t.held (.slice X t.log.length cx)) 32)).cell? ⟨w.heap.size + 1 + 1, 2, none⟩ = some (.int .i64 c) := BA1a.out.cell 2
  have cX1_0 : (v1.alloc (.cells (scells t.tm t.level t.held (.slice X t.log.length cx)) 32)).cell? ⟨v1.heap.size, 0, none⟩ = some (.int .i64 (t).tm) := BX1a.out.cell 0
  have cX1_1 : (v1.alloc (.cells (scells t.tm t.level t.held (.slice X t.log.length cx)) 32)).cell? ⟨v1.heap.size, 1, none⟩ = some (.int .i64 (t).level) := BX1a.out.cell 1
  have cX1_2 : (v1.alloc (.cells (scells t.tm t.level t.held (.slice X t.log.length cx)) 32)).cell? ⟨v1.heap.size, 2, none⟩ = some (.int .i64 (t).held) := BX1a.out.cell 2
  have cX1_3 : (v1.alloc (.cells (scells t.tm t.level t.held (.slice X t.log.length cx)) 32)).cell? ⟨v1.heap.size, 3, none⟩ = some (.slice X (t).log.length cx) := BX1a.out.cell 3
  go_wp2_with fail
  refine (rdo_is HT.out A cap _ EA1a.out).mono ?_
  rintro e v2 ⟨Y, cy, rfl, hY, hb2⟩
  have BP2 := Lib.hid (Box.keep BP1a.out hb2)
  have BS2 := Lib.hid (Box.keep BS1a.out hb2)
  have BA2 := Lib.hid (Box.keep BA1a.out hb2)
  have BX2 := Lib.hid (Box.keep BX1a.out hb2)
  have EA2 := Lib.hid (Ents.keep EA1a.out hb2)
  have EX2 := Lib.hid (Ents.keep EX1a.out hb2)
  have HB2 := Lib.hid (HB1a.out.trans (hb2.mono HB1a.out.size))
  clear cP1_0 cP1_1 cP1_2 cP1_3 cP1_4 cP1_5 cS1_0 cS1_1 cS1_2 cS1_3 cA1_0 cA1_1 cA1_2 cX1_0 cX1_1 cX1_2 cX1_3
  have EY2 := Lib.hid hY
  clear hb2 hY
  have BP2a := Lib.hid (Box.alloc BP2.out (.cells (scells t.tm t.level t.held (.slice Y t.log.length cy)) 32))
  have BS2a := Lib.hid (Box.alloc BS2.out (.cells (scells t.tm t.level t.held (.slice Y t.log.length cy)) 32))
  have BA2a := Lib.hid (Box.alloc BA2.out (.cells (scells t.tm t.level t.held (.slice Y t.log.length cy)) 32))
  have BX2a := Lib.hid (Box.alloc BX2.out (.cells (scells t.tm t.level t.held (.slice Y t.log.length cy)) 32))
  have EA2a := Lib.hid (Ents.alloc EA2.out (.cells (scells t.tm t.level t.held (.slice Y t.log.length cy)) 32))
  have EX2a := Lib.hid (Ents.alloc EX2.out (.cells (scells t.tm t.level t.held (.slice Y t.log.length cy)) 32))
  have EY2a := Lib.hid (Ents.alloc EY2.out (.cells (scells t.tm t.level t.held (.slice Y t.log.length cy)) 32))
  have HB2a := Lib.hid ((HB2.out).alloc HB2.out.size (.cells (scells t.tm t.level t.held (.slice Y t.log.length cy)) 32))
  have BY2a := Lib.hid (Box.new v2 32 (scells t.tm t.level t.held (.slice Y t.log.length cy)))
  have cP2_0 : (v2.alloc (.cells (scells t.tm t.level t.held (.slice Y t.log.length cy)) 32)).cell? ⟨w.heap.size, 0, none⟩ = some (.int .i64 p.kind) := BP2a.out.cell 0
  have cP2_1 : (v2.alloc (.cells (scells t.tm t.level t.held (.slice Y t.log.length cy)) 32)).cell? ⟨w.heap.size, 1, none⟩ = some (.int .i64 p.limit) := BP2a.out.cell 1
  have cP2_2 : (v2.alloc (.cells (scells t.tm t.level t.held (.slice Y t.log.length cy)) 32)).cell? ⟨w.heap.size, 2, none⟩ = some (.int .i64 p.period) := BP2a.out.cell 2
  have cP2_3 : (v2.alloc (.cells (scells t.tm t.level t.held (.slice Y t.log.length cy)) 32)).cell? ⟨w.heap.size, 3, none⟩ = some (.int .i64 p.burst) := BP2a.out.cell 3
  have cP2_4 : (v2.alloc (.cells (scells t.tm t.level t.held (.slice Y t.log.length cy)) 32)).cell? ⟨w.heap.size, 4, none⟩ = some (.int .i64 p.cap) := BP2a.out.cell 4
  have cP2_5 : (v2.alloc (.cells (scells t.tm t.level t.held (.slice Y t.log.length cy)) 32)).cell? ⟨w.heap.size, 5, none⟩ = some (.bool p.opn) := BP2a.out.cell 5
  have cS2_0 : (v2.alloc (.cells (scells t.tm t.level t.held (.slice Y t.log.length cy)) 32)).cell? ⟨w.heap.size + 1, 0, none⟩ = some (.int .i64 (s).tm) := BS2a.out.cell 0
  have cS2_1 : (v2.alloc (.cells (scells t.tm t.level t.held (.slice Y t.log.length cy)) 32)).cell? ⟨w.heap.size + 1, 1, none⟩ = some (.int .i64 (s).level) := BS2a.out.cell 1
  have cS2_2 : (v2.alloc (.cells (scells t.tm t.level t.held (.slice Y t.log.length cy)) 32)).cell? ⟨w.heap.size + 1, 2, none⟩ = some (.int .i64 (s).held) := BS2a.out.cell 2
  have cS2_3 : (v2.alloc (.cells (scells t.tm t.level t.held (.slice Y t.log.length cy)) 32)).cell? ⟨w.heap.size + 1, 3, none⟩ = some (.slice A (s).log.length cap) := BS2a.out.cell 3
  have cA2_0 : (v2.alloc (.cells (scells t.tm t.level t.held (.slice Y t.log.length cy)) 32)).cell? ⟨w.heap.size + 1 + 1, 0, none⟩ = some (.int .i64 k) := BA2a.out.cell 0
  have cA2_1 : (v2.alloc (.cells (scells t.tm t.level t.held (.slice Y t.log.length cy)) 32)).cell? ⟨w.heap.size + 1 + 1, 1, none⟩ = some (.int .i64 n) := BA2a.out.cell 1
  have cA2_2 : (v2.alloc (.cells (scells t.tm t.level t.held (.slice Y t.log.length cy)) 32)).cell? ⟨w.heap.size + 1 + 1, 2, none⟩ = some (.int .i64 c) := BA2a.out.cell 2
  have cX2_0 : (v2.alloc (.cells (scells t.tm t.level t.held (.slice Y t.log.length cy)) 32)).cell? ⟨v1.heap.size, 0, none⟩ = some (.int .i64 (t).tm) := BX2a.out.cell 0
  have cX2_1 : (v2.alloc (.cells (scells t.tm t.level t.held (.slice Y t.log.length cy)) 32)).cell? ⟨v1.heap.size, 1, none⟩ = some (.int .i64 (t).level) := BX2a.out.cell 1
  have cX2_2 : (v2.alloc (.cells (scells t.tm t.level t.held (.slice Y t.log.length cy)) 32)).cell? ⟨v1.heap.size, 2, none⟩ = some (.int .i64 (t).held) := BX2a.out.cell 2
  have cX2_3 : (v2.alloc (.cells (scells t.tm t.level t.held (.slice Y t.log.length cy)) 32)).cell? ⟨v1.heap.size, 3, none⟩ = some (.slice X (t).log.length cx) := BX2a.out.cell 3
  have cY2_0 : (v2.alloc (.cells (scells t.tm t.level t.held (.slice Y t.log.length cy)) 32)).cell? ⟨v2.heap.size, 0, none⟩ = some (.int .i64 (t).tm) := BY2a.out.cell 0
  have cY2_1 : (v2.alloc (.cells (scells t.tm t.level t.held (.slice Y t.log.length cy)) 32)).cell? ⟨v2.heap.size, 1, none⟩ = some (.int .i64 (t).level) := BY2a.out.cell 1
  have cY2_2 : (v2.alloc (.cells (scells t.tm t.level t.held (.slice Y t.log.length cy)) 32)).cell? ⟨v2.heap.size, 2, none⟩ = some (.int .i64 (t).held) := BY2a.out.cell 2
  have cY2_3 : (v2.alloc (.cells (scells t.tm t.level t.held (.slice Y t.log.length cy)) 32)).cell? ⟨v2.heap.size, 3, none⟩ = some (.slice Y (t).log.length cy) := BY2a.out.cell 3
  go_wp2_with fail
  refine (like_calls p s A A cap cap now cost _ EA2a.out HCAP.out EA2a.out HN.out).mono ?_
  rintro e v3 ⟨rfl, hb3⟩
  have BP3 := Lib.hid (Box.keep BP2a.out hb3)
  have BS3 := Lib.hid (Box.keep BS2a.out hb3)
  have BA3 := Lib.hid (Box.keep BA2a.out hb3)
  have BX3 := Lib.hid (Box.keep BX2a.out hb3)
  have BY3 := Lib.hid (Box.keep BY2a.out hb3)
  have EA3 := Lib.hid (Ents.keep EA2a.out hb3)
  have EX3 := Lib.hid (Ents.keep EX2a.out hb3)
  have EY3 := Lib.hid (Ents.keep EY2a.out hb3)
  have HB3 := Lib.hid (HB2a.out.trans (hb3.mono HB2a.out.size))
  clear hb3
  clear cP2_0 cP2_1 cP2_2 cP2_3 cP2_4 cP2_5 cS2_0 cS2_1 cS2_2 cS2_3 cA2_0 cA2_1 cA2_2 cX2_0 cX2_1 cX2_2 cX2_3 cY2_0 cY2_1 cY2_2 cY2_3
  have cP3_0 : v3.cell? ⟨w.heap.size, 0, none⟩ = some (.int .i64 p.kind) := BP3.out.cell 0
  have cP3_1 : v3.cell? ⟨w.heap.size, 1, none⟩ = some (.int .i64 p.limit) := BP3.out.cell 1
  have cP3_2 : v3.cell? ⟨w.heap.size, 2, none⟩ = some (.int .i64 p.period) := BP3.out.cell 2
  have cP3_3 : v3.cell? ⟨w.heap.size, 3, none⟩ = some (.int .i64 p.burst) := BP3.out.cell 3
  have cP3_4 : v3.cell? ⟨w.heap.size, 4, none⟩ = some (.int .i64 p.cap) := BP3.out.cell 4
  have cP3_5 : v3.cell? ⟨w.heap.size, 5, none⟩ = some (.bool p.opn) := BP3.out.cell 5
  have cS3_0 : v3.cell? ⟨w.heap.size + 1, 0, none⟩ = some (.int .i64 (s).tm) := BS3.out.cell 0
  have cS3_1 : v3.cell? ⟨w.heap.size + 1, 1, none⟩ = some (.int .i64 (s).level) := BS3.out.cell 1
  have cS3_2 : v3.cell? ⟨w.heap.size + 1, 2, none⟩ = some (.int .i64 (s).held) := BS3.out.cell 2
  have cS3_3 : v3.cell? ⟨w.heap.size + 1, 3, none⟩ = some (.slice A (s).log.length cap) := BS3.out.cell 3
  have cA3_0 : v3.cell? ⟨w.heap.size + 1 + 1, 0, none⟩ = some (.int .i64 k) := BA3.out.cell 0
  have cA3_1 : v3.cell? ⟨w.heap.size + 1 + 1, 1, none⟩ = some (.int .i64 n) := BA3.out.cell 1
  have cA3_2 : v3.cell? ⟨w.heap.size + 1 + 1, 2, none⟩ = some (.int .i64 c) := BA3.out.cell 2
  have cX3_0 : v3.cell? ⟨v1.heap.size, 0, none⟩ = some (.int .i64 (t).tm) := BX3.out.cell 0
  have cX3_1 : v3.cell? ⟨v1.heap.size, 1, none⟩ = some (.int .i64 (t).level) := BX3.out.cell 1
  have cX3_2 : v3.cell? ⟨v1.heap.size, 2, none⟩ = some (.int .i64 (t).held) := BX3.out.cell 2
  have cX3_3 : v3.cell? ⟨v1.heap.size, 3, none⟩ = some (.slice X (t).log.length cx) := BX3.out.cell 3
  have cY3_0 : v3.cell? ⟨v2.heap.size, 0, none⟩ = some (.int .i64 (t).tm) := BY3.out.cell 0
  have cY3_1 : v3.cell? ⟨v2.heap.size, 1, none⟩ = some (.int .i64 (t).level) := BY3.out.cell 1
  have cY3_2 : v3.cell? ⟨v2.heap.size, 2, none⟩ = some (.int .i64 (t).held) := BY3.out.cell 2
  have cY3_3 : v3.cell? ⟨v2.heap.size, 3, none⟩ = some (.slice Y (t).log.length cy) := BY3.out.cell 3
  go_wp2_with fail
  refine (same_self t X Y cx cy _ EX3.out EY3.out HL.out).mono ?_
  rintro e v4 ⟨rfl, hb4⟩
  have BP4 := Lib.hid (Box.keep BP3.out hb4)
  have BS4 := Lib.hid (Box.keep BS3.out hb4)
  have BA4 := Lib.hid (Box.keep BA3.out hb4)
  have BX4 := Lib.hid (Box.keep BX3.out hb4)
  have BY4 := Lib.hid (Box.keep BY3.out hb4)
  have EA4 := Lib.hid (Ents.keep EA3.out hb4)
  have EX4 := Lib.hid (Ents.keep EX3.out hb4)
  have EY4 := Lib.hid (Ents.keep EY3.out hb4)
  have HB4 := Lib.hid (HB3.out.trans (hb4.mono HB3.out.size))
  clear hb4
  clear cP3_0 cP3_1 cP3_2 cP3_3 cP3_4 cP3_5 cS3_0 cS3_1 cS3_2 cS3_3 cA3_0 cA3_1 cA3_2 cX3_0 cX3_1 cX3_2 cX3_3 cY3_0 cY3_1 cY3_2 cY3_3
  go_wp2_with fail
  refine (known_calls _).mono ?_
  rintro e v5 ⟨rfl, hb5⟩
  have BP5 := Lib.hid (Box.keep BP4.out hb5)
  have BS5 := Lib.hid (Box.keep BS4.out hb5)
  have BA5 := Lib.hid (Box.keep BA4.out hb5)
  have BX5 := Lib.hid (Box.keep BX4.out hb5)
  have BY5 := Lib.hid (Box.keep BY4.out hb5)
  have EA5 := Lib.hid (Ents.keep EA4.out hb5)
  have EX5 := Lib.hid (Ents.keep EX4.out hb5)
  have EY5 := Lib.hid (Ents.keep EY4.out hb5)
  have HB5 := Lib.hid (HB4.out.trans (hb5.mono HB4.out.size))
  clear hb5
  go_wp2_with fail
  go_ret
  exact ⟨rfl, HB5.out⟩

theorem states_law (p : Pol) (s : St) (A : Option Addr) (cap : Nat) (k n c now cost : Int) (w : World) (hA : Ents w A s.log) (hcap : s.log.length ≤ cap) :
    Calls Try.prog 4 #[p.val, s.val A s.log.length cap, .agg (acells k n c), .int .i64 now, .int .i64 cost] w fun e w' => e = .returned (.bool true) ∧ Below w.heap.size w w' := by
  by_cases h : s.log.length ≤ 150
  · exact states_near p s A cap k n c now cost w hA hcap h
  · exact states_far p s A cap k n c now cost w h
end Wn
end Go.Proofs.Ytikfjdpkjifcdaa
