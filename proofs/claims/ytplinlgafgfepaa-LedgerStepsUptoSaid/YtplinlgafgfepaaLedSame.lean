/-
  What the document's own Same, SameDue and Same (of limits) answer of what reads alike: true.
-/
import Derived.Test.YtplinlgafgfepaaLedVC
import Derived.Deep.Slices
import Derived.Deep.Fields
import Derived.Deep.Draws
import Derived.Deep.QuietTactic
import Derived.BigQuiet
import Derived.ChangeSame
import Derived.Lib.SmallJoins
namespace Go.Proofs.Ytplinlgafgfepaa.Ld
open Go.RowKit

theorem keep2 {w w' : World} (hb : Below w.heap.size w w') {a : Addr} {v : Value} (h : w.cell? a = some v) : w'.cell? a = some v := by
  rw [hb.cell (World.block_lt_of_cell? w _ h)]; exact h
theorem Lims.keep {S : Nat → Prop} {w w' : World} {A : Option Addr} {l : List Lim} (h : Lims S w A l) (hb : Below w.heap.size w w') : Lims S w' A l := fun i hi => by
  obtain ⟨a, e, hs, hc⟩ := h i hi
  exact ⟨a, e, hs, fun j v hv => keep2 hb (hc j v hv)⟩
theorem Dues.keep {S : Nat → Prop} {w w' : World} {A : Option Addr} {l : LL (List Lim)} (h : Dues S w A l) (hb : Below w.heap.size w w') : Dues S w' A l := fun i hi => by
  obtain ⟨a, e, hs, h0, h1, A', cap, h2, h3⟩ := h i hi
  exact ⟨a, e, hs, keep2 hb h0, keep2 hb h1, A', cap, keep2 hb h2, h3.keep hb⟩

/-- a world in which W's memory is as it was -/
def Grow (W : World) : Type := { w : World // Below W.heap.size W w }
instance grow_some (W : World) : Nonempty (Grow W) := ⟨⟨W, Below.refl _ _⟩⟩
def Grow.w {W : World} (g : Grow W) : World := g.1
theorem Grow.below {W : World} (g : Grow W) : Below W.heap.size W g.w := g.2
theorem Grow.cell {W : World} {a : Addr} {v : Value} (h : W.cell? a = some v) (g : Grow W) : g.w.cell? a = some v := keep2 g.below h
theorem wp_region_grow {P : Program} {id : Nat} {Q : Exit → Go.Act → World → Prop} {a : Go.Act} {W : World} {l : List Oper} (hm : P.follows .mixedOrders = true) (hB : Region.lexB .any l.toArray = true)
    (h : wpQuiet P l.toArray (fun w' => ∃ g : Grow W, w' = g.w) (fun a' => ∀ w', (∃ g : Grow W, w' = g.w) → Q .normal a' w') l a) : (Code.region id l.toArray true).wp P Q a W :=
  wp_region_quiet (C := fun w' => ∃ g : Grow W, w' = g.w) hm hB ⟨⟨W.drew, (Below.refl _ _).drew⟩, rfl⟩ (by simpa using h)
theorem grow_call {P : Program} {f : FuncId} {args : Array Value} {W : World} {g : Grow W} {v : Value} (h : Calls P f args g.w fun e w' => e = .returned v ∧ Below g.w.heap.size g.w w') :
    Calls P f args g.w fun e w'' => e = .returned v ∧ ∃ m : Grow W, w'' = m.w :=
  h.mono fun _ w' ⟨he, hb⟩ => ⟨he, ⟨w', g.below.trans (hb.mono g.below.size)⟩, rfl⟩

set_option maxHeartbeats 1000000 in
theorem lims_calls {S T : Nat → Prop} (A C : Option Addr) (cap cap2 : Nat) (l : List Lim) (w : World) (hA : Lims S w A l) (hC : Lims T w C l) (hp : l.length ≤ 1048576) :
    Calls Try.prog 26 #[.slice A l.length cap, .slice C l.length cap2] w fun e w' => e = .returned (.bool true) ∧ Below w.heap.size w w' := by
  have HA := Lib.hid hA
  have HC := Lib.hid hC
  clear hA hC
  go_enter Try.func26, Try.ntmps26
  go_wp2
  go_loopw [5] (fun i wr => ∃ (k n : Nat), k ≤ l.length ∧ i = .int .i64 k ∧ wr = w.drewN n) (fun i _ => l.length - (intOf i).toNat)
  case atStart => exact ⟨0, 0, Nat.zero_le _, rfl, rfl⟩
  case round =>
    obtain ⟨k, n, hk, rfl, rfl⟩ := hrel
    by_cases hlt : k < l.length
    · obtain ⟨a, rfl, -, c0, c1, c2, c3, c4, c5, c6, c7⟩ := HA.out.at_ hlt
      obtain ⟨a2, rfl, -, d0, d1, d2, d3, d4, d5, d6, d7⟩ := HC.out.at_ hlt
      have i1 : (k : Int) < (l.length : Int) := by omega
      generalize l[k] = x at c0 c1 c2 c3 c4 c5 c6 c7 d0 d1 d2 d3 d4 d5 d6 d7
      go_wp2
      go_quiet (fail)
      go_wp2
      go_roundw
      case rel => exact ⟨k + 1, n + nq, by omega, by go_num, rfl⟩
      case measure => simp [intOf]; omega
    · go_wp2
      go_ret
      exact ⟨rfl, below_drewN (Below.refl _ _) n⟩

set_option maxHeartbeats 1000000 in
theorem sameDue_calls {S T : Nat → Prop} (d : Du (List Lim)) (A C : Option Addr) (cap cap2 : Nat) (w : World) (hA : Lims S w A d.2.2) (hC : Lims T w C d.2.2) (hp : d.2.2.length ≤ 1048576) :
    Calls Try.prog 19 #[dv d A cap, dv d C cap2] w fun e w' => e = .returned (.bool true) ∧ Below w.heap.size w w' := by
  obtain ⟨id, till, l⟩ := d
  simp only at hA hC hp
  have hb : Below w.heap.size w ((w.alloc (.cells #[.int .i64 (id : Nat), .int .i64 (till : Nat), .slice A l.length cap] 38)).alloc (.cells #[.int .i64 (id : Nat), .int .i64 (till : Nat), .slice C l.length cap2] 38)) := ((Below.refl _ _).alloc (Nat.le_refl _) _).alloc (by simp) _
  have HA := Lib.hid (hA.keep hb)
  have HC := Lib.hid (hC.keep hb)
  have HB := Lib.hid hb
  clear hA hC hb
  unfold dv
  go_enter Try.func19, Try.ntmps19
  go_wp2_with fail
  refine (lims_calls A C cap cap2 l _ HA.out HC.out hp).mono ?_
  rintro e w1 ⟨rfl, hb1⟩
  have HB1 := Lib.hid (HB.out.trans (hb1.mono HB.out.size))
  clear hb1
  go_wp2_with fail
  go_ret
  exact ⟨rfl, HB1.out⟩

set_option maxHeartbeats 1000000 in
theorem same_calls {S T : Nat → Prop} (A C : Option Addr) (cap cap2 : Nat) (l : LL (List Lim)) (w : World) (hA : Dues S w A l) (hC : Dues T w C l) (hp : l.length ≤ 1048576) (hf : ∀ x ∈ l, x.2.2.length ≤ 1048576) :
    Calls Try.prog 18 #[.slice A l.length cap, .slice C l.length cap2] w fun e w' => e = .returned (.bool true) ∧ Below w.heap.size w w' := by
  have HA := Lib.hid hA
  have HC := Lib.hid hC
  have HF := Lib.hid hf
  clear hA hC hf
  go_enter Try.func18, Try.ntmps18
  go_wp2
  go_loopw [5] (fun i wr => ∃ (k : Nat), k ≤ l.length ∧ i = .int .i64 k ∧ Hid (Below w.heap.size w wr)) (fun i _ => l.length - (intOf i).toNat)
  case atStart => exact ⟨0, Nat.zero_le _, rfl, Below.refl _ _⟩
  case round =>
    obtain ⟨k, hk, rfl, HB⟩ := hrel
    by_cases hlt : k < l.length
    · obtain ⟨a, rfl, -, c0, c1, A', cap3, c2, hA2⟩ := (HA.out.keep HB.out).at_ hlt
      obtain ⟨a2, rfl, -, d0, d1, C', cap4, d2, hC2⟩ := (HC.out.keep HB.out).at_ hlt
      have i1 : (k : Int) < (l.length : Int) := by omega
      have hfx := HF.out _ (List.getElem_mem hlt)
      generalize l[k] = x at c0 c1 c2 d0 d1 d2 hA2 hC2 hfx
      have HA2 := Lib.hid hA2
      have HC2 := Lib.hid hC2
      have HFX := Lib.hid hfx
      have HL : Hid (Calls Try.prog 19 #[dv x A' cap3, dv x C' cap4] = Calls Try.prog 19 #[dv x A' cap3, dv x C' cap4]) := Lib.hid rfl
      clear hA2 hC2 hfx
      have g0 := fun g : Grow wr => g.cell c0
      have g1 := fun g : Grow wr => g.cell c1
      have g2 := fun g : Grow wr => g.cell c2
      have h0 := fun g : Grow wr => g.cell d0
      have h1 := fun g : Grow wr => g.cell d1
      have h2 := fun g : Grow wr => g.cell d2
      go_wp2
      refine wp_region_grow (by kernel_rfl) (by kernel_rfl) ?_
      repeat (go_big_quiet_step ((go_at_call 19; exact grow_call (sameDue_calls x A' C' cap3 cap4 _ (HA2.out.keep (Grow.below _)) (HC2.out.keep (Grow.below _)) HFX.out))))
      refine wpQuiet_nil ?_
      intro _ hw'
      obtain ⟨gq, hw''⟩ := hw'
      subst hw''
      have HB2 := Lib.hid (HB.out.trans (gq.below.mono HB.out.size))
      clear g0 g1 g2 h0 h1 h2 c0 c1 c2 d0 d1 d2
      go_wp2
      go_roundw
      case rel => exact ⟨k + 1, by omega, by go_num, HB2.out⟩
      case measure => simp [intOf]; omega
    · go_wp2
      go_ret
      exact ⟨rfl, HB.out⟩
end Go.Proofs.Ytplinlgafgfepaa.Ld
