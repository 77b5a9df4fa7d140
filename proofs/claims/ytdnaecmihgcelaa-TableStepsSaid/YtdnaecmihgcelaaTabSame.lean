/-
  What the document's own Same answers over slices of texts, in any world.
-/
import Derived.Test.YtdnaecmihgcelaaTabBase
import Derived.Laws.IdiomStrings
import Derived.Deep.Draws
import Derived.Deep.QuietTactic
import Derived.BigQuiet
namespace Go.Proofs.Ytdnaecmihgcelaa
open Go.RowKit
namespace Hs

/-- a slice value reads as texts -/
def Texts (w : World) (A : Option Addr) (ps : List ByteArray) : Prop :=
  ∀ i (h : i < ps.length), ∃ a : Addr, A = some a ∧ w.cell? (a.add i) = some (.string ps[i])

theorem Texts.at_ {w : World} {A : Option Addr} {ps : List ByteArray} (h : Texts w A ps) {i : Nat} (hi : i < ps.length) : ∃ a : Addr, A = some a ∧ w.cell? (a.add i) = some (.string ps[i]) := h i hi
theorem Texts.keep {w w' : World} {A : Option Addr} {ps : List ByteArray} (h : Texts w A ps) (hb : Below w.heap.size w w') : Texts w' A ps := fun i hi => by
  obtain ⟨a, e, hc⟩ := h i hi
  exact ⟨a, e, by rw [hb.cell (World.block_lt_of_cell? w _ hc)]; exact hc⟩
theorem Texts.alloc {w : World} {A : Option Addr} {ps : List ByteArray} (h : Texts w A ps) (o : Obj) : Texts (w.alloc o) A ps := h.keep ((Below.refl _ _).alloc (Nat.le_refl _) _)
theorem Texts.nil (w : World) (A : Option Addr) : Texts w A [] := fun i hi => absurd hi (by simp)
/-- their bytes -/
def bys (ps : List ByteArray) : List (List UInt8) := ps.map fun p => p.data.toList

/-- the same texts -/
def sameB (ps qs : List ByteArray) : Bool := decide (bys ps = bys qs)

theorem same_len (ps qs : List ByteArray) (h : ps.length ≠ qs.length) : sameB ps qs = false := by
  unfold sameB
  rw [decide_eq_false_iff_not]
  intro e
  have := congrArg List.length e
  simp [bys] at this
  exact h this

theorem same_step (ps qs : List ByteArray) (k : Nat) (h1 : k < ps.length) (h2 : k < qs.length) (h : bys (ps.take k) = bys (qs.take k)) (hx : ps[k].data.toList = qs[k].data.toList) : bys (ps.take (k + 1)) = bys (qs.take (k + 1)) := by
  rw [show ps.take (k + 1) = ps.take k ++ [ps[k]] from List.take_succ_eq_append_getElem h1, show qs.take (k + 1) = qs.take k ++ [qs[k]] from List.take_succ_eq_append_getElem h2]
  unfold bys at h ⊢
  rw [List.map_append, List.map_append, h]
  simp [hx]
theorem same_not (ps qs : List ByteArray) (k : Nat) (h1 : k < ps.length) (h2 : k < qs.length) (hx : ¬ ps[k].data.toList = qs[k].data.toList) : sameB ps qs = false := by
  unfold sameB
  rw [decide_eq_false_iff_not]
  intro e
  have := congrArg (fun l => l[k]?) e
  simp [bys, h1, h2] at this
  exact hx (by rw [this])
theorem same_all (ps qs : List ByteArray) (k : Nat) (h1 : ¬ k < ps.length) (hn : ps.length = qs.length) (h : bys (ps.take k) = bys (qs.take k)) : sameB ps qs = true := by
  rw [List.take_of_length_le (by omega), List.take_of_length_le (by omega)] at h
  unfold sameB
  rw [h]; simp
theorem below_drewN_ {B : Nat} {a w : World} (h : Below B a w) (n : Nat) : Below B a (w.drewN n) := ⟨h.os, h.tape, h.output, h.size, h.block⟩

set_option maxHeartbeats 400000 in
theorem same_calls (A C : Option Addr) (cap cap2 : Nat) (ps qs : List ByteArray) (w : World) (hA : Texts w A ps) (hC : Texts w C qs) (hp : ps.length ≤ maxLen) :
    Calls Try.prog 19 #[.slice A ps.length cap, .slice C qs.length cap2] w fun e w' => e = .returned (.bool (sameB ps qs)) ∧ Below w.heap.size w w' := by
  unfold maxLen at hp
  by_cases hne : ps.length = qs.length
  · go_enter Try.func19, Try.ntmps19
    go_wp2
    go_loopw [5] (fun i wr => ∃ (k n : Nat), k ≤ ps.length ∧ i = .int .i64 k ∧ wr = w.drewN n ∧ Hid (bys (ps.take k) = bys (qs.take k))) (fun i _ => ps.length - (intOf i).toNat)
    case atStart => exact ⟨0, 0, Nat.zero_le _, rfl, rfl, by simp [Hid, bys]⟩
    case round =>
      obtain ⟨k, n, hk, rfl, rfl, H⟩ := hrel
      by_cases hlt : k < ps.length
      · obtain ⟨a, rfl, hc⟩ := hA.at_ hlt
        obtain ⟨a2, rfl, hc2⟩ := hC.at_ (show k < qs.length by omega)
        have i1 : (k : Int) < (ps.length : Int) := by omega
        have i2 : (k : Int) < (qs.length : Int) := by omega
        have i3 : k < qs.length := by omega
        by_cases hx : ps[k].data.toList = qs[k].data.toList
        · have hq1 : (ps[k].toList == qs[k].toList) = true := by rw [ByteArray.toList_eq, ByteArray.toList_eq, hx]; simp
          have HX := Lib.hid hx
          clear hx
          go_wp2
          go_quiet (fail)
          go_wp2
          go_roundw
          case rel => exact ⟨k + 1, n + nq, by omega, by go_num, rfl, same_step ps qs k hlt i3 H HX.out⟩
          case measure => simp [intOf]; omega
        · have hq1 : (ps[k].toList == qs[k].toList) = false := by rw [ByteArray.toList_eq, ByteArray.toList_eq]; simpa using hx
          have HX := Lib.hid hx
          clear hx
          go_wp2
          go_quiet (fail)
          go_wp2
          go_ret
          exact ⟨by rw [same_not ps qs k hlt i3 HX.out]; rfl, below_drewN_ (below_drewN_ (Below.refl _ _) _) _⟩
      · have HN := Lib.hid hne
        have hlt2 : decide (k < qs.length) = false := by simp; omega
        go_wp2
        go_ret
        exact ⟨by rw [same_all ps qs k hlt HN.out H]; rfl, below_drewN_ (Below.refl _ _) _⟩
  · have hnb : ((ps.length : Int) != (qs.length : Int)) = true := by simp; omega
    have HN := Lib.hid hne
    clear hne
    go_enter Try.func19, Try.ntmps19
    go_wp2
    go_ret
    exact ⟨by rw [same_len ps qs HN.out]; rfl, Below.refl _ _⟩


end Hs
end Go.Proofs.Ytdnaecmihgcelaa
