/-
  The keys of a map, one behind the other, in whatever order.
-/
import Derived.Test.YtekjohgnfplfjaaVarG
import Derived.RangeFuncFrom
import Derived.RangeFuncNested
import Derived.RangeFuncBound
import Derived.RangeFuncCalls
import Derived.RangeFuncLeaves
import Derived.RangeFuncBox
import Derived.Shelf.Abstract
import Derived.Shelf.RegionOpen
import Derived.OwnWalkIn
import Derived.TacticsInMore
import Derived.LoopNIn
import Derived.LoopIn
import Derived.Maps.AppendAt
import Derived.Stop.RegionWithIn
import Derived.Sort.CutIn
import Derived.Sort.MapsRangeIn
namespace Go.Proofs.Ytekjohgnfplfjaa.Va
open Go.RowKit Go.Maps Go.Shelf
open Go.Proofs (encStr)
attribute [local go_sem] Oper.semAt_some

abbrev KB := { k : ByteArray // k.size ≤ maxLen }
abbrev encs (x : KB) : Array Value := #[.string x.1]
def raw (xs : List KB) : List (List UInt8) := xs.map fun x => x.1.data.toList

theorem maps_calls (mb : Option Nat) (w : World) : Calls Try.prog 26 #[.map mb] w fun e w' =>
    e = .returned (.func (.func 32) #[] #[.pointer (some ⟨w.heap.size, 0, none⟩)]) ∧ w' = w.alloc (.cells #[.map mb] 48) := by
  go_enter Try.func26, Try.ntmps26
  go_wp2_with fail
  go_ret
  exact ⟨rfl, rfl⟩

set_option maxRecDepth 100000 in
set_option maxHeartbeats 1000000 in
theorem keys1_in (n : Nat) (hn : 1 ≤ n) (l Bm b : Nat) {L : VL} {bl : ByteArray → Nat} {D : Dt} (hr : Reads D L bl) (g : Rising L) (J Jx : List KB → World → Prop)
    (hY : ∀ pre x W, J pre W → pre.length < L.length → YieldAt Fence.wide (n - 1) Try.prog l (encs x) W fun e W' =>
      (e = .returned (.bool true) ∧ J (pre ++ [x]) W' ∧ KeepsWalks W W') ∨ (e = .returned (.bool false) ∧ Jx (pre ++ [x]) W'))
    (W : World) (hJ : AbidesFrom W.heap.size J) (hm : W.cell? ⟨Bm, 0, none⟩ = some (.map (some b))) (hown : W.ownsMap Try.prog 9 ptrElem b L.length D) (h0 : J [] W) :
    CallsIn Fence.wide n Try.prog 32 #[.func (.yield l) #[] #[], .pointer (some ⟨Bm, 0, none⟩)] W fun e W' => (∃ v, e = .returned v) ∧
      ((∃ xs, (raw xs).Perm (L.map fun x => x.1.data.toList) ∧ J xs W') ∨ (∃ pre, True ∧ Jx pre W')) := by
  have hsz := size_is hown hr g
  have hpm := keys_perm hown hr g
  refine callsIn_of_wp Try.func32 rfl trivial ?_ rfl
  simp only [Try.ntmps32, List.size_toArray, List.length_cons, List.length_nil, Nat.reduceAdd, Nat.reduceSub, Array.replicate_succ, Array.replicate_zero, List.push_toArray, List.append_toArray, List.nil_append, List.cons_append]
  gi_wp2_with (first
    | (gi_at_range; refine wpListIn_range_own _ rfl _ 48 rfl 9 51 law Try.underlying48 _ b _ _ rfl hown ?_; intro w0 hrg0 hg0 hs0)
    | gi_in)
  go_frame
  clear hs0
  gi_loopw [3] (fun _ wr => ∃ (left : Lit → Bool) (cnt : Nat) (xs : List KB), wr.ranges Try.prog 9 ptrElem b W.heap.size L.length D left cnt ∧ xs.length + cnt ≤ L.length ∧ Collected D left (raw xs) ∧ J xs wr)
    (fun _ wr => wr.rangeLeft b W.heap.size)
  case atStart =>
    exact ⟨_, _, [], hrg0, by simp [hsz], Collected.start D, hJ [] W w0 none h0 hg0 (fun r e => by cases e)⟩
  case round =>
    obtain ⟨left, cnt, xs, hrg, hcs, hC, hJs⟩ := hrel
    gi_wp2_with (first
      | (gi_at_next; refine wpListIn_next_ranges _ rfl _ rfl 9 law ptrElem encStr ptr (fun key kl hk => by obtain ⟨x, hx, _⟩ := Maps.keyOf_str Try.underlying9 hk; exact ⟨x, hx⟩) (fun v y hv => by obtain ⟨c, e, _⟩ := ptrElem_inv hv; exact ⟨c, e⟩) b W.heap.size L.length _ _ _ rfl hrg ?_ ?_)
      | gi_in)
    · intro hc0 hl0
      gi_wp2
      go_end0
      exact ⟨⟨_, rfl⟩, .inl ⟨xs, (hC.perm hown law Try.underlying9 hl0).trans hpm.symm, hJs⟩⟩
    · intro x c kl yd yp w2 cnt2 hkey hlk hv hat hrg2 hlt hg2 hs2 hen
      obtain ⟨x', ex, rfl, hle⟩ := Maps.keyOf_str Try.underlying9 hkey
      obtain rfl : x = x' := encStr_inj ex
      have hks : (kb x).size ≤ maxLen := by unfold kb ByteArray.size; simpa using hle
      have hJ2 : J xs w2 := hJ xs wr w2 (some W.heap.size) hJs hg2 (fun r e => by cases e; exact ⟨Nat.le_refl _, hrg.iter_walk⟩)
      obtain ⟨fn, tmps, assign, body, hy, hR⟩ := hY xs ⟨kb x, hks⟩ w2 hJ2 (by omega)
      clear hs2
      simp only [encs, kb] at hy
      gi_wp2
      refine hR.mono ?_
      have hC2 := hC.step hlk hat
      rintro e W3 (⟨rfl, hJ3, hk3⟩ | ⟨rfl, hJx3⟩)
      · gi_wp2
        have hrg3 := hrg2.of_walks hk3
        go_roundw
        case rel => exact ⟨_, cnt2, xs ++ [⟨kb x, hks⟩], hrg3, by simp; omega, by simpa [raw, kb] using hC2, hJ3⟩
        case measure => rw [hrg3.left_eq, hrg.left_eq]; exact hlt
      · gi_wp2
        refine bodyPost_ret (results_none rfl _ _ _) rfl ?_
        exact ⟨⟨_, rfl⟩, .inr ⟨xs ++ [⟨kb x, hks⟩], trivial, hJx3⟩⟩

theorem keys_stops (n : Nat) (hn : 1 ≤ n) (Bm b : Nat) {L : VL} {bl : ByteArray → Nat} {D : Dt} (hr : Reads D L bl) (g : Rising L) (w : World) (hB : Bm < w.heap.size) (hm : w.cell? ⟨Bm, 0, none⟩ = some (.map (some b))) (hown : w.ownsMap Try.prog 9 ptrElem b L.length D) :
    SeqStopsK Fence.wide n Try.prog 32 #[.pointer (some ⟨Bm, 0, none⟩)] encs KeepsWalks (fun xs => (raw xs).Perm (L.map fun x => x.1.data.toList)) (fun _ => True) L.length w := fun l J Jx W hW hJ _ hY h0 =>
  keys1_in n hn l Bm b hr g J Jx hY W hJ ((hW.cell (p := ⟨Bm, 0, none⟩) hB).trans hm) (ownsMap_eq hown (hW.block b hown.lt)) h0
end Go.Proofs.Ytekjohgnfplfjaa.Va
