/-
  What the document's own Delete answers, in any world.
-/
import Derived.Test.YtdnaecmihgcelaaTabRfB
namespace Go.Proofs.Ytdnaecmihgcelaa.Tb
open Go.RowKit
namespace Pr

theorem del_take {l : PL} {key : ByteArray} {k : Nat} (hk : k < l.length) : del (l.take (k + 1)) key = del (l.take k) key ++ if l[k].1 = key then [] else [(l[k].1, l[k].2)] := by
  unfold del
  rw [List.take_succ_eq_append_getElem hk, List.filter_append]
  by_cases hc : l[k].1 = key <;> simp [hc]
theorem del_len_le (l : PL) (key : ByteArray) : (del l key).length ≤ l.length := List.length_filter_le _ _
theorem del_shorter (l : PL) (key : ByteArray) : decide (((del l key).length : Int) < (l.length : Int)) = has l key := by
  cases h : has l key with
  | false => rw [del_none h]; simp
  | true =>
    obtain ⟨e, he, hk⟩ := has_iff.1 h
    have : (del l key).length < l.length := by
      unfold del
      rw [List.length_filter_lt_length_iff_exists]
      exact ⟨e, he, by simp [hk]⟩
    simp; omega

/-- what stands in memory while the pairs are gone through -/
def Del (w wr : World) (room : Nat) (l : PL) (A : Option Addr) (cap : Nat) (key : ByteArray) (k : Nat) (v : Value) : Prop :=
  Below w.heap.size w wr ∧ Box wr w.heap.size 29 (tc room A l.length cap) ∧ Box wr (w.heap.size + 1) 29 (tc 0 none 0 0) ∧ Box wr (w.heap.size + 1 + 1) 29 #[.int .i64 (room : Nat), v] ∧ Own wr (w.heap.size + 1 + 1 + 1) v (del (l.take k) key)
theorem Del.drewN {w wr : World} {room : Nat} {l : PL} {A : Option Addr} {cap k : Nat} {key : ByteArray} {v : Value} (h : Del w wr room l A cap key k v) (n : Nat) : Del w (wr.drewN n) room l A cap key k v :=
  ⟨below_drewN h.1 n, h.2.1.drewN n, h.2.2.1.drewN n, h.2.2.2.1.drewN n, h.2.2.2.2.drewN n⟩
theorem Del.skip {w wr : World} {room : Nat} {l : PL} {A : Option Addr} {cap k : Nat} {key : ByteArray} {v : Value} (h : Del w wr room l A cap key k v) (hk : k < l.length) (hx : l[k].1 = key) : Del w wr room l A cap key (k + 1) v := by
  refine ⟨h.1, h.2.1, h.2.2.1, h.2.2.2.1, ?_⟩
  rw [del_take hk, if_pos hx, List.append_nil]; exact h.2.2.2.2
theorem Del.more {w wr w5 : World} {room : Nat} {l : PL} {A : Option Addr} {cap k : Nat} {key : ByteArray} {v v' : Value} (h : Del w wr room l A cap key k v) (hk : k < l.length) (hx : ¬ l[k].1 = key) (o : Obj)
    (ho : Own w5 (w.heap.size + 1 + 1 + 1) v' (del (l.take k) key ++ [(l[k].1, l[k].2)])) (hgr : ((wr.alloc o).drew).grownBy w5 v.ownBlock) : Del w (w5.setCell ⟨w.heap.size + 1 + 1, 1, none⟩ v') room l A cap key (k + 1) v' := by
  obtain ⟨h1, h2, h3, h4, h5⟩ := h
  have hoa : Own ((wr.alloc o).drew) (w.heap.size + 1 + 1 + 1) v (del (l.take k) key) := (h5.alloc o).drewN 1
  have hbel : Below w.heap.size w w5 := (below_drewN (h1.alloc h1.size o) 1).grown hgr (Nat.le_trans h1.size (by simp)) (fun q hq => by have := (World.ownsRow.lt hoa q hq).1; omega)
  have hb4 : Box w5 (w.heap.size + 1 + 1) 29 #[.int .i64 (room : Nat), v] := Box.grownOther ((h4.alloc o).drewN 1) hoa (by decide) hgr
  refine ⟨hbel.setCell (by show w.heap.size ≤ w.heap.size + 1 + 1; omega) _,
    (Box.grownOther ((h2.alloc o).drewN 1) hoa (by decide) hgr).far1 (by omega) _ _, (Box.grownOther ((h3.alloc o).drewN 1) hoa (by decide) hgr).far1 (by omega) _ _, hb4.put1 _, ?_⟩
  rw [del_take hk, if_neg hx]
  exact ho.setBox hb4 (by decide) _ _

set_option maxHeartbeats 4000000 in
set_option maxRecDepth 100000 in
theorem rdel_calls (room : Nat) (l : PL) (A : Option Addr) (n cap : Nat) (key : ByteArray) (w : World) (hn : n = l.length) (hA : PR w A l) (hl : l.length ≤ 10000) :
    Calls Try.prog 31 #[tv room A n cap, .string key] w fun e w' => ∃ A' n' cap', e = .returned (.tuple #[tv room A' n' cap', .bool (has l key)]) ∧ (n' = (del l key).length ∧ Own w' w.heap.size (.slice A' n' cap') (del l key)) ∧ Below w.heap.size w w' := by
  subst hn
  have HA := Lib.hid hA.1
  clear hA
  have HG0 : Hid (Del w (((w.alloc (tbox room A l.length cap)).alloc (tbox 0 none 0 0)).alloc (tbox room none 0 0)) room l A cap key 0 (.slice none 0 0)) := Lib.hid (by
    refine ⟨(((Below.refl _ _).alloc (Nat.le_refl _) _).alloc (by simp) _).alloc (by simp; omega) _, ((Box.new _ _ _).alloc _).alloc _, (Box.new1 _ _ _ _).alloc _, ?_, Own.nil _ _⟩
    have := Box.new1 (w.alloc (tbox room A l.length cap)) 29 (tc room none 0 0) (tbox 0 none 0 0)
    simpa using this)
  go_enter Try.func31, Try.ntmps31
  go_wp2_with fail
  go_loopw [7] (fun i wr => ∃ (k : Nat) (v : Value), k ≤ l.length ∧ i = .int .i64 (k : Nat) ∧ Hid (Del w wr room l A cap key k v)) (fun i _ => l.length - (intOf i).toNat)
  case atStart => exact ⟨0, _, Nat.zero_le _, rfl, HG0.out⟩
  case round =>
    obtain ⟨k, v, hk, rfl, H⟩ := hrel
    have H := Lib.hid (show Del w wr room l A cap key k v from H)
    have d1 : wr.cell? ⟨w.heap.size, 1, none⟩ = some (.slice A l.length cap) := H.out.2.1.cell 1
    by_cases hlt : k < l.length
    · obtain ⟨a, rfl, c1, c2⟩ := (HA.out.keep H.out.1).at_ hlt
      have i1 : (k : Int) < (l.length : Int) := by omega
      have i0 : ¬ (k : Int) < 0 := by omega
      by_cases hx : l[k].1 = key
      · have tq := str_eq hx
        have HS := Lib.hid (H.out.skip hlt hx)
        clear hx
        go_wp2_with fail
        go_roundw
        case rel => exact ⟨k + 1, v, by omega, by go_num, HS.out⟩
        case measure => simp [intOf]; omega
      · have tq := str_ne hx
        have HX := Lib.hid hx
        have u1 : wr.cell? ⟨w.heap.size + 1 + 1, 1, none⟩ = some v := H.out.2.2.2.1.cell 1
        have uf : wr.frozen? ⟨w.heap.size + 1 + 1, 1, none⟩ = false := H.out.2.2.2.1.free 1
        have zt : w.heap.size + 1 + 1 < wr.heap.size := H.out.2.2.2.1.lt
        clear hx
        go_wp2_with fail
        have ag : Value.ownBlock v ≠ some (w.heap.size + 1 + 1) := fun e => by have := (World.ownsRow.lt H.out.2.2.2.2 _ e).1; omega
        have HKL := Lib.hid (show (del (l.take k) key).length ≤ 20000 by have := del_len_le (l.take k) key; have := List.length_take_le k l; omega)
        have HTF := Lib.hid (show ∀ o, ((wr.alloc o).drew).frozen? ⟨w.heap.size + 1 + 1, 1, none⟩ = false from fun o => (World.frozen?_alloc_past o _ _ zt).trans uf)
        have HTC := Lib.hid (show ∀ o, ((wr.alloc o).drew).cell? ⟨w.heap.size + 1 + 1, 1, none⟩ = some v from fun o => (World.cell?_alloc_past o _ _ zt).trans u1)
        have HLT := Lib.hid (show ∀ o, w.heap.size + 1 + 1 < ((wr.alloc o).drew).heap.size from fun o => by simp; omega)
        have HZB := Lib.hid (show ∀ o, w.heap.size + 1 + 1 + 1 ≤ ((wr.alloc o).drew).heap.size from fun o => by simp; omega)
        go_region_law (refine step_append_ent2 (by rfl) _ _ (by rfl) (w.heap.size + 1 + 1 + 1) v (del (l.take k) key) (by rfl) ((H.out.2.2.2.2.alloc _).keep (Below.refl _ _).drew) wr.heap.size l[k].1 l[k].2 (by rfl) (heap_alloc_new wr _) HKL.out (HZB.out _) ?_; intro g5 cap5 w5 ho5 hgr5; have tf5 := (hgr5.frozen_far ⟨w.heap.size + 1 + 1, 1, none⟩ (HLT.out _) (Ne.symm ag)).trans (HTF.out _); have tc5 := (hgr5.cell_far ⟨w.heap.size + 1 + 1, 1, none⟩ (HLT.out _) (Ne.symm ag)).trans (HTC.out _); have HM := Lib.hid (H.out.more hlt HX.out _ ho5 hgr5); clear hgr5 ho5)
        all_goals
          go_wp2_with fail
          go_roundw
          case rel => exact ⟨k + 1, _, by omega, by go_num, HM.out⟩
          case measure => simp [intOf]; omega
    · have HS := Lib.hid (show del (l.take k) key = del l key by rw [List.take_of_length_le (by omega)])
      obtain ⟨A5, n5, cap5, rfl, e5⟩ := H.out.2.2.2.2.form
      rw [HS.out] at e5
      have q0 : wr.cell? ⟨w.heap.size + 1 + 1, 0, none⟩ = some (.int .i64 (room : Nat)) := H.out.2.2.2.1.cell 0
      have q1 : wr.cell? ⟨w.heap.size + 1 + 1, 1, none⟩ = some (.slice A5 n5 cap5) := H.out.2.2.2.1.cell 1
      have e0 : wr.cell? ⟨w.heap.size + 1, 0, none⟩ = some (.int .i64 (0 : Nat)) := H.out.2.2.1.cell 0
      have e1 : wr.cell? ⟨w.heap.size + 1, 1, none⟩ = some (.slice none 0 0) := H.out.2.2.1.cell 1
      have f0 : wr.frozen? ⟨w.heap.size + 1, 0, none⟩ = false := H.out.2.2.1.free 0
      have f1 : wr.frozen? ⟨w.heap.size + 1, 1, none⟩ = false := H.out.2.2.1.free 1
      have EN := Lib.hid e5
      have ED := Lib.hid (show decide (n5 < l.length) = has l key by rw [← del_shorter l key, e5]; simp)
      clear e5
      go_wp2_with fail
      have HR := Lib.hid H.out
      clear H HA
      go_region_law (fail)
      all_goals
        go_wp2_with fail
        refine ret_t2 (b := .bool (has l key)) Try.results31 ?_ ?_ ?_ (Box.drew (Box.set2 HR.out.2.2.1 _ _)) ?_
        · rfl
        · show Value.bool (decide (n5 < l.length)) = _
          rw [ED.out]
        · rfl
        · refine ⟨A5, n5, cap5, rfl, ⟨EN.out, ?_⟩, below_drewN (below_set2 HR.out.1 (by omega) _ _) 1⟩
          have h := (HR.out.2.2.2.2.setBox HR.out.2.2.1 (by decide) 0 (.int .i64 (room : Nat))).setBox (heap_setCell_same _ _ 0 _ _ _ HR.out.2.2.1) (by decide) 1 (.slice A5 n5 cap5)
          rw [HS.out] at h
          exact (h.drewN 1).mono (by omega)

end Pr
end Go.Proofs.Ytdnaecmihgcelaa.Tb
