/-
  What the document's own Step answers, in any world.
-/
import Derived.Test.YtdnaecmihgcelaaTabRfE
namespace Go.Proofs.Ytdnaecmihgcelaa.Tb
open Go.RowKit
namespace Pr

set_option maxHeartbeats 400000 in
set_option maxRecDepth 100000 in
theorem rstep_calls (room : Nat) (l : PL) (A : Option Addr) (n cap : Nat) (d : Act) (w : World) (hn : n = l.length) (hA : PR w A l) (hl : l.length ≤ 10000) :
    Calls Try.prog 14 #[tv room A n cap, dval d] w fun e w' => ∃ A' n' cap', e = .returned (.tuple #[tv room A' n' cap', .int .i64 (stepL room l d).2.1, .bool (stepL room l d).2.2]) ∧ (n' = (stepL room l d).1.length ∧ PR w' A' (stepL room l d).1) ∧ Below w.heap.size w w' := by
  obtain ⟨kd, key, v⟩ := d
  have HB := Lib.hid (below3 w (tbox room A n cap) (dbox (kd, key, v)) (tbox 0 none 0 0))
  have BR0 : Hid (Box (((w.alloc (tbox room A n cap)).alloc (dbox (kd, key, v))).alloc (tbox 0 none 0 0)) (w.heap.size + 1 + 1) 29 (tc 0 none 0 0)) := Lib.hid (by
    have := Box.new1 (w.alloc (tbox room A n cap)) 29 (tc 0 none 0 0) (dbox (kd, key, v))
    simpa using this)
  have HA0 := Lib.hid (((hA.alloc (tbox room A n cap)).alloc (dbox (kd, key, v))).alloc (tbox 0 none 0 0))
  have HNN := Lib.hid hn
  have HAA := Lib.hid hA
  clear hA hn
  by_cases k1 : kd = 1
  · subst k1
    have E := Lib.hid (show stepL room l (1, key, v) = ((put room l key v).1, 0, (put room l key v).2) from rfl)
    go_enter Try.func14, Try.ntmps14
    go_wp2_with fail
    refine (rput_calls room l A n cap key v _ HNN.out HA0.out hl).mono ?_
    rintro e w2 ⟨A2, n2, cap2, rfl, ⟨hn2, hp2⟩, hb2⟩
    generalize put room l key v = pu at E hn2 hp2 ⊢
    have HB2 := Lib.hid (HB.out.trans (hb2.mono HB.out.size))
    have BR2 := Lib.hid (BR0.out.keep hb2)
    have HP2 := Lib.hid hp2
    have HN2 := Lib.hid hn2
    clear hb2 hp2 hn2
    have z1 : w.heap.size + 1 + 1 < w2.heap.size := BR2.out.lt
    have r0 : w2.cell? ⟨w.heap.size + 1 + 1, 0, none⟩ = some (.int .i64 (0 : Nat)) := BR2.out.cell 0
    have r1 : w2.cell? ⟨w.heap.size + 1 + 1, 1, none⟩ = some (.slice none 0 0) := BR2.out.cell 1
    have rf0 : w2.frozen? ⟨w.heap.size + 1 + 1, 0, none⟩ = false := BR2.out.free 0
    have rf1 : w2.frozen? ⟨w.heap.size + 1 + 1, 1, none⟩ = false := BR2.out.free 1
    have F := Lib.hid (finA HB2.out (by omega) BR2.out HP2.out (.int .i64 (room : Nat)) (.slice A2 n2 cap2) (tbox room A2 n2 cap2))
    go_wp2_with fail
    refine ret_t3 (b := .int .i64 0) (c := .bool pu.2) Try.results14 ?_ ?_ ?_ ?_ F.out.1 ?_
    · rfl
    · rfl
    · rfl
    · rfl
    · rw [E.out]
      exact ⟨_, _, _, rfl, ⟨HN2.out, F.out.2.1⟩, F.out.2.2⟩
  · have t1 : (kd == 1) = false := beq_eq_false_iff_ne.2 k1
    by_cases k2 : kd = 2
    · subst k2
      have E := Lib.hid (show stepL room l (2, key, v) = (get l key, getv l key, has l key) from rfl)
      clear k1 t1
      go_enter Try.func14, Try.ntmps14
      go_wp2_with fail
      refine (rget_calls room l A n cap key _ HNN.out HA0.out hl).mono ?_
      rintro e w2 ⟨A2, n2, cap2, rfl, ⟨hn2, hp2⟩, hb2⟩
      generalize get l key = gl at E hn2 hp2 ⊢
      generalize getv l key = gv at E ⊢
      generalize has l key = hs at E ⊢
      have HB2 := Lib.hid (HB.out.trans (hb2.mono HB.out.size))
      have BR2 := Lib.hid (BR0.out.keep hb2)
      have HP2 := Lib.hid hp2
      have HN2 := Lib.hid hn2
      clear hb2 hp2 hn2
      have z1 : w.heap.size + 1 + 1 < w2.heap.size := BR2.out.lt
      have r0 : w2.cell? ⟨w.heap.size + 1 + 1, 0, none⟩ = some (.int .i64 (0 : Nat)) := BR2.out.cell 0
      have r1 : w2.cell? ⟨w.heap.size + 1 + 1, 1, none⟩ = some (.slice none 0 0) := BR2.out.cell 1
      have rf0 : w2.frozen? ⟨w.heap.size + 1 + 1, 0, none⟩ = false := BR2.out.free 0
      have rf1 : w2.frozen? ⟨w.heap.size + 1 + 1, 1, none⟩ = false := BR2.out.free 1
      have F := Lib.hid (fin HB2.out (by omega) BR2.out HP2.out (.int .i64 (room : Nat)) (.slice A2 n2 cap2))
      go_wp2_with fail
      refine ret_t3 (b := .int .i64 gv) (c := .bool hs) Try.results14 ?_ ?_ ?_ ?_ F.out.1 ?_
      · rfl
      · rfl
      · rfl
      · rfl
      · rw [E.out]
        exact ⟨_, _, _, rfl, ⟨HN2.out, F.out.2.1⟩, F.out.2.2⟩
    · have t2 : (kd == 2) = false := beq_eq_false_iff_ne.2 k2
      by_cases k3 : kd = 3
      · subst k3
        have E := Lib.hid (show stepL room l (3, key, v) = (del l key, 0, has l key) from rfl)
        clear k1 t1 k2 t2
        go_enter Try.func14, Try.ntmps14
        go_wp2_with fail
        refine (rdel_calls room l A n cap key _ HNN.out HA0.out hl).mono ?_
        rintro e w2 ⟨A2, n2, cap2, rfl, ⟨hn2, ho2⟩, hb2⟩
        have hp2 := ho2.pr
        clear ho2
        generalize del l key = gl at E hn2 hp2 ⊢
        generalize has l key = hs at E ⊢
        have HB2 := Lib.hid (HB.out.trans (hb2.mono HB.out.size))
        have BR2 := Lib.hid (BR0.out.keep hb2)
        have HP2 := Lib.hid hp2
        have HN2 := Lib.hid hn2
        clear hb2 hp2 hn2
        have z1 : w.heap.size + 1 + 1 < w2.heap.size := BR2.out.lt
        have r0 : w2.cell? ⟨w.heap.size + 1 + 1, 0, none⟩ = some (.int .i64 (0 : Nat)) := BR2.out.cell 0
        have r1 : w2.cell? ⟨w.heap.size + 1 + 1, 1, none⟩ = some (.slice none 0 0) := BR2.out.cell 1
        have rf0 : w2.frozen? ⟨w.heap.size + 1 + 1, 0, none⟩ = false := BR2.out.free 0
        have rf1 : w2.frozen? ⟨w.heap.size + 1 + 1, 1, none⟩ = false := BR2.out.free 1
        have F := Lib.hid (finA HB2.out (by omega) BR2.out HP2.out (.int .i64 (room : Nat)) (.slice A2 n2 cap2) (tbox room A2 n2 cap2))
        go_wp2_with fail
        refine ret_t3 (b := .int .i64 0) (c := .bool hs) Try.results14 ?_ ?_ ?_ ?_ F.out.1 ?_
        · rfl
        · rfl
        · rfl
        · rfl
        · rw [E.out]
          exact ⟨_, _, _, rfl, ⟨HN2.out, F.out.2.1⟩, F.out.2.2⟩
      · have t3 : (kd == 3) = false := beq_eq_false_iff_ne.2 k3
        have E := Lib.hid (show stepL room l (kd, key, v) = (l, 0, false) by unfold stepL; simp only [k1, k2, k3, if_false])
        clear k1 k2 k3
        have BR1 : Hid (Box (((w.alloc (tbox room A n cap)).alloc (dbox (kd, key, v))).alloc (tbox room A n cap)) (w.heap.size + 1 + 1) 29 (tc room A n cap)) := Lib.hid (by
          have := Box.new1 (w.alloc (tbox room A n cap)) 29 (tc room A n cap) (dbox (kd, key, v))
          simpa using this)
        have HA1 := Lib.hid (((HAA.out.alloc (tbox room A n cap)).alloc (dbox (kd, key, v))).alloc (tbox room A n cap))
        have HB1 := Lib.hid (below3 w (tbox room A n cap) (dbox (kd, key, v)) (tbox room A n cap))
        go_enter Try.func14, Try.ntmps14
        go_wp2_with fail
        refine ret_t3 (b := .int .i64 0) (c := .bool false) Try.results14 ?_ ?_ ?_ ?_ BR1.out ?_
        · rfl
        · rfl
        · rfl
        · rfl
        · rw [E.out]
          exact ⟨_, _, _, rfl, ⟨HNN.out, HA1.out⟩, HB1.out⟩

end Pr
end Go.Proofs.Ytdnaecmihgcelaa.Tb
