/-
  What the document's own Get answers, in any world.
-/
import Derived.Test.YtdnaecmihgcelaaTabRfD
namespace Go.Proofs.Ytdnaecmihgcelaa.Tb
open Go.RowKit
namespace Pr

set_option maxHeartbeats 400000 in
set_option maxRecDepth 100000 in
theorem rget_calls (room : Nat) (l : PL) (A : Option Addr) (n cap : Nat) (key : ByteArray) (w : World) (hn : n = l.length) (hA : PR w A l) (hl : l.length ≤ 10000) :
    Calls Try.prog 30 #[tv room A n cap, .string key] w fun e w' => ∃ A' n' cap', e = .returned (.tuple #[tv room A' n' cap', .int .i64 (getv l key), .bool (has l key)]) ∧ (n' = (get l key).length ∧ PR w' A' (get l key)) ∧ Below w.heap.size w w' := by
  have HB := Lib.hid (below2 w (tbox room A n cap) (tbox 0 none 0 0))
  have BT0 := Lib.hid ((Box.new w 29 (tc room A n cap)).alloc (tbox 0 none 0 0))
  have BR0 := Lib.hid (Box.new1 w 29 (tc 0 none 0 0) (tbox room A n cap))
  have HA0 := Lib.hid ((hA.alloc (tbox room A n cap)).alloc (tbox 0 none 0 0))
  have HNN := Lib.hid hn
  clear hA hn
  go_enter Try.func30, Try.ntmps30
  go_wp2_with fail
  refine (rpeek_calls room l A n cap key _ HNN.out HA0.out hl).mono ?_
  rintro e w1 ⟨rfl, hb1⟩
  have HB1 := Lib.hid (HB.out.trans (hb1.mono HB.out.size))
  have BT := Lib.hid (BT0.out.keep hb1)
  have BR := Lib.hid (BR0.out.keep hb1)
  have HA1 := Lib.hid (HA0.out.keep hb1)
  have t0 : w1.cell? ⟨w.heap.size, 0, none⟩ = some (.int .i64 (room : Nat)) := BT.out.cell 0
  have t1 : w1.cell? ⟨w.heap.size, 1, none⟩ = some (.slice A n cap) := BT.out.cell 1
  clear hb1
  cases hh : has l key with
  | false =>
    have E1 := Lib.hid (getv_none hh)
    have EH := Lib.hid hh
    have E2 := Lib.hid (show get l key = l by unfold get; rw [hh, if_neg (by simp)])
    clear hh
    have r0 : w1.cell? ⟨w.heap.size + 1, 0, none⟩ = some (.int .i64 (0 : Nat)) := BR.out.cell 0
    have r1 : w1.cell? ⟨w.heap.size + 1, 1, none⟩ = some (.slice none 0 0) := BR.out.cell 1
    have rf0 : w1.frozen? ⟨w.heap.size + 1, 0, none⟩ = false := BR.out.free 0
    have rf1 : w1.frozen? ⟨w.heap.size + 1, 1, none⟩ = false := BR.out.free 1
    have F := Lib.hid (fin HB1.out (by omega) BR.out HA1.out (.int .i64 (room : Nat)) (.slice A n cap))
    go_wp2_with fail
    refine ret_t3 (b := .int .i64 0) (c := .bool false) Try.results30 ?_ ?_ ?_ ?_ F.out.1 ?_
    · rfl
    · rfl
    · rfl
    · rfl
    · rw [E1.out, E2.out, EH.out]
      exact ⟨_, _, _, rfl, ⟨HNN.out, F.out.2.1⟩, F.out.2.2⟩
  | true =>
    have E2 := Lib.hid (show put room l key (getv l key) = (get l key, true) by unfold put get; rw [hh, if_pos rfl, if_pos rfl])
    have EH := Lib.hid hh
    clear hh
    generalize hg : getv l key = gv at E2 ⊢
    have EG := Lib.hid hg
    clear hg
    go_wp2_with fail
    refine (rput_calls room l A n cap key gv _ HNN.out HA1.out hl).mono ?_
    rw [E2.out]
    rintro e w2 ⟨A2, n2, cap2, rfl, ⟨hn2, hp2⟩, hb2⟩
    have HB2 := Lib.hid (HB1.out.trans (hb2.mono HB1.out.size))
    have BR2 := Lib.hid (BR.out.keep hb2)
    have HP2 := Lib.hid hp2
    have HN2 := Lib.hid hn2
    clear hb2 hp2 hn2 t0 t1
    have z1 : w.heap.size + 1 < w2.heap.size := BR2.out.lt
    have r0 : w2.cell? ⟨w.heap.size + 1, 0, none⟩ = some (.int .i64 (0 : Nat)) := BR2.out.cell 0
    have r1 : w2.cell? ⟨w.heap.size + 1, 1, none⟩ = some (.slice none 0 0) := BR2.out.cell 1
    have rf0 : w2.frozen? ⟨w.heap.size + 1, 0, none⟩ = false := BR2.out.free 0
    have rf1 : w2.frozen? ⟨w.heap.size + 1, 1, none⟩ = false := BR2.out.free 1
    have F := Lib.hid (finA HB2.out (by omega) BR2.out HP2.out (.int .i64 (room : Nat)) (.slice A2 n2 cap2) (tbox room A2 n2 cap2))
    go_wp2_with fail
    refine ret_t3 (b := .int .i64 gv) (c := .bool true) Try.results30 ?_ ?_ ?_ ?_ F.out.1 ?_
    · rfl
    · rfl
    · rfl
    · rfl
    · rw [EG.out, EH.out]
      exact ⟨_, _, _, rfl, ⟨HN2.out, F.out.2.1⟩, F.out.2.2⟩

end Pr
end Go.Proofs.Ytdnaecmihgcelaa.Tb
