/-
  What the document's own Put answer, in any world.
-/
import Derived.Test.YtdnaecmihgcelaaTabRfC
namespace Go.Proofs.Ytdnaecmihgcelaa.Tb
open Go.RowKit
namespace Pr

theorem below2 (w : World) (o o' : Obj) : Below w.heap.size w ((w.alloc o).alloc o') := ((Below.refl _ _).alloc (Nat.le_refl _) _).alloc (by simp) _
theorem below3 (w : World) (o o' o'' : Obj) : Below w.heap.size w (((w.alloc o).alloc o').alloc o'') := (below2 w o o').alloc (by simp; omega) _

/-- written into the box of the result, and left -/
theorem fin {w w1 : World} {B g : Nat} {x y : Value} {A : Option Addr} {l : PL} (hb : Below B w w1) (hg : B ≤ g) (BR : Box w1 g 29 #[x, y]) (hp : PR w1 A l) (a c : Value) :
    Box ((w1.setCell ⟨g, 0, none⟩ a).setCell ⟨g, 1, none⟩ c) g 29 #[a, c] ∧ PR ((w1.setCell ⟨g, 0, none⟩ a).setCell ⟨g, 1, none⟩ c) A l ∧ Below B w ((w1.setCell ⟨g, 0, none⟩ a).setCell ⟨g, 1, none⟩ c) :=
  ⟨BR.set2 _ _, hp.set2 BR _ _, below_set2 hb hg _ _⟩

theorem finA {w w1 : World} {B g : Nat} {x y : Value} {A : Option Addr} {l : PL} (hb : Below B w w1) (hg : B ≤ g) (BR : Box w1 g 29 #[x, y]) (hp : PR w1 A l) (a c : Value) (o : Obj) :
    Box (((w1.setCell ⟨g, 0, none⟩ a).setCell ⟨g, 1, none⟩ c).alloc o) g 29 #[a, c] ∧ PR (((w1.setCell ⟨g, 0, none⟩ a).setCell ⟨g, 1, none⟩ c).alloc o) A l ∧ Below B w (((w1.setCell ⟨g, 0, none⟩ a).setCell ⟨g, 1, none⟩ c).alloc o) := by
  have f := fin hb hg BR hp a c
  have h1 := BR.lt
  exact ⟨f.1.alloc o, f.2.1.alloc o, f.2.2.alloc (by simp; omega) o⟩

set_option maxHeartbeats 4000000 in
set_option maxRecDepth 100000 in
theorem rput_calls (room : Nat) (l : PL) (A : Option Addr) (n cap : Nat) (key : ByteArray) (v : Int) (w : World) (hn : n = l.length) (hA : PR w A l) (hl : l.length ≤ 10000) :
    Calls Try.prog 29 #[tv room A n cap, .string key, .int .i64 v] w fun e w' => ∃ A' n' cap', e = .returned (.tuple #[tv room A' n' cap', .bool (put room l key v).2]) ∧ (n' = (put room l key v).1.length ∧ PR w' A' (put room l key v).1) ∧ Below w.heap.size w w' := by
  subst hn
  have HB := Lib.hid (below2 w (tbox room A l.length cap) (tbox 0 none 0 0))
  have BT0 := Lib.hid ((Box.new w 29 (tc room A l.length cap)).alloc (tbox 0 none 0 0))
  have BR0 := Lib.hid (Box.new1 w 29 (tc 0 none 0 0) (tbox room A l.length cap))
  have HA0 := Lib.hid ((hA.alloc (tbox room A l.length cap)).alloc (tbox 0 none 0 0))
  clear hA
  go_enter Try.func29, Try.ntmps29
  go_wp2_with fail
  refine (rdel_calls room l A _ cap key _ rfl HA0.out hl).mono ?_
  rintro e w1 ⟨A1, n1, cap1, rfl, ⟨hn1, ho1⟩, hb1⟩
  have HB1 := Lib.hid (HB.out.trans (hb1.mono HB.out.size))
  have BT := Lib.hid (BT0.out.keep hb1)
  have BR := Lib.hid (BR0.out.keep hb1)
  have HA1 := Lib.hid (HA0.out.keep hb1)
  have HO : Hid (Own w1 w.heap.size (.slice A1 n1 cap1) (del l key)) := Lib.hid (ho1.mono HB.out.size)
  have z1 : w.heap.size + 1 < w1.heap.size := BR.out.lt
  have z0 : w.heap.size < w1.heap.size := BT.out.lt
  have HN1 := Lib.hid hn1
  clear hb1 ho1 hn1
  by_cases hs : has l key = true ∨ l.length < room
  · have E := Lib.hid (show put room l key v = (del l key ++ [(key, v)], true) by
      unfold put
      by_cases h1 : has l key = true
      · rw [if_pos h1]
      · rw [if_neg h1, if_pos (hs.resolve_left h1), del_none (by simpa using h1)])
    have HL := Lib.hid (show (del l key).length ≤ 20000 by have := del_len_le l key; omega)
    have HQ : Hid (∀ g5 cap5 w5, Own w5 w.heap.size (.slice (some ⟨g5, 0, none⟩) ((del l key).length + 1) cap5) (del l key ++ [(key, v)]) → ((w1.alloc (tbox room A1 n1 cap1)).alloc (.cells #[.string key, .int .i64 v] 50)).grownBy w5 (Value.slice A1 n1 cap1).ownBlock →
        Box w5 w1.heap.size 29 (tc room A1 n1 cap1) ∧ Box w5 (w.heap.size + 1) 29 (tc 0 none 0 0) ∧ PR w5 (some ⟨g5, 0, none⟩) (del l key ++ [(key, v)]) ∧ Below w.heap.size w w5) := Lib.hid fun g5 cap5 w5 ho5 hgr5 => by
      have hoa := (HO.out.alloc (tbox room A1 n1 cap1)).alloc (.cells #[.string key, .int .i64 v] 50)
      exact ⟨Box.grownOther ((Box.new w1 29 (tc room A1 n1 cap1)).alloc _) hoa (by decide) hgr5, Box.grownOther ((BR.out.alloc _).alloc _) hoa (by decide) hgr5, ho5.pr,
        Own.grown hoa hgr5 ((HB1.out.alloc HB1.out.size _).alloc (by simp; omega) _) (by simp; omega)⟩
    have hne : ¬ w.heap.size + 1 = w1.heap.size := by omega
    have hne2 : ¬ w1.heap.size = w.heap.size + 1 := by omega
    have t1 : w1.cell? ⟨w.heap.size, 1, none⟩ = some (.slice A l.length cap) := BT.out.cell 1
    have t0 : w1.cell? ⟨w.heap.size, 0, none⟩ = some (.int .i64 (room : Nat)) := BT.out.cell 0
    have fin2 : Hid (∀ g5 cap5 w5, Box w5 w1.heap.size 29 (tc room A1 n1 cap1) → Box w5 (w.heap.size + 1) 29 (tc 0 none 0 0) → PR w5 (some ⟨g5, 0, none⟩) (del l key ++ [(key, v)]) → Below w.heap.size w w5 →
        Box (((w5.setCell ⟨w1.heap.size, 1, none⟩ (.slice (some ⟨g5, 0, none⟩) ((del l key).length + 1) cap5)).setCell ⟨w.heap.size + 1, 0, none⟩ (.int .i64 (room : Nat))).setCell ⟨w.heap.size + 1, 1, none⟩ (.slice (some ⟨g5, 0, none⟩) ((del l key).length + 1) cap5)) (w.heap.size + 1) 29 (tc room (some ⟨g5, 0, none⟩) ((del l key).length + 1) cap5) ∧
        PR (((w5.setCell ⟨w1.heap.size, 1, none⟩ (.slice (some ⟨g5, 0, none⟩) ((del l key).length + 1) cap5)).setCell ⟨w.heap.size + 1, 0, none⟩ (.int .i64 (room : Nat))).setCell ⟨w.heap.size + 1, 1, none⟩ (.slice (some ⟨g5, 0, none⟩) ((del l key).length + 1) cap5)) (some ⟨g5, 0, none⟩) (del l key ++ [(key, v)]) ∧
        Below w.heap.size w (((w5.setCell ⟨w1.heap.size, 1, none⟩ (.slice (some ⟨g5, 0, none⟩) ((del l key).length + 1) cap5)).setCell ⟨w.heap.size + 1, 0, none⟩ (.int .i64 (room : Nat))).setCell ⟨w.heap.size + 1, 1, none⟩ (.slice (some ⟨g5, 0, none⟩) ((del l key).length + 1) cap5))) := Lib.hid fun g5 cap5 w5 bu br hp hb =>
      fin (hb.setCell (by show w.heap.size ≤ w1.heap.size; omega) _) (by omega) (br.far1 hne 1 _) (hp.setBox bu (by decide) 1 _) _ _
    cases hh : has l key with
    | true =>
      clear hs
      go_wp2_with (at_builtin; refine wpList_append_ent2 rfl _ _ rfl w.heap.size _ (del l key) rfl ((HO.out.alloc _).alloc _) (w1.heap.size + 1) key v rfl (heap_alloc2_new w1 _ _) HL.out ?c5 ?_)
      case c5 => simp; omega
      intro g5 cap5 w5 ho5 hgr5
      obtain ⟨bu, br, hp, hb⟩ := HQ.out g5 cap5 w5 ho5 hgr5
      have BU5 := Lib.hid bu
      have F := Lib.hid (fin2.out g5 cap5 w5 bu br hp hb)
      have u0 : w5.cell? ⟨w1.heap.size, 0, none⟩ = some (.int .i64 (room : Nat)) := bu.cell 0
      have u1 : w5.cell? ⟨w1.heap.size, 1, none⟩ = some (.slice A1 n1 cap1) := bu.cell 1
      have uf : w5.frozen? ⟨w1.heap.size, 1, none⟩ = false := bu.free 1
      have r0 : w5.cell? ⟨w.heap.size + 1, 0, none⟩ = some (.int .i64 (0 : Nat)) := br.cell 0
      have r1 : w5.cell? ⟨w.heap.size + 1, 1, none⟩ = some (.slice none 0 0) := br.cell 1
      have rf0 : w5.frozen? ⟨w.heap.size + 1, 0, none⟩ = false := br.free 0
      have rf1 : w5.frozen? ⟨w.heap.size + 1, 1, none⟩ = false := br.free 1
      clear ho5 hgr5 bu br hp hb
      go_wp2_with fail
      refine ret_t2 (b := .bool true) Try.results29 ?_ ?_ ?_ F.out.1 ?_
      · rfl
      · rfl
      · rfl
      · rw [E.out]
        exact ⟨_, _, _, rfl, ⟨by simp, F.out.2.1⟩, F.out.2.2⟩
    | false =>
      have hr : ¬ room ≤ l.length := by rcases hs with h | h <;> simp_all
      clear hs
      go_wp2_with (at_builtin; refine wpList_append_ent2 rfl _ _ rfl w.heap.size _ (del l key) rfl ((HO.out.alloc _).alloc _) (w1.heap.size + 1) key v rfl (heap_alloc2_new w1 _ _) HL.out ?c5 ?_)
      case c5 => simp; omega
      intro g5 cap5 w5 ho5 hgr5
      obtain ⟨bu, br, hp, hb⟩ := HQ.out g5 cap5 w5 ho5 hgr5
      have BU5 := Lib.hid bu
      have F := Lib.hid (fin2.out g5 cap5 w5 bu br hp hb)
      have u0 : w5.cell? ⟨w1.heap.size, 0, none⟩ = some (.int .i64 (room : Nat)) := bu.cell 0
      have u1 : w5.cell? ⟨w1.heap.size, 1, none⟩ = some (.slice A1 n1 cap1) := bu.cell 1
      have uf : w5.frozen? ⟨w1.heap.size, 1, none⟩ = false := bu.free 1
      have r0 : w5.cell? ⟨w.heap.size + 1, 0, none⟩ = some (.int .i64 (0 : Nat)) := br.cell 0
      have r1 : w5.cell? ⟨w.heap.size + 1, 1, none⟩ = some (.slice none 0 0) := br.cell 1
      have rf0 : w5.frozen? ⟨w.heap.size + 1, 0, none⟩ = false := br.free 0
      have rf1 : w5.frozen? ⟨w.heap.size + 1, 1, none⟩ = false := br.free 1
      clear ho5 hgr5 bu br hp hb
      go_wp2_with fail
      refine ret_t2 (b := .bool true) Try.results29 ?_ ?_ ?_ F.out.1 ?_
      · rfl
      · rfl
      · rfl
      · rw [E.out]
        exact ⟨_, _, _, rfl, ⟨by simp, F.out.2.1⟩, F.out.2.2⟩
  · have hh : has l key = false := by simpa using fun h => hs (.inl h)
    have hr : room ≤ l.length := by omega
    have E := Lib.hid (show put room l key v = (l, false) by
      unfold put
      rw [hh, if_neg (by simp), if_neg (by omega)])
    clear hs
    rw [hh]
    have t0 : w1.cell? ⟨w.heap.size, 0, none⟩ = some (.int .i64 (room : Nat)) := BT.out.cell 0
    have t1 : w1.cell? ⟨w.heap.size, 1, none⟩ = some (.slice A l.length cap) := BT.out.cell 1
    have r0 : w1.cell? ⟨w.heap.size + 1, 0, none⟩ = some (.int .i64 (0 : Nat)) := BR.out.cell 0
    have r1 : w1.cell? ⟨w.heap.size + 1, 1, none⟩ = some (.slice none 0 0) := BR.out.cell 1
    have rf0 : w1.frozen? ⟨w.heap.size + 1, 0, none⟩ = false := BR.out.free 0
    have rf1 : w1.frozen? ⟨w.heap.size + 1, 1, none⟩ = false := BR.out.free 1
    have F := Lib.hid (finA HB1.out (by omega) BR.out HA1.out (.int .i64 (room : Nat)) (.slice A l.length cap) (tbox room A1 n1 cap1))
    clear hh
    go_wp2_with fail
    refine ret_t2 (b := .bool false) Try.results29 ?_ ?_ ?_ F.out.1 ?_
    · rfl
    · rfl
    · rfl
    · rw [E.out]
      exact ⟨_, _, _, rfl, ⟨rfl, F.out.2.1⟩, F.out.2.2⟩

end Pr
end Go.Proofs.Ytdnaecmihgcelaa.Tb
