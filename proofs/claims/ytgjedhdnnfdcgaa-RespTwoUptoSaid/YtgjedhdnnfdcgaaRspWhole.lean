/-
  What the document's own Whole (all commands that bytes begin with) answers, in any world.
-/
import Derived.Test.YtgjedhdnnfdcgaaRspOne
namespace Go.Proofs.Ytgjedhdnnfdcgaa.Rp
open Go.RowKit

theorem read_short {l : Bytes} (h0 : l ≠ []) (h : oneR l = .short) : cmds l = [] ∧ used l = 0 ∧ wrong l = false := by
  have hw := whole_reads (l.length + 1) l (by omega)
  unfold wholeR at hw
  rw [if_neg h0, h] at hw
  simp only [Prod.mk.injEq] at hw
  exact ⟨hw.1.symm, hw.2.1.symm, hw.2.2.symm⟩
theorem read_wrong {l : Bytes} (h0 : l ≠ []) (h : oneR l = .wrong) : cmds l = [] ∧ used l = 0 ∧ wrong l = true := by
  have hw := whole_reads (l.length + 1) l (by omega)
  unfold wholeR at hw
  rw [if_neg h0, h] at hw
  simp only [Prod.mk.injEq] at hw
  exact ⟨hw.1.symm, hw.2.1.symm, hw.2.2.symm⟩
theorem read_ok {l r : Bytes} {a : List Bytes} (h : oneR l = .ok a r) : cmds l = a :: cmds r ∧ used l = (l.length - r.length) + used r ∧ wrong l = wrong r ∧ r.length < l.length ∧ r = l.drop (l.length - r.length) := by
  have h1 := one_reads l
  rw [h] at h1
  simp only at h1
  obtain ⟨e1, _⟩ := h1
  have hpos : 1 ≤ (enc a).length := by simp [enc]
  have hlen : l.length = (enc a).length + r.length := by rw [e1, List.length_append]
  have h0 : l ≠ [] := fun e => by rw [e] at hlen; simp at hlen; omega
  have hw := whole_reads (l.length + 1) l (by omega)
  unfold wholeR at hw
  rw [if_neg h0, h] at hw
  simp only [Prod.mk.injEq] at hw
  rw [whole_reads l.length r (by omega)] at hw
  refine ⟨hw.1.symm, hw.2.1.symm, hw.2.2.symm, by omega, ?_⟩
  have : l.length - r.length = (enc a).length := by omega
  rw [this, e1, List.drop_left' rfl]

/-- what Whole answers -/
def WholeRes (l : Bytes) (B : Nat) (e : Ending) (w' : World) : Prop :=
  ∃ (A : Option Addr) (c : Nat) (L : List Cm), e = .returned (.tuple #[.slice A L.length c, .int .i64 (used l : Nat), .bool (wrong l)]) ∧ L.map (·.1) = cmds l ∧ RRow w' B (.slice A L.length c) L ∧ Reads w' B L
/-- the loop's relation -/
def WholeInv (l : Bytes) (w : World) (i v : Value) (wr : World) : Prop :=
  ∃ (m : Nat) (L : List Cm), i = .int .i64 (m : Nat) ∧ m ≤ l.length ∧ L.length ≤ m ∧ Hid (cmds l = L.map (·.1) ++ cmds (l.drop m) ∧ used l = m + used (l.drop m) ∧ wrong l = wrong (l.drop m)) ∧ Hid (RRow wr w.heap.size v L ∧ Reads wr w.heap.size L) ∧ Hid (Below w.heap.size w wr)

set_option maxHeartbeats 4000000 in
set_option maxRecDepth 100000 in
theorem whole_calls (A : Option Addr) (cap : Nat) (l : Bytes) (w : World) (hA : Bts w A l) (hl : l.length ≤ 1048576) (hcap : l.length ≤ cap) :
    Calls Try.prog 14 #[.slice A l.length cap] w fun e w' => WholeRes l w.heap.size e w' ∧ Below w.heap.size w w' := by
  have HA := Lib.hid hA
  clear hA
  go_enter Try.func14, Try.ntmps14
  go_wp2_with fail
  go_loopw [5, 6] (fun v i wr => WholeInv l w i v wr) (fun _ i _ => l.length - (intOf i).toNat)
  case atStart => exact ⟨0, [], rfl, by omega, by simp, Lib.hid ⟨by simp, by simp, by simp⟩, Lib.hid ⟨RRow.nil _ _, Reads.nil _ _⟩, Lib.hid (Below.refl _ _)⟩
  case round =>
    obtain ⟨m, L, rfl, hm, hLm, HF, HL, HB⟩ := hrel
    obtain ⟨V, n0, vc, rfl, hn0⟩ := RRow.form HL.out.1
    have HN0 := Lib.hid hn0
    clear hn0
    by_cases hlt : m < l.length
    · have i1 : (m : Int) < (l.length : Int) := by omega
      have hd0 : l.drop m ≠ [] := fun e => by have := congrArg List.length e; rw [List.length_drop] at this; simp at this; omega
      have C := Lib.hid (one_calls A cap l m wr (HA.out.keep HB.out) hl hm hcap)
      go_wp2_with fail
      refine C.out.mono ?_
      rintro e w1 ⟨he, hb1⟩
      have HB1 := Lib.hid (HB.out.trans (hb1.mono HB.out.size))
      have HL1 : Hid (RRow w1 w.heap.size (.slice V n0 vc) L ∧ Reads w1 w.heap.size L) := Lib.hid ⟨HL.out.1.below hb1, HL.out.2.keep hb1⟩
      cases hq : oneR (l.drop m) with
      | short =>
        rw [hq] at he
        obtain rfl := he
        have hz := read_short hd0 hq
        have HZ := Lib.hid hz
        clear hz hq hb1 hd0 C
        go_wp2_with fail
        go_ret3
        refine ⟨⟨V, vc, L, ?_, ?_, ?_, HL1.out.2⟩, HB1.out⟩
        · show Ending.returned (.tuple #[.slice V n0 vc, .int .i64 (m : Nat), .bool false]) = _
          rw [HF.out.2.1, HF.out.2.2, HZ.out.2.1, HZ.out.2.2, ← HN0.out]
          rfl
        · rw [HF.out.1, HZ.out.1, List.append_nil]
        · rw [← HN0.out]; exact HL1.out.1
      | wrong =>
        rw [hq] at he
        obtain rfl := he
        have hz := read_wrong hd0 hq
        have HZ := Lib.hid hz
        clear hz hq hb1 hd0 C
        go_wp2_with fail
        go_ret3
        refine ⟨⟨V, vc, L, ?_, ?_, ?_, HL1.out.2⟩, HB1.out⟩
        · show Ending.returned (.tuple #[.slice V n0 vc, .int .i64 (m : Nat), .bool true]) = _
          rw [HF.out.2.1, HF.out.2.2, HZ.out.2.1, HZ.out.2.2, ← HN0.out]
          rfl
        · rw [HF.out.1, HZ.out.1, List.append_nil]
        · rw [← HN0.out]; exact HL1.out.1
      | ok a r =>
        rw [hq] at he
        obtain ⟨x, hx, rfl, hS⟩ := he
        obtain ⟨z1, z2, z3, z4, z5⟩ := read_ok hq
        have hdl : (l.drop m).length = l.length - m := List.length_drop
        have hrl : l.length - m - r.length + m ≤ l.length := by omega
        have hrp : 0 < l.length - m - r.length := by omega
        rw [hdl] at z2 z5
        obtain ⟨k, hk⟩ : ∃ k, k = l.length - m - r.length := ⟨_, rfl⟩
        rw [← hk] at z2 z5 hrl hrp ⊢
        have ed : (l.drop m).drop k = l.drop (m + k) := by rw [List.drop_drop]
        rw [ed] at z5
        have HF2 : Hid (cmds l = (L ++ [x]).map (·.1) ++ cmds (l.drop (m + k)) ∧ used l = (m + k) + used (l.drop (m + k)) ∧ wrong l = wrong (l.drop (m + k))) := Lib.hid (by
          rw [← z5]
          refine ⟨?_, by rw [HF.out.2.1, z2]; omega, by rw [HF.out.2.2, z3]⟩
          rw [HF.out.1, z1, List.map_append, List.append_assoc]
          simp [hx])
        obtain ⟨xa, XA, xc⟩ := x
        simp only [Cm.v] at hS hx ⊢
        obtain ⟨xn, hxn⟩ : ∃ xn, xn = xa.length := ⟨_, rfl⟩
        rw [← hxn] at hS ⊢
        have HXN := Lib.hid hxn
        have HS := Lib.hid (show SRow w1 w.heap.size (.slice XA xn xc) (xa.map bat) by rw [hx]; exact hS.lower HB.out.size)
        have hmk : m + k ≤ l.length := by omega
        have hk0 : ¬ k = 0 := by omega
        have HLL : Hid (L.length ≤ 1048576) := Lib.hid (by omega)
        clear hq z1 z2 z3 z4 z5 hdl hrl hrp ed hk hS hx hxn hb1 HF C hd0 HL
        go_wp2_with (at_builtin; refine wpList_append_row rfl _ _ rfl w.heap.size _ L rfl (HL1.out.1.alloc _) w1.heap.size (xa, XA, xc) rfl ?hg HLL.out ?c5 ?_)
        case hg => rw [heap_alloc_new]; simp only [Cm.v]; rw [HXN.out]
        case c5 => have := HB1.out.size; simp; omega
        intro v' w10 ho10 hg10
        have R9 := HL1.out.1.alloc (.cells #[Value.slice XA xn xc] 36)
        have B10 := Lib.hid (RRow.grown R9 hg10 (HB1.out.alloc HB1.out.size _) (by have := HB1.out.size; simp; omega))
        have D10 : Hid (Reads w10 w.heap.size (L ++ [(xa, XA, xc)])) := Lib.hid (by
          refine Reads.snoc ((HL1.out.2.alloc _).grown R9 hg10) ?_
          have hs := HS.out.alloc (.cells #[Value.slice XA xn xc] 36)
          have hs2 := World.ownsRow.kept hs hg10 (own_ne hs R9 (by decide))
          rw [HXN.out] at hs2
          exact hs2)
        have O10 := Lib.hid ho10
        obtain ⟨m3, hm3⟩ : ∃ m3, m3 = m + k := ⟨_, rfl⟩
        have j4 : (m : Int) + (k : Int) = (m3 : Int) := by omega
        rw [← hm3] at HF2 hmk
        have hLm3 : L.length + 1 ≤ m3 := by omega
        have hmm : m < m3 := by omega
        clear hm3 ho10 hg10 R9
        go_wp2_with fail
        go_roundw
        case rel => exact ⟨m3, L ++ [(xa, XA, xc)], rfl, hmk, by simpa using hLm3, HF2, Lib.hid ⟨O10.out, D10.out⟩, B10⟩
        case measure => simp [intOf]; omega
    · have hme : m = l.length := by omega
      have hz : cmds (l.drop m) = [] ∧ used (l.drop m) = 0 ∧ wrong (l.drop m) = false := by rw [hme, List.drop_length]; exact ⟨rfl, rfl, rfl⟩
      have HZ := Lib.hid hz
      have i1 : ¬ (m : Int) < (l.length : Int) := by omega
      clear hz hme hlt hm
      go_wp2_with fail
      go_ret3
      refine ⟨⟨V, vc, L, ?_, ?_, ?_, HL.out.2⟩, HB.out⟩
      · show Ending.returned (.tuple #[.slice V n0 vc, .int .i64 (m : Nat), .bool false]) = _
        rw [HF.out.2.1, HF.out.2.2, HZ.out.2.1, HZ.out.2.2, ← HN0.out]
        rfl
      · rw [HF.out.1, HZ.out.1, List.append_nil]
      · rw [← HN0.out]; exact HL.out.1
end Go.Proofs.Ytgjedhdnnfdcgaa.Rp
