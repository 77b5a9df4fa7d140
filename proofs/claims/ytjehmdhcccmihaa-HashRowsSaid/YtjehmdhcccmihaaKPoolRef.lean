/-
  What the document's own Spread answers, in any world: a row for each shard, of the texts that go to it.
-/
import Derived.Test.YtjehmdhcccmihaaKHashShard
import Derived.Test.YtjehmdhcccmihaaKPoolMath
import Derived.Test.YtjehmdhcccmihaaKPoolRow
namespace Go.Proofs.Ytjehmdhcccmihaa.Pool
open Go.RowKit Go.Proofs.Ytjehmdhcccmihaa.Hs

theorem take_yes {α : Type} {f : α → Bool} {ps : List α} {j : Nat} (hj : j < ps.length) (h : f ps[j] = true) : (ps.take (j + 1)).filter f = (ps.take j).filter f ++ [ps[j]] := by
  rw [List.take_succ_eq_append_getElem hj, List.filter_append]
  simp [h]
theorem take_no {α : Type} {f : α → Bool} {ps : List α} {j : Nat} (hj : j < ps.length) (h : f ps[j] = false) : (ps.take (j + 1)).filter f = (ps.take j).filter f := by
  rw [List.take_succ_eq_append_getElem hj, List.filter_append]
  simp [h]
def toShard (n : Int) (p : ByteArray) : Nat := shardOf p.data.toList (clip n)
/-- what Spread answers -/
def SpreadRes (n : Int) (ps : List ByteArray) (B : Nat) (e : Ending) (w' : World) : Prop :=
  ∃ (A : Option Addr) (c : Nat) (L : List Cm), e = .returned (.slice A L.length c) ∧ L.map (·.1) = spreadR (clip n) (toShard n) ps ∧ RRow w' B (.slice A L.length c) L ∧ Reads w' B L
def OutInv (n : Int) (ps : List ByteArray) (w : World) (v i : Value) (wr : World) : Prop :=
  ∃ (m : Nat) (L : List Cm), i = .int .i64 (m : Nat) ∧ m ≤ clip n ∧ L.length = m ∧ Hid (L.map (·.1) = (List.range m).map fun i => ps.filter fun p => toShard n p = i) ∧ Hid (RRow wr w.heap.size v L ∧ Reads wr w.heap.size L) ∧ Hid (Below w.heap.size w wr)
def InInv (n : Int) (ps : List ByteArray) (i : Nat) (wi : World) (v j : Value) (wr : World) : Prop :=
  ∃ (m : Nat), j = .int .i64 (m : Nat) ∧ m ≤ ps.length ∧ Hid (SRow wr wi.heap.size v ((ps.take m).filter fun p => toShard n p = i)) ∧ Hid (Below wi.heap.size wi wr)
set_option maxHeartbeats 4000000 in
set_option maxRecDepth 100000 in
theorem refspread_calls (A : Option Addr) (cap : Nat) (ps : List ByteArray) (n : Int) (w : World) (hA : Texts w A ps) (hl : ps.length ≤ 1048576) (hz : ∀ p ∈ ps, p.size ≤ maxLen) :
    Calls Try.prog 10 #[.slice A ps.length cap, .int .i64 n] w fun e w' => SpreadRes n ps w.heap.size e w' ∧ Below w.heap.size w w' := by
  have HA := Lib.hid hA
  have HZ := Lib.hid hz
  have hcl : clip n ≤ 64 := clip_le n
  clear hA hz
  go_enter Try.func10, Try.ntmps10
  go_wp2_with fail
  go_loopw [5, 6] (fun v i wr => OutInv n ps w v i wr) (fun _ i _ => clip n - (intOf i).toNat)
  case atStart => exact ⟨0, [], rfl, Nat.zero_le _, rfl, Lib.hid rfl, Lib.hid ⟨RRow.nil _ _, Reads.nil _ _⟩, Lib.hid (Below.refl _ _)⟩
  case round =>
    obtain ⟨m, L, rfl, hm, hLm, HF, HL, HB⟩ := hrel
    obtain ⟨V, n0, vc, rfl, hn0⟩ := RRow.form HL.out.1
    have HN0 := Lib.hid hn0
    clear hn0
    go_wp2_with fail
    refine (clip_calls n _).mono ?_
    rintro e w1 ⟨rfl, rfl⟩
    by_cases hlt : m < clip n
    · have i1 : (m : Int) < (clip n : Int) := by omega
      obtain ⟨wi, hwi⟩ : ∃ x, x = wr := ⟨_, rfl⟩
      subst hwi
      go_wp2_with fail
      go_loopw [7, 8] (fun v j wr => InInv n ps m wi v j wr) (fun _ j _ => ps.length - (intOf j).toNat)
      case atStart => exact ⟨0, rfl, Nat.zero_le _, Lib.hid (SRow.nil _ _), Lib.hid (Below.refl _ _)⟩
      case round =>
        obtain ⟨j, rfl, hj, HR, HBi⟩ := hrel
        obtain ⟨VR, nr, vr, rfl, hnr⟩ := SRow.form HR.out
        have HNR := Lib.hid hnr
        clear hnr
        have HBB := Lib.hid (HB.out.trans (HBi.out.mono HB.out.size))
        by_cases hjt : j < ps.length
        · have i2 : (j : Int) < (ps.length : Int) := by omega
          obtain ⟨a, ea, hc⟩ := (HA.out.keep HBB.out).at_ hjt
          subst ea
          have hsz := HZ.out ps[j] (List.getElem_mem hjt)
          go_wp2_with fail
          refine (refshard_calls _ n _ hsz).mono ?_
          rintro e w2 ⟨rfl, rfl⟩
          by_cases hq : toShard n ps[j] = m
          · have i3 : ((shardOf ps[j].data.toList (clip n) : Nat) : Int) = (m : Int) := by unfold toShard at hq; omega
            have HQ := Lib.hid hq
            have HLN : Hid (((ps.take j).filter fun p => toShard n p = m).length ≤ 1048576) := Lib.hid (by
              have h1 := List.length_filter_le (fun p => decide (toShard n p = m)) (ps.take j)
              rw [List.length_take] at h1
              omega)
            clear hq hsz
            go_wp2_with (at_builtin; refine wpList_append_str rfl _ _ rfl wi.heap.size _ ((ps.take j).filter fun p => toShard n p = m) rfl (HR.out.alloc _) wr.heap.size ps[j] rfl (heap_alloc_new wr _) HLN.out ?c5 ?_)
            case c5 => have := HBi.out.size; simp; omega
            intro v' w10 ho10 hg10
            have B10 := Lib.hid (SRow.grown (HR.out.alloc (.cells #[.string ps[j]] 9)) hg10 (HBi.out.alloc HBi.out.size _) (by have := HBi.out.size; simp; omega))
            have HS : Hid (SRow w10 wi.heap.size v' ((ps.take (j + 1)).filter fun p => toShard n p = m)) := Lib.hid (by
              rw [take_yes hjt (by simpa using HQ.out)]
              exact ho10)
            clear ho10 hg10 HR
            go_wp2_with fail
            go_roundw
            case rel => exact ⟨j + 1, rfl, by omega, HS, B10⟩
            case measure => simp [intOf]; omega
          · have i3 : ¬ ((shardOf ps[j].data.toList (clip n) : Nat) : Int) = (m : Int) := by unfold toShard at hq; omega
            have HS : Hid (SRow wr wi.heap.size (.slice VR nr vr) ((ps.take (j + 1)).filter fun p => toShard n p = m)) := Lib.hid (by
              rw [take_no hjt (by simpa using hq)]
              exact HR.out)
            clear HR hq hc hsz
            go_wp2_with fail
            go_roundw
            case rel => exact ⟨j + 1, rfl, by omega, HS, HBi⟩
            case measure => simp [intOf]; omega
        · have i2 : ¬ (j : Int) < (ps.length : Int) := by omega
          have hje : j = ps.length := by omega
          have HS : Hid (SRow wr wi.heap.size (.slice VR nr vr) (ps.filter fun p => toShard n p = m)) := Lib.hid (by
            have := HR.out
            rw [hje, List.take_length] at this
            exact this)
          have hnr2 : nr = (ps.filter fun p => toShard n p = m).length := by
            have := HNR.out
            rw [hje, List.take_length] at this
            exact this
          have HN2 := Lib.hid hnr2
          have HL1 : Hid (RRow wr w.heap.size (.slice V n0 vc) L ∧ Reads wr w.heap.size L) := Lib.hid ⟨HL.out.1.below HBi.out, HL.out.2.keep HBi.out⟩
          have HLL : Hid (L.length ≤ 1048576) := Lib.hid (by omega)
          have HS0 := Lib.hid (HS.out.lower HB.out.size)
          obtain ⟨fl, hfl⟩ : ∃ fl, fl = ps.filter fun p => toShard n p = m := ⟨_, rfl⟩
          have HFL := Lib.hid hfl
          rw [← hfl] at HN2 HS0
          have HF2 : Hid ((L ++ [((fl, VR, vr) : Cm)]).map (·.1) = (List.range (m + 1)).map fun i => ps.filter fun p => toShard n p = i) := Lib.hid (by
            rw [List.map_append, HF.out, List.range_succ, List.map_append, HFL.out]
            rfl)
          clear HR hjt hje hj hnr2 hfl HS HL HF
          go_wp2_with (at_builtin; refine wpList_append_row rfl _ _ rfl w.heap.size _ L rfl (HL1.out.1.alloc _) wr.heap.size (fl, VR, vr) rfl ?hg HLL.out ?c6 ?_)
          case hg =>
            have hn2 := HN2.out
            have h3 := heap_alloc_new wr (.cells #[Value.slice VR nr vr] 22)
            rw [Array.getElem?_eq_some_iff] at h3
            obtain ⟨_, h3⟩ := h3
            refine h3.trans ?_
            simp only [Cm.v]
            rw [hn2]
          case c6 => have := HBB.out.size; simp; omega
          intro v' w10 ho10 hg10
          have R9 := HL1.out.1.alloc (.cells #[Value.slice VR nr vr] 22)
          have B10 := Lib.hid (RRow.grown R9 hg10 (HBB.out.alloc HBB.out.size _) (by have := HBB.out.size; simp; omega))
          have D10 : Hid (Reads w10 w.heap.size (L ++ [(fl, VR, vr)])) := Lib.hid (by
            refine Reads.snoc ((HL1.out.2.alloc _).grown R9 hg10) ?_
            have hs := HS0.out.alloc (.cells #[Value.slice VR nr vr] 22)
            have hs2 := World.ownsRow.kept hs hg10 (own_ne hs R9 (by decide))
            rw [HN2.out] at hs2
            exact hs2)
          have O10 := Lib.hid ho10
          clear ho10 hg10 R9
          go_wp2_with fail
          go_roundw
          case rel => exact ⟨m + 1, L ++ [(fl, VR, vr)], rfl, by omega, by simp; omega, HF2, Lib.hid ⟨O10.out, D10.out⟩, B10⟩
          case measure => simp [intOf]; omega
    · have hme : m = clip n := by omega
      have i1 : ¬ (m : Int) < (clip n : Int) := by omega
      have HF2 := HF
      clear hlt
      go_wp2_with fail
      go_ret
      refine ⟨⟨V, vc, L, ?_, ?_, ?_, HL.out.2⟩, HB.out⟩
      · show Ending.returned (.slice V n0 vc) = _
        rw [← HN0.out]
      · rw [HF.out, hme]
        rfl
      · rw [← HN0.out]; exact HL.out.1
end Go.Proofs.Ytjehmdhcccmihaa.Pool
