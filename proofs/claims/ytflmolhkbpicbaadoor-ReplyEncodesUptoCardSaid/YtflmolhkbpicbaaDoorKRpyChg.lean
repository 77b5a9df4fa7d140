/-
  A text on one line: reply.change by the closure of reply.oneLine, and reply.oneLine.
-/
import Derived.Test.YtflmolhkbpicbaaDoorKRpyRun
import Derived.Test.YtflmolhkbpicbaaDoorKRpyBld
import Derived.Test.YtflmolhkbpicbaaDoorKRpyTb
import Derived.Test.YtflmolhkbpicbaaDoorKGQue
namespace Go.Proofs.YtflmolhkbpicbaaDoor
open Go.RowKit
namespace Ry

abbrev fnv (f : Nat) : Value := .func (.func f) #[] #[]
set_option maxRecDepth 100000 in
theorem dec_tail (s : ByteArray) (i : Nat) (hi : i < s.size) : Lib.decodeGo (s.extract i s.size) = Utf8.decode s i := by
  unfold Lib.decodeGo
  rw [if_neg (by rw [ByteArray.size_extract]; omega), Lib.tail_decode]
  simp
set_option maxRecDepth 100000 in
theorem bldAt_below {T e : TypeId} {B b : Nat} {p : Value} {bs : List Value} {w w' : World} (h : Lib.BuilderAtF T e B b p bs w) (hb : Below w.heap.size w w') : Lib.BuilderAtF T e B b p bs w' := by
  have hlt := h.lt
  obtain ⟨hB, v, hbk, hown, hne⟩ := h
  refine ⟨hB, v, by rw [hb.block b hlt]; exact hbk, ?_, hne⟩
  rcases hown with ⟨hl, h⟩
  refine ⟨hl, ?_⟩
  rcases h with h | ⟨g, cap, cur, fz, hv, h1, h2, h3⟩
  · exact Or.inl h
  · exact Or.inr ⟨g, cap, cur, fz, hv, h1, by rw [hb.block g (Array.getElem?_eq_some_iff.1 h2).1]; exact h2, h3⟩
set_option maxRecDepth 100000 in
theorem bld_below {T e : TypeId} {B b : Nat} {bs : List Value} {w w' : World} (h : Lib.IsBuilderF T e B b bs w) (hb : Below w.heap.size w w') : Lib.IsBuilderF T e B b bs w' :=
  h.elim (fun x => .inl (bldAt_below x hb)) (fun x => .inr (bldAt_below x hb))
/-- the loop's state -/
structure Chg (s : ByteArray) (w wr : World) (pos : Nat) : Prop where
  bld : Lib.IsBuilderF 83 5 w.heap.size w.heap.size (Lib.byteCells (lineR (s.data.toList.take pos))) wr
  it : wr.heap[w.heap.size + 1]? = some (.stringIter s pos)
  bel : Below w.heap.size w wr
  le : pos ≤ s.size
set_option maxRecDepth 100000 in
theorem Chg.len {s : ByteArray} {w wr : World} {pos : Nat} (h : Chg s w wr pos) : (Lib.byteCells (lineR (s.data.toList.take pos))).length = pos := by
  rw [Lib.byteCells_length]; unfold lineR; rw [List.length_map, List.length_take, ← Lib.size_eq]; have := h.le; omega

set_option maxRecDepth 100000 in
theorem Chg.keep {s : ByteArray} {w wr w' : World} {pos : Nat} (h : Chg s w wr pos) (hb : Below wr.heap.size wr w') : Chg s w w' pos :=
  ⟨bld_below h.bld hb, by rw [hb.block _ (Array.getElem?_eq_some_iff.1 h.it).1]; exact h.it, h.bel.trans (hb.mono h.bel.size), h.le⟩
/-- the builder's bytes up to one place, the iterator at another -/
structure Chm (s : ByteArray) (w wr : World) (pos nxt : Nat) : Prop where
  bld : Lib.IsBuilderF 83 5 w.heap.size w.heap.size (Lib.byteCells (lineR (s.data.toList.take pos))) wr
  it : wr.heap[w.heap.size + 1]? = some (.stringIter s nxt)
  bel : Below w.heap.size w wr
  le : pos ≤ s.size
set_option maxRecDepth 100000 in
theorem Chm.keep {s : ByteArray} {w wr w' : World} {pos nxt : Nat} (h : Chm s w wr pos nxt) (hb : Below wr.heap.size wr w') : Chm s w w' pos nxt :=
  ⟨bld_below h.bld hb, by rw [hb.block _ (Array.getElem?_eq_some_iff.1 h.it).1]; exact h.it, h.bel.trans (hb.mono h.bel.size), h.le⟩
set_option maxRecDepth 100000 in
theorem Chg.next {s : ByteArray} {w wr : World} {pos : Nat} (h : Chg s w wr pos) (nxt : Nat) : Chm s w (wr.iterAt (w.heap.size + 1) s nxt) pos nxt :=
  ⟨h.bld.iterAt h.it nxt, Lib.iterAt_heap wr _ s pos nxt h.it, Lib.below_iterAt h.bel (Nat.le_add_right _ _) s nxt, h.le⟩
set_option maxRecDepth 100000 in
theorem Chm.len {s : ByteArray} {w wr : World} {pos nxt : Nat} (h : Chm s w wr pos nxt) : (Lib.byteCells (lineR (s.data.toList.take pos))).length = pos := by
  rw [Lib.byteCells_length]; unfold lineR; rw [List.length_map, List.length_take, ← Lib.size_eq]; have := h.le; omega
set_option maxRecDepth 100000 in
theorem Chm.wrote {s : ByteArray} {w wr w' : World} {pos nxt : Nat} {x : List UInt8} (h : Chm s w wr pos nxt) (hb : Lib.BuilderAtF 83 5 w.heap.size w.heap.size (.pointer (some ⟨w.heap.size, 0, none⟩)) (Lib.byteCells (lineR (s.data.toList.take pos)) ++ Lib.byteCells x) w') (hl : Below w.heap.size wr w') (hk : Lib.OthersKept 5 (some w.heap.size) wr w')
    (hx : lineR (s.data.toList.take nxt) = lineR (s.data.toList.take pos) ++ x) (hn : nxt ≤ s.size) : Chg s w w' nxt :=
  ⟨by rw [hx, Lib.byteCells_append]; exact Or.inr hb, hk.iter h.it (by omega), h.bel.trans hl, hn⟩
set_option maxRecDepth 100000 in
theorem strCells_bytes (s : ByteArray) : Lib.strCells s = Lib.byteCells s.data.toList := by
  simp [Lib.strCells, Lib.byteCells]
set_option maxRecDepth 100000 in
theorem sub_bytes (s : ByteArray) (a k : Nat) : (s.extract a (a + k)).data.toList = (s.data.toList.drop a).take k := by
  have := Lib.extract_toList s a (a + k)
  rw [Lib.toList_data] at this
  rw [this]
  congr 1; omega

set_option maxRecDepth 100000 in
set_option maxHeartbeats 4000000 in
theorem change_calls (s : ByteArray) (w : World) (hs : s.size ≤ 35184372088832) (hT : Tb w) :
    Calls Tryd.prog 35 #[.string s, fnv 36] w fun e w' => e = .returned (.string ⟨(lineR s.data.toList).toArray⟩) ∧ Below w.heap.size w w' := by
  have HT := Lib.hid hT
  clear hT
  have HBL := Lib.hid blank_calls
  have HDC := Lib.hid Tryd.utf8_DecodeRuneInString
  go_enter Tryd.func35, Tryd.ntmps35
  go_wp2
  go_loopw [] (fun wr => ∃ pos, Chg s w wr pos) (fun wr => s.size - wr.iterPos (w.heap.size + 1))
  case atStart =>
    refine ⟨0, ⟨?_, ?_, ((Below.refl _ w).alloc (Nat.le_refl _) _).alloc (by simp) _, Nat.zero_le _⟩⟩
    · have : lineR (s.data.toList.take 0) = [] := by simp [lineR]
      rw [this]
      exact (Lib.IsBuilderF.of (Lib.fresh_isBuilder _ _ w)).alloc _
    · have := World.iter_heap (w.alloc (.cells #[.pointer none, .slice none 0 0] 83)) s 0
      simpa using this
  case round =>
    obtain ⟨pos, H⟩ := hrel
    have hsz : w.heap.size + 1 < wr.heap.size := (Array.getElem?_eq_some_iff.1 H.it).1
    by_cases hp : pos < s.size
    · have hnx : ∀ ty, (Instr.next (.pointer (some ⟨w.heap.size + 1, 0, none⟩)) true ty).run Tryd.prog wr = _ := fun ty => Lib.run_next_any_at wr (w.heap.size + 1) s pos ty H.it hp
      obtain ⟨k, hk⟩ : ∃ k, (Utf8.decode s pos).2 = k := ⟨_, rfl⟩
      obtain ⟨r, hr⟩ : ∃ r, (Utf8.decode s pos).1 = r := ⟨_, rfl⟩
      obtain ⟨hk1, hk2, hr1⟩ := rune_le s pos hp
      rw [hk] at hk1 hk2
      rw [hr] at hr1
      have hdt := dec_tail s pos hp
      have hend := rune_end s pos hp
      have hfree := rune_free s pos hp
      rw [hk, hr] at hend
      rw [hr, hk] at hfree
      have hM0 := H.next (pos + (Utf8.decode s pos).2)
      rw [hr, hk] at hnx
      rw [hk] at hM0
      have HM0 := Lib.hid hM0
      clear hM0
      have H2 := Lib.hid H
      clear H
      cases he : endR r
      · have hbl : blankR r = r := by unfold blankR; rw [he]; rfl
        have hne : ((r : Int) != (r : Int)) = false := by simp
        have HF := Lib.hid (hfree he)
        have HD := Lib.hid hdt
        have hsl : (pos : Int) ≤ (s.size : Int) := by omega
        have hw1 : IntKind.i64.wrap ((pos : Int) + (k : Int)) = ((pos + k : Nat) : Int) := by rw [wrap_small _ (by omega) (by omega)]; omega
        clear hend hfree hdt
        go_wp2_with fail
        refine (HBL.out r hr1 _).mono ?_
        rw [hbl]
        rintro e w1 ⟨rfl, hb1⟩
        have HM1 := Lib.hid (HM0.out.keep hb1)
        have HT1 := Lib.hid ((HT.out.upto HM1.out.bel (Nat.le_refl _)))
        clear hb1
        go_wp2_with fail
        refine (HDC.out _ _ HT1.out.tabs).mono ?_
        rw [HD.out, hr, hk]
        rintro e w2 ⟨rfl, hb2⟩
        have HM2 := Lib.hid (HM1.out.keep hb2)
        clear hb2
        go_wp2_with fail
        have hln := HM2.out.len
        refine (wstr_k w.heap.size w.heap.size _ (s.extract pos (pos + k)) _ HM2.out.bld (by rw [hln, ByteArray.size_extract]; omega) HM2.out.bel.size).mono ?_
        rintro e w3 ⟨⟨n, rfl⟩, h3, hb3, hk3⟩
        rw [strCells_bytes, sub_bytes] at h3
        have HC := Lib.hid (HM2.out.wrote h3 hb3 hk3 (take_add_free s pos k hk2 HF.out) hk2)
        clear h3 hb3 hk3 hln
        go_wp2
        go_roundw
        case rel => exact ⟨pos + k, HC.out⟩
        case measure =>
          have a1 := HC.out.it
          have a2 := H2.out.it
          simp only [World.iterPos, a1, a2]
          omega
      · obtain ⟨rfl, hok⟩ := hend he
        have hbl : blankR r = 32 := by unfold blankR; rw [he]; rfl
        have hne : ((32 : Int) != (r : Int)) = true := by
          unfold endR at he
          simp only [Bool.or_eq_true, decide_eq_true_eq] at he
          simp; omega
        have HO := Lib.hid hok
        clear hfree hdt
        go_wp2_with fail
        refine (HBL.out r hr1 _).mono ?_
        rw [hbl]
        rintro e w1 ⟨rfl, hb1⟩
        have HM1 := Lib.hid (HM0.out.keep hb1)
        clear hb1
        go_wp2_with fail
        have hln := HM1.out.len
        refine (wrune_k w.heap.size w.heap.size _ 32 (by decide) (by decide) _ HM1.out.bld (by rw [hln]; omega) HM1.out.bel.size).mono ?_
        rintro e w3 ⟨⟨n, rfl⟩, h3, hb3, hk3⟩
        have hc32 : Lib.runeCells 32 = Lib.byteCells [32] := by simp [Lib.runeCells, Lib.encodeRuneZ, Lib.byteCells]
        rw [hc32] at h3
        have HC := Lib.hid (HM1.out.wrote h3 hb3 hk3 (take_end s pos hp HO.out) hk2)
        clear h3 hb3 hk3 hln hc32
        go_wp2
        go_roundw
        case rel => exact ⟨pos + 1, HC.out⟩
        case measure =>
          have a1 := HC.out.it
          have a2 := H2.out.it
          simp only [World.iterPos, a1, a2]
          omega
    · have hnx : ∀ ty, (Instr.next (.pointer (some ⟨w.heap.size + 1, 0, none⟩)) true ty).run Tryd.prog wr = _ := fun ty => Lib.run_next_end_at wr (w.heap.size + 1) s pos ty H.it hp
      have hall : s.data.toList.take pos = s.data.toList := by rw [List.take_of_length_le]; rw [← Lib.size_eq]; omega
      have HI := H.bld
      rw [hall] at HI
      have HB := Lib.hid H.bel
      clear H
      go_wp2_with fail
      refine (Tryd.Builder_String_any_k w.heap.size w.heap.size _ _ HI HB.out.size).mono ?_
      rintro e w1 ⟨rfl, _, b1, _⟩
      go_wp2
      go_ret
      exact ⟨rfl, HB.out.trans b1⟩

set_option maxRecDepth 100000 in
set_option maxHeartbeats 1000000 in
theorem oneline_calls (s : ByteArray) (w : World) (hs : s.size ≤ 35184372088832) (hT : Tb w) :
    Calls Tryd.prog 25 #[.string s] w fun e w' => e = .returned (.string ⟨(lineR s.data.toList).toArray⟩) ∧ Below w.heap.size w w' := by
  have HC := Lib.hid (change_calls s w hs hT)
  clear hT
  go_enter Tryd.func25, Tryd.ntmps25
  go_wp2_with fail
  refine HC.out.mono ?_
  rintro e w1 ⟨rfl, hb⟩
  go_wp2
  go_ret
  exact ⟨rfl, hb⟩
end Ry
end Go.Proofs.YtflmolhkbpicbaaDoor
