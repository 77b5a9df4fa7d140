/-
  Whether a text has a line's end: strings.ContainsAny of the two bytes 0d 0a, and reply.isLine.
-/
import Derived.Test.YtflmolhkbpicbaaDoorKRpyRun
namespace Go.Proofs.YtflmolhkbpicbaaDoor
open Go.RowKit
namespace Ry

set_option maxRecDepth 100000 in
theorem any_ok (l : Bytes) : (0 ≤ Lib.indexAny l [13, 10]) = (l.all okB = false) := by
  induction l with
  | nil => simp [Lib.indexAny]
  | cons c t ih =>
    have hc : ([13, 10] : List UInt8).contains c = !okB c := by
      unfold okB
      by_cases h1 : c = 13
      · subst h1; rfl
      · by_cases h2 : c = 10
        · subst h2; rfl
        · simp [h1, h2]
    have hg := Lib.indexAny_ge [13, 10] t
    unfold Lib.indexAny
    rw [hc, List.all_cons]
    cases ho : okB c
    · simp
    · simp only [Bool.not_true, Bool.false_eq_true, if_false, Bool.true_and]
      rw [← ih]
      by_cases h : Lib.indexAny t [13, 10] = -1
      · simp [h]
      · have : (Lib.indexAny t [13, 10] == -1) = false := by simpa using h
        rw [this]
        simp only [Bool.false_eq_true, if_false, eq_iff_iff]
        omega
set_option maxRecDepth 100000 in
theorem take_all (s : ByteArray) (i k : Nat) (h : i + k ≤ s.size) (hf : ∀ j (hj : i + j < s.size), j < k → okB (s[i + j]'hj) = true) (ha : (s.data.toList.take i).all okB = true) : (s.data.toList.take (i + k)).all okB = true := by
  induction k with
  | zero => exact ha
  | succ k ih =>
    have e : s.data.toList.take (i + (k + 1)) = s.data.toList.take (i + k) ++ [s[i + k]] := take_byte s (i + k) (by omega)
    rw [e, List.all_append, ih (by omega) (fun j hj hk => hf j hj (by omega))]
    simp [hf k (by omega) (by omega)]
set_option maxRecDepth 100000 in
theorem not_all (s : ByteArray) (i : Nat) (hi : i < s.size) (h : okB s[i] = false) : s.data.toList.all okB = false := by
  rw [List.all_eq_false]
  exact ⟨s[i], by rw [← byte_of s i hi]; exact List.getElem_mem _, by simp [h]⟩

set_option maxRecDepth 100000 in
set_option maxHeartbeats 4000000 in
theorem iany_short (s : ByteArray) (w : World) (h8 : s.size ≤ 8) :
    Calls Tryd.prog 83 #[.string s, .string ⟨#[13, 10]⟩] w fun e w' => ∃ i : Int, e = .returned (.int .i64 i) ∧ decide (0 ≤ i) = (!s.data.toList.all okB) ∧ Below w.heap.size w w' := by
  have HIR := Lib.hid irune_calls
  have h8z : decide ((8 : Int) < (s.size : Int)) = false := decide_eq_false (by omega)
  have HS := Lib.hid (Tryd.strings_shouldUseASCIISet s.size)
  rw [h8z] at HS
  go_enter Tryd.func83, Tryd.ntmps83
  go_wp2_with fail
  refine (HS.out _).mono ?_
  rintro e w1 ⟨rfl, rfl⟩
  go_wp2
  go_loopw [9, 10] (fun _ _ wr => ∃ pos, wr.heap[w1.heap.size]? = some (.stringIter s pos) ∧ Below w1.heap.size w1 wr ∧ pos ≤ s.size ∧ (s.data.toList.take pos).all okB = true) (fun _ _ wr => s.size - wr.iterPos w1.heap.size)
  case atStart =>
    refine ⟨0, ?_, (Below.refl _ w1).alloc (Nat.le_refl _) _, Nat.zero_le _, by simp⟩
    have := World.iter_heap w1 s 0
    simpa using this
  case round =>
    obtain ⟨pos, hit, hbw, hle, hall⟩ := hrel
    have hsz : w1.heap.size < wr.heap.size := (Array.getElem?_eq_some_iff.1 hit).1
    by_cases hp : pos < s.size
    · have hnx : ∀ ty, (Instr.next (.pointer (some ⟨w1.heap.size, 0, none⟩)) true ty).run Tryd.prog wr = _ := fun ty => Lib.run_next_any_at wr w1.heap.size s pos ty hit hp
      obtain ⟨k, hk⟩ : ∃ k, (Utf8.decode s pos).2 = k := ⟨_, rfl⟩
      obtain ⟨r, hr⟩ : ∃ r, (Utf8.decode s pos).1 = r := ⟨_, rfl⟩
      obtain ⟨hk1, hk2, hr1⟩ := rune_le s pos hp
      have hend := rune_end s pos hp
      have hfree := rune_free s pos hp
      rw [hk] at hk1 hk2
      rw [hr] at hr1
      rw [hk, hr] at hend
      rw [hr, hk] at hfree
      rw [hr, hk] at hnx
      have hit2 := Lib.hid (Lib.iterAt_heap wr w1.heap.size s pos (pos + k) hit)
      have hbw2 := Lib.hid (Lib.below_iterAt hbw (k := w1.heap.size) (Nat.le_refl _) s (pos + k))
      have H0 := Lib.hid hit
      have HL := Lib.hid hall
      clear hit hbw hall
      cases he : endR r
      · have HF := Lib.hid (hfree he)
        clear hfree hend
        go_wp2_with fail
        refine (HIR.out r hr1 _).mono ?_
        rintro e w2 ⟨i, rfl, hi, hb⟩
        rw [he] at hi
        have hi' : ¬ (0 ≤ i) := of_decide_eq_false hi
        have h3 := Lib.hid (show w2.heap[w1.heap.size]? = some (.stringIter s (pos + k)) by rw [hb.block _ (Array.getElem?_eq_some_iff.1 hit2.out).1]; exact hit2.out)
        have h4 := Lib.hid (hbw2.out.trans (hb.mono hbw2.out.size))
        clear hb hi
        go_wp2
        go_roundw
        case rel => exact ⟨pos + k, h3.out, h4.out, hk2, take_all s pos k hk2 HF.out HL.out⟩
        case measure =>
          have a1 := h3.out
          have a2 := H0.out
          simp only [World.iterPos, a1, a2]
          omega
      · have HO := Lib.hid (hend he).2
        clear hfree hend
        go_wp2_with fail
        refine (HIR.out r hr1 _).mono ?_
        rintro e w2 ⟨i, rfl, hi, hb⟩
        rw [he] at hi
        have hi' : 0 ≤ i := of_decide_eq_true hi
        have h4 := Lib.hid (hbw2.out.trans (hb.mono hbw2.out.size))
        clear hb hi
        go_wp2
        go_ret
        exact ⟨_, rfl, by rw [not_all s pos hp HO.out]; simp, h4.out⟩
    · have hnx : ∀ ty, (Instr.next (.pointer (some ⟨w1.heap.size, 0, none⟩)) true ty).run Tryd.prog wr = _ := fun ty => Lib.run_next_end_at wr w1.heap.size s pos ty hit hp
      have htk : s.data.toList.take pos = s.data.toList := by rw [List.take_of_length_le]; rw [← Lib.size_eq]; omega
      rw [htk] at hall
      have HB := Lib.hid hbw
      clear hbw hit
      go_wp2
      go_ret
      exact ⟨_, rfl, by rw [hall]; rfl, HB.out⟩

set_option maxRecDepth 100000 in
theorem set_info : (Tryd.prog.info? 125).map (fun i => (i.zero, i.size)) = some (some (.agg (Array.replicate 256 (.bool false))), 256) := by kernel_rfl
set_option maxRecDepth 100000 in
theorem nl_ascii : ∀ (j : Nat) b, (⟨#[13, 10]⟩ : ByteArray).data.toList[j]? = some b → b.toNat < 128 := by
  intro j b h
  match j, h with
  | 0, h => cases h; decide
  | 1, h => cases h; decide
  | k + 2, h => cases h
set_option maxRecDepth 100000 in
set_option maxHeartbeats 1000000 in
theorem iany_calls (s : ByteArray) (w : World) (hs : s.size < 4294967281) :
    Calls Tryd.prog 83 #[.string s, .string ⟨#[13, 10]⟩] w fun e w' => ∃ i : Int, e = .returned (.int .i64 i) ∧ decide (0 ≤ i) = (!s.data.toList.all okB) ∧ Below w.heap.size w w' := by
  by_cases h8 : s.size ≤ 8
  · exact iany_short s w h8
  · refine (Tryd.strings_IndexAny_long (zero_of_info set_info).1 s ⟨#[13, 10]⟩ w (by decide) (by omega) hs (by decide) nl_ascii).mono ?_
    rintro e w' ⟨rfl, rfl⟩
    refine ⟨_, rfl, ?_, ((Below.refl _ w).alloc (Nat.le_refl _) _).alloc (by simp) _⟩
    have := any_ok s.data.toList
    cases h : s.data.toList.all okB
    · simp only [Bool.not_false, decide_eq_true_eq]; rw [this]; exact h
    · simp only [Bool.not_true, decide_eq_false_iff_not]; rw [this]; simp [h]

set_option maxRecDepth 100000 in
set_option maxHeartbeats 1000000 in
theorem cany_calls (s : ByteArray) (w : World) (hs : s.size < 4294967281) :
    Calls Tryd.prog 72 #[.string s, .string ⟨#[13, 10]⟩] w fun e w' => e = .returned (.bool (!s.data.toList.all okB)) ∧ Below w.heap.size w w' := by
  have H := fun w => iany_calls s w hs
  generalize s.data.toList.all okB = b at H ⊢
  have H1 := Lib.hid H
  clear H
  go_enter Tryd.func72, Tryd.ntmps72
  go_wp2_with fail
  refine (H1.out _).mono ?_
  rintro e w1 ⟨i, rfl, hi, hb⟩
  have HI := Lib.hid hi
  clear hi
  go_wp2
  go_ret
  exact ⟨by rw [← HI.out]; rfl, hb⟩

set_option maxRecDepth 100000 in
set_option maxHeartbeats 1000000 in
theorem isline_calls (s : ByteArray) (b : Bool) (w : World) (hs : s.size < 4294967281) :
    Calls Tryd.prog 55 #[.string s, .bool b] w fun e w' => e = .returned (.bool (s.data.toList.all okB)) ∧ Below w.heap.size w w' := by
  have H := fun w => cany_calls s w hs
  generalize s.data.toList.all okB = b0 at H ⊢
  have H1 := Lib.hid H
  clear H
  go_enter Tryd.func55, Tryd.ntmps55
  go_wp2_with fail
  refine (H1.out _).mono ?_
  rintro e w1 ⟨rfl, hb⟩
  go_wp2
  go_ret
  refine ⟨?_, hb⟩
  cases b0 <;> rfl
end Ry
end Go.Proofs.YtflmolhkbpicbaaDoor
