/-
  The walk of TableOldest.
-/
import Derived.Test.YtdnaecmihgcelaaTabMany
namespace Go.Proofs.Ytdnaecmihgcelaa.Tb
open Go.RowKit

theorem drop_at {p : PL} {j : Nat} (h : j < p.length) : p.drop j = (p[j].1, p[j].2) :: p.drop (j + 1) := List.drop_eq_getElem_cons h
theorem nodup_drop {p : PL} (h : (p.map (·.1)).Nodup) (j : Nat) : ((p.drop j).map (·.1)).Nodup := by
  rw [List.map_drop]
  exact h.sublist (List.drop_sublist _ _)
theorem head_other {x : ByteArray × Int} {r : PL} (h : ((x :: r).map (·.1)).Nodup) : ∀ e ∈ r, ¬ e.1 = x.1 := fun e he hk => by
  rw [List.map_cons, List.nodup_cons] at h
  exact h.1 (by rw [← hk]; exact List.mem_map_of_mem (f := (·.1)) he)
theorem del_head {k : ByteArray} {v : Int} {r : PL} (h : (((k, v) :: r).map (·.1)).Nodup) : del ((k, v) :: r) k = r := by
  have := del_split (a := []) (b := r) (key := k) (v := v) (by simp) (head_other h)
  simpa using this
theorem has_head {k : ByteArray} {v : Int} {r : PL} : has ((k, v) :: r) k = true := has_mem (v := v) (by simp)
theorem getv_head {k : ByteArray} {v : Int} {r : PL} : getv ((k, v) :: r) k = v := by simp [getv]

theorem SRow.base0 {w : World} {B : Nat} {v : Value} {ps : List ByteArray} (h : SRow w B v ps) : SRow w 0 v ps := by
  refine ⟨h.1, ?_⟩
  rcases h.2 with h2 | ⟨g, cap, cur, hv, hB, hg, r⟩
  · exact .inl h2
  · exact .inr ⟨g, cap, cur, hv, Nat.zero_le _, hg, r⟩

/-- keys are texts that there can be -/
def Sized (l : PL) : Prop := ∀ e ∈ l, e.1.size ≤ maxLen
theorem Sized.nil : Sized [] := fun e he => by simp at he
theorem Sized.del {l : PL} (h : Sized l) (key : ByteArray) : Sized (del l key) := fun e he => h e (List.mem_filter.1 he).1
theorem Sized.snoc {l : PL} (h : Sized l) {key : ByteArray} (hk : key.size ≤ maxLen) (v : Int) : Sized (l ++ [(key, v)]) := fun e he => by
  rcases List.mem_append.1 he with he | he
  · exact h e he
  · simp only [List.mem_singleton] at he; subst he; exact hk
theorem Sized.put {l : PL} (h : Sized l) {key : ByteArray} (hk : key.size ≤ maxLen) (room : Nat) (v : Int) : Sized (put room l key v).1 := by
  unfold Tb.put
  split
  · exact (h.del key).snoc hk v
  · split
    · exact h.snoc hk v
    · exact h
theorem Sized.get {l : PL} (h : Sized l) {key : ByteArray} (hk : key.size ≤ maxLen) : Sized (get l key) := by
  unfold Tb.get
  split
  · exact (h.del key).snoc hk _
  · exact h
theorem Sized.step {l : PL} (h : Sized l) (d : Act) (hk : d.2.1.size ≤ maxLen) (room : Nat) : Sized (stepL room l d).1 := by
  unfold stepL
  split
  · exact h.put hk _ _
  · split
    · exact h.get hk
    · split
      · exact h.del _
      · exact h
theorem Sized.drop {l : PL} (h : Sized l) (j : Nat) : Sized (l.drop j) := fun e he => h e (List.mem_of_mem_drop he)

theorem mOldest0 {w0 w : World} {t room : Nat} (h : Mine w0 w t room []) :
    Calls Try.prog 23 #[.pointer (some ⟨t, 0, none⟩)] w fun e w' => e = .returned (.tuple #[.string ⟨#[]⟩, .int .i64 0, .bool false]) ∧ Mine w0 w' t room [] ∧ Below w.heap.size w w' := mOldest h
theorem mOldest1 {w0 w : World} {t room : Nat} {k : ByteArray} {v : Int} {r : PL} (h : Mine w0 w t room ((k, v) :: r)) :
    Calls Try.prog 23 #[.pointer (some ⟨t, 0, none⟩)] w fun e w' => e = .returned (.tuple #[.string k, .int .i64 v, .bool true]) ∧ Mine w0 w' t room ((k, v) :: r) ∧ Below w.heap.size w w' := mOldest h

set_option maxRecDepth 100000 in
set_option maxHeartbeats 4000000 in
theorem oldest_law (A : Option Addr) (cap : Nat) (L : List Act) (w : World) (hD : Dos w A L) (hK : Keyed L) (hZ : L.length ≤ maxLen) :
    Calls Try.prog 6 #[.slice A L.length cap] w fun e w' => e = .returned (.bool true) ∧ Below w.heap.size w w' := by
  unfold maxLen at hZ
  by_cases h60 : 60 < L.length
  · have t1 : decide ((60 : Int) < (L.length : Int)) = true := decide_eq_true (by omega)
    clear hD hK
    go_enter Try.func6, Try.ntmps6
    go_wp2_with fail
    refine (known_calls _).mono ?_
    rintro e w8 ⟨rfl, hb8⟩
    go_wp2_with fail
    go_ret
    exact ⟨rfl, hb8⟩
  · have t1 : decide ((60 : Int) < (L.length : Int)) = false := decide_eq_false (by omega)
    have HD := Lib.hid hD
    have HK := Lib.hid hK
    clear hD hK
    go_enter Try.func6, Try.ntmps6
    go_wp2_with fail
    refine (Long_calls A cap L w HD.out (by omega)).mono ?_
    rintro e w1 ⟨⟨m, rfl⟩, hb1⟩
    have B1 := Lib.hid hb1
    clear hb1
    by_cases h8 : 800 < m
    · go_wp2_with fail
      refine (known_calls _).mono ?_
      rintro e w8 ⟨rfl, hb8⟩
      go_wp2_with fail
      go_ret
      exact ⟨rfl, B1.out.trans (hb8.mono B1.out.size)⟩
    · go_wp2_with fail
      refine (mNew 50 (by omega) B1.out).mono ?_
      rintro e w2 ⟨t, rfl, h2, -⟩
      have H2 : Hid (Mine w w2 t 50 []) := Lib.hid h2
      clear h2 B1
      go_wp2_with fail
      go_loopw [4] (fun i wr => ∃ k : Nat, k ≤ L.length ∧ i = .int .i64 (k : Nat) ∧ Hid (∃ p, Mine w wr t 50 p ∧ Sized p)) (fun i _ => L.length - (intOf i).toNat)
      case atStart => exact ⟨0, Nat.zero_le _, rfl, _, H2.out, Sized.nil⟩
      case round =>
        obtain ⟨k, hk, rfl, HM⟩ := hrel
        obtain ⟨p, hM, hS⟩ := HM.out
        have HS := Lib.hid hS
        clear HM hS
        by_cases hlt : k < L.length
        · obtain ⟨a, rfl, c0, c1, c2⟩ := (HD.out.keep hM.1).at_ hlt
          have hkk := HK.out L[k] (List.getElem_mem hlt)
          have H3 := Lib.hid hM
          clear hM
          go_wp2_with fail
          refine (mDid H3.out L[k] hkk).mono ?_
          rintro e w4 ⟨rfl, h4, -⟩
          have H4 := Lib.hid h4
          clear h4 c0 c1 c2
          go_wp2_with fail
          go_roundw
          case rel => exact ⟨k + 1, by omega, by go_num, _, H4.out, HS.out.step _ hkk _⟩
          case measure => simp [intOf]; omega
        · have H3 := Lib.hid hM
          clear hM
          go_wp2_with fail
          refine (mKeys H3.out).mono ?_
          rintro e w5 ⟨A2, cap2, rfl, hr, h5, -⟩
          have hlen := h5.len_le
          have hnd := Lib.hid h5.nodup
          have H5 := Lib.hid h5
          have R5 := Lib.hid (hr.base0)
          clear h5 hr H3 H2
          go_wp2_with fail
          go_loopw [6] (fun i wr => ∃ j : Nat, j ≤ p.length ∧ i = .int .i64 (j : Nat) ∧ Hid (Mine w wr t 50 (p.drop j) ∧ SRow wr 0 (.slice A2 p.length cap2) (p.map (·.1)))) (fun i _ => p.length - (intOf i).toNat)
          case atStart => exact ⟨0, Nat.zero_le _, rfl, by rw [List.drop_zero]; exact H5.out, R5.out⟩
          case round =>
            obtain ⟨j, hj, rfl, HJ⟩ := hrel
            by_cases hlt2 : j < p.length
            · have hM := HJ.out.1
              have hR := HJ.out.2
              have hnj := nodup_drop hnd.out j
              rw [drop_at hlt2] at hM hnj
              obtain ⟨a2, ea, hc⟩ := hR.texts.2.at_ (i := j) (by rw [List.length_map]; exact hlt2)
              subst ea
              rw [List.getElem_map] at hc
              have HR := Lib.hid hR
              have HN := Lib.hid hnj
              have H6 := Lib.hid hM
              clear hM hR hnj HJ
              go_wp2_with fail
              refine (mOldest1 H6.out).mono ?_
              rintro e w6 ⟨rfl, h6, hb6⟩
              have H7 := Lib.hid h6
              have R7 := Lib.hid (HR.out.below hb6)
              clear h6 hb6 hc H6 HR
              obtain ⟨a3, ea, hc⟩ := R7.out.texts.2.at_ (i := j) (by rw [List.length_map]; exact hlt2)
              injection ea with ea
              subst ea
              rw [List.getElem_map] at hc
              go_wp2_with fail
              have hsz := HS.out p[j] (List.getElem_mem hlt2)
              refine (mPeek H7.out p[j].1 hsz).mono ?_
              rw [has_head, getv_head]
              rintro e w8 ⟨rfl, h8, hb8⟩
              have H8 := Lib.hid h8
              have R8 := Lib.hid (R7.out.below hb8)
              clear h8 hb8 hc H7 R7
              obtain ⟨a4, ea, hc⟩ := R8.out.texts.2.at_ (i := j) (by rw [List.length_map]; exact hlt2)
              injection ea with ea
              subst ea
              rw [List.getElem_map] at hc
              go_wp2_with fail
              refine (mDelete H8.out p[j].1 hsz).mono ?_
              rw [has_head, del_head HN.out]
              rintro e w9 ⟨rfl, h9, f9⟩
              have H9 := Lib.hid h9
              have R9 := Lib.hid (R8.out.far f9)
              clear h9 f9 hc H8 R8
              go_wp2_with fail
              have hln := mLen H9.out
              rw [show (((p.drop (j + 1)).length : Nat) : Int) = (p.length : Int) - (j : Int) - 1 by rw [List.length_drop]; omega] at hln
              refine hln.mono ?_
              rintro e w10 ⟨rfl, e10⟩
              subst e10
              clear hln
              go_wp2_with fail
              go_roundw
              case rel => exact ⟨j + 1, by omega, by go_num, H9.out, R9.out⟩
              case measure => simp [intOf]; omega
            · have H6 : Hid (Mine w wr t 50 []) := Lib.hid (by
                have := HJ.out.1
                rw [List.drop_eq_nil_of_le (by omega)] at this
                exact this)
              clear HJ H5 R5
              go_wp2_with fail
              refine (mOldest0 H6.out).mono ?_
              rintro e w6 ⟨rfl, h6, hb6⟩
              have H7 := Lib.hid h6
              clear h6 hb6 H6
              have hln : Calls Try.prog 22 #[.pointer (some ⟨t, 0, none⟩)] w6 fun e w' => e = .returned (.int .i64 0) ∧ w6 = w' := mLen H7.out
              go_wp2_with fail
              refine hln.mono ?_
              rintro e w7 ⟨rfl, e7⟩
              subst e7
              clear hln
              go_wp2_with fail
              refine (mKeys H7.out).mono ?_
              rintro e w8 ⟨A8, cap8, rfl, -, h8, -⟩
              have H8 := Lib.hid h8
              clear h8 H7
              go_wp2_with fail
              refine (known_calls _).mono ?_
              rintro e w9 ⟨rfl, hb9⟩
              have H9 := Lib.hid (H8.out.below hb9)
              clear hb9
              go_wp2_with fail
              go_ret
              exact ⟨rfl, H9.out.1⟩

end Go.Proofs.Ytdnaecmihgcelaa.Tb
