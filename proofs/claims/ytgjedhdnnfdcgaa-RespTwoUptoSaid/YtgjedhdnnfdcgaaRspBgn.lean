/-
  The walk of RespBegins.
-/
import Derived.Test.YtgjedhdnnfdcgaaRspCan
namespace Go.Proofs.Ytgjedhdnnfdcgaa.Rp
open Go.RowKit

theorem Rows.take {w : World} {A : Option Addr} {rows : List (List Bytes)} (h : Rows w A rows) (n : Nat) : Rows w A (rows.take n) := fun i hi => by
  rw [List.length_take] at hi
  obtain ⟨a, e, B, c, h1⟩ := h i (by omega)
  exact ⟨a, e, B, c, by rw [List.getElem_take]; exact h1⟩
theorem begins_errs (b more : Bytes) (k : Nat) : (errI b = 0 ∧ errI (b.take k) = 0 ∧ errI (b ++ more) = 0) ∨ (errI b = 0 ∧ errI (b.take k) = 0 ∧ errI (b ++ more) = 7) ∨ (errI b = 7 ∧ errI (b.take k) = 0 ∧ errI (b ++ more) = 7) ∨ (errI b = 7 ∧ errI (b.take k) = 7 ∧ errI (b ++ more) = 7) := by
  unfold errI
  cases hb : wrong b with
  | true =>
    have h1 := (wrong_append (b := more) hb).1
    rw [h1]
    cases wrong (b.take k) <;> simp
  | false =>
    have h1 : wrong (b.take k) = false := right_begin (b := b.drop k) (by rw [List.take_append_drop]; exact hb)
    rw [h1]
    cases wrong (b ++ more) <;> simp
theorem begins_cmds (b more : Bytes) (k : Nat) : cmds (b.take k) = (cmds (b ++ more)).take (cmds (b.take k)).length ∧ (cmds (b.take k)).length ≤ (cmds (b ++ more)).length := by
  have h : b ++ more = b.take k ++ (b.drop k ++ more) := by rw [← List.append_assoc, List.take_append_drop]
  have h2 := cmds_append (b.take k) (b.drop k ++ more)
  rw [← h] at h2
  rw [h2]
  exact ⟨(List.take_left' rfl).symm, by rw [List.length_append]; omega⟩

set_option maxHeartbeats 4000000 in
set_option maxRecDepth 100000 in
theorem begins_law (C : RC) (A : Option Addr) (cap : Nat) (b : Bytes) (D : Option Addr) (capd : Nat) (more : Bytes) (at0 : Nat) (w : World) (hA : Bts w A b) (hAc : b.length ≤ cap) (hAn : A = none → cap = 0) (hb : b.length ≤ maxLen)
    (hD : Bts w D more) (hDn : D = none → capd = 0) (hd : more.length ≤ maxLen) (hat : at0 < 65536) :
    Calls Try.prog 8 #[.slice A b.length cap, .slice D more.length capd, .int .u16 (at0 : Nat)] w fun e w' => e = .returned (.bool true) ∧ Below w.heap.size w w' := by
  unfold maxLen at hb hd
  have HA := Lib.hid hA
  have HAN := Lib.hid (And.intro hAc hAn)
  have HD := Lib.hid hD
  have HDN := Lib.hid hDn
  clear hA hAc hAn hD hDn
  by_cases h1 : b.length ≤ 1000
  · have i1 : ¬ (1000 : Int) < (b.length : Int) := by omega
    by_cases h2 : more.length ≤ 300
    · have i2 : ¬ (300 : Int) < (more.length : Int) := by omega
      obtain ⟨k, hk⟩ : ∃ k, k = at0 % (b.length + 1) := ⟨_, rfl⟩
      have hkl : k ≤ b.length := by have := Nat.mod_lt at0 (show 0 < b.length + 1 by omega); omega
      have ek : (at0 : Int) % ((b.length : Int) + 1) = (k : Int) := by rw [hk]; push_cast; rfl
      have hkc : k ≤ cap := by have := HAN.out.1; omega
      clear hk
      go_enter Try.func8, Try.ntmps8
      go_wp2_with fail
      refine (C.whole_ A cap b _ HA.out HAN.out.1 HAN.out.2 (by omega)).mono ?_
      rintro e w1 ⟨A1, c1, rfl, -, -, hb1⟩
      have HB1 := Lib.hid hb1
      have HA1 := Lib.hid (HA.out.keep hb1)
      have HD1 := Lib.hid (HD.out.keep hb1)
      clear hb1 HA HD
      go_wp2_with fail
      have hkt : (b.take k).length = k := by rw [List.length_take]; omega
      have hw := C.whole_ A cap (b.take k) _ (HA1.out.take k) (by omega) HAN.out.2 (by omega)
      rw [hkt] at hw
      refine hw.mono ?_
      clear hw
      rintro e w2 ⟨A2, c2, rfl, -, hr2, hb2⟩
      have HB2 := Lib.hid (HB1.out.trans (hb2.mono HB1.out.size))
      have HR2 := Lib.hid hr2
      have HA2 := Lib.hid (HA1.out.keep hb2)
      have HD2 := Lib.hid (HD1.out.keep hb2)
      have HCS := Lib.hid (begins_cmds b more k)
      have HER := Lib.hid (begins_errs b more k)
      obtain ⟨n, hn⟩ : ∃ n, n = (cmds (b.take k)).length := ⟨_, rfl⟩
      have hnl := cmds_len (b.take k)
      have hns := (begins_cmds b more k).2
      rw [← hn] at hns hnl ⊢
      rw [← hn] at HCS
      have HN := Lib.hid hn
      clear hb2 hr2 hn HB1 HA1 HD1
      go_wp2_with fail
      refine (copy_calls A cap b _ HA2.out HAN.out.2 (by omega)).mono ?_
      rintro e w3 ⟨v3, rfl, ho3, -, hb3⟩
      have HD3 := Lib.hid (HD2.out.keep hb3)
      obtain ⟨V3, n3, c3, rfl, hn3⟩ := ho3.form
      have HO3 := Lib.hid ho3
      have HH3 := Lib.hid hb3
      clear ho3 hb3 hn3 HA2 HD2
      go_wp2_with (at_builtin; refine wpList_append_bts rfl _ _ rfl w2.heap.size _ b rfl HO3.out D capd _ more rfl HD3.out rfl HDN.out ?c1 ?c2 ?_)
      case c1 => omega
      case c2 => exact HH3.out.size
      intro v' w4 ho hg
      have HT4 := Lib.hid (BRow.grown HO3.out hg HH3.out HH3.out.size)
      have HB4 := Lib.hid (HB2.out.trans (HT4.out.mono HB2.out.size))
      have HR4 := Lib.hid (HR2.out.keep HT4.out)
      obtain ⟨V4, c4, rfl, hbt, hc4, hn4, -⟩ := ho.view
      have HBT := Lib.hid hbt
      have HN4 := Lib.hid (And.intro hc4 hn4)
      have hl4 : (b ++ more).length ≤ 1048576 := by rw [List.length_append]; omega
      obtain ⟨m, hm⟩ : ∃ m, m = (b ++ more).length := ⟨_, rfl⟩
      have hw := C.whole_ V4 c4 (b ++ more) _ HBT.out HN4.out.1 HN4.out.2 hl4
      rw [← hm] at hw ⊢
      have HW := Lib.hid hw
      clear hw hm hl4 hbt hc4 hn4 ho hg HT4 HB2 HR2 HO3 HD3 HH3
      go_wp2_with fail
      refine HW.out.mono ?_
      rintro e w5 ⟨A5, c5, rfl, hc5, hr5, hb5⟩
      have HB5 := Lib.hid (HB4.out.trans (hb5.mono HB4.out.size))
      have HR5 := Lib.hid (HR4.out.keep hb5)
      have HL5 := Lib.hid (show Rows w5 A5 (cmds (b.take k)) by rw [HCS.out.1]; exact hr5.take _)
      have hl5 := cmds_len (b ++ more)
      rw [List.length_append] at hl5
      obtain ⟨q, hq⟩ : ∃ q, q = (cmds (b ++ more)).length := ⟨_, rfl⟩
      rw [← hq] at hc5 hl5 hns ⊢
      have j1 : ¬ (q : Int) < (n : Int) := by omega
      have j2 : ¬ q < n := by omega
      have j3 : n ≤ c5 := by omega
      have HCF := Lib.hid (cmds_fit (b.take k))
      clear hb5 hr5 HB4 HR4 HCS HW HBT HN4 hq
      rcases HER.out with ⟨g1, g2, g3⟩ | ⟨g1, g2, g3⟩ | ⟨g1, g2, g3⟩ | ⟨g1, g2, g3⟩
      all_goals
        rw [g1, g2, g3]
        clear g1 g2 g3
        go_wp2_with fail
        refine (rows_same (n := n) HL5.out HR5.out HN.out (by have := HN.out; omega) HCF.out).mono ?_
        rintro e w6 ⟨rfl, hb6⟩
        have HB6 := Lib.hid (HB5.out.trans (hb6.mono HB5.out.size))
        clear hb6
        go_wp2_with fail
        refine (known_calls C _).mono ?_
        rintro e w9 ⟨rfl, hk9⟩
        have HB9 := Lib.hid (HB6.out.trans (hk9.mono HB6.out.size))
        clear hk9
        go_wp2_with fail
        go_ret
        exact ⟨rfl, HB9.out⟩
    · have i2 : (300 : Int) < (more.length : Int) := by omega
      clear h1 h2
      go_enter Try.func8, Try.ntmps8
      go_wp2_with fail
      refine (known_calls C _).mono ?_
      rintro e w9 ⟨rfl, hk9⟩
      have HB9 := Lib.hid (hk9)
      clear hk9
      go_wp2_with fail
      go_ret
      exact ⟨rfl, HB9.out⟩
  · have i1 : (1000 : Int) < (b.length : Int) := by omega
    clear h1
    go_enter Try.func8, Try.ntmps8
    go_wp2_with fail
    refine (known_calls C _).mono ?_
    rintro e w9 ⟨rfl, hk9⟩
    have HB9 := Lib.hid (hk9)
    clear hk9
    go_wp2_with fail
    go_ret
    exact ⟨rfl, HB9.out⟩
end Go.Proofs.Ytgjedhdnnfdcgaa.Rp
