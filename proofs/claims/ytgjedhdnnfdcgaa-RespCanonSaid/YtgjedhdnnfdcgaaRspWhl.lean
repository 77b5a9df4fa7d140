/-
  The walk of RespWholes.
-/
import Derived.Test.YtgjedhdnnfdcgaaRspKn
namespace Go.Proofs.Ytgjedhdnnfdcgaa.Rp
open Go.RowKit

theorem rows_same {w : World} {A D : Option Addr} {c d n : Nat} {rows : List (List Bytes)} (hA : Rows w A rows) (hD : Rows w D rows) (hn : n = rows.length) (hl : rows.length ≤ 1048576) (hm : ∀ x ∈ rows, x.length ≤ 1048576) :
    Calls Try.prog 20 #[.slice A n c, .slice D n d] w fun e w' => e = .returned (.bool true) ∧ Below w.heap.size w w' := by
  subst hn
  exact rows_true A D c d rows w hA hD hl hm
theorem cmds_len (b : Bytes) : (cmds b).length ≤ b.length := by
  have h := (canon b).1
  suffices ∀ l : List (List Bytes), l.length ≤ (encs l).length from Nat.le_trans (this (cmds b)) h
  intro l
  induction l with
  | nil => exact Nat.zero_le _
  | cons x l ih =>
    have e : encs (x :: l) = enc x ++ encs l := by simp [encs]
    have h1 : 1 ≤ (enc x).length := by simp [enc]
    rw [e, List.length_append, List.length_cons]
    omega
theorem cmds_fit (b : Bytes) : ∀ x ∈ cmds b, x.length ≤ 1048576 := fun x hx => by have := ((canon b).2.2 x hx).2.1; omega
theorem Texts.goesB {w w' : World} {A : Option Addr} {ps : List ByteArray} (h : Texts w A ps) (hb : Below w.heap.size w w') : Texts w' A ps := h.keep hb

set_option maxHeartbeats 4000000 in
set_option maxRecDepth 100000 in
theorem wholes_law (C : RC) (A : Option Addr) (cap : Nat) (b : Bytes) (D : Option Addr) (capd : Nat) (args : List Bytes) (w : World) (hA : Bts w A b) (hAc : b.length ≤ cap) (hAn : A = none → cap = 0) (hb : b.length ≤ 1048576)
    (hD : Texts w D (args.map bat)) (hDc : args.length ≤ capd) (hDn : D = none → capd = 0) (hl : longA args ≤ 1048576) :
    Calls Try.prog 4 #[.slice A b.length cap, .slice D args.length capd] w fun e w' => e = .returned (.bool true) ∧ Below w.heap.size w w' := by
  have HA := Lib.hid hA
  have HD := Lib.hid hD
  have HDN := Lib.hid (And.intro hDc hDn)
  have HAN := Lib.hid (And.intro hAc hAn)
  clear hA hD hDc hDn hAc hAn
  by_cases h1 : b.length ≤ 1500
  · have i1 : ¬ (1500 : Int) < (b.length : Int) := by omega
    by_cases h2 : longA args ≤ 1500
    · have i2 : ¬ (1500 : Int) < (longA args : Int) := by omega
      have HWE : Hid ((wrong b = true ∧ errI b = 7) ∨ (wrong b = false ∧ errI b = 0)) := Lib.hid (by unfold errI; cases wrong b <;> simp)
      obtain ⟨z, hz⟩ : ∃ z, longA args = z := ⟨_, rfl⟩
      rw [hz] at i2
      have HZ := Lib.hid hz
      have hz2 : z ≤ 1500 := by omega
      clear h1 h2 hz
      go_enter Try.func4, Try.ntmps4
      go_wp2_with fail
      refine (long_calls D capd args _ HD.out (by omega)).mono ?_
      rintro e w1 ⟨rfl, rfl⟩
      rw [HZ.out]
      go_wp2_with fail
      refine (C.whole_ A cap b _ HA.out HAN.out.1 HAN.out.2 hb).mono ?_
      rintro e w1 ⟨A1, c1, rfl, -, hr1, hb1⟩
      have HB1 := Lib.hid hb1
      have HR1 := Lib.hid hr1
      have HA1 := Lib.hid (HA.out.keep hb1)
      have HD1 := Lib.hid (HD.out.keep hb1)
      clear hb1 hr1
      go_wp2_with fail
      refine (whole_calls A cap b _ HA1.out hb HAN.out.1).mono ?_
      rintro e w2 ⟨⟨A2, c2, L, rfl, hL, hrr, hrd⟩, hb2⟩
      obtain ⟨A3, c3, e3, hv⟩ := hrr.view hrd
      injection e3 with e31 e32 e33
      subst e31
      have hn : L.length = (cmds b).length := by rw [← hL, List.length_map]
      rw [hL] at hv
      rw [hn]
      have HB2 := Lib.hid (HB1.out.trans (hb2.mono HB1.out.size))
      have HR2 := Lib.hid (HR1.out.keep hb2)
      have HV2 := Lib.hid hv
      have HD2 := Lib.hid (HD1.out.keep hb2)
      have hcl := cmds_len b
      clear hL hrr hrd hv hn hb2 HB1 HR1 HA1 HD1
      obtain ⟨n, hn⟩ : ∃ n, n = (cmds b).length := ⟨_, rfl⟩
      rw [← hn]
      have HN := Lib.hid hn
      have HCL : Hid ((cmds b).length ≤ 1048576) := Lib.hid (by omega)
      clear hn hcl
      go_wp2_with fail
      refine (rows_same (n := n) HR2.out HV2.out HN.out HCL.out (cmds_fit b)).mono ?_
      rintro e w3 ⟨rfl, hb3⟩
      have HB3 := Lib.hid (HB2.out.trans (hb3.mono HB2.out.size))
      have HD3 := Lib.hid (HD2.out.keep hb3)
      clear hb3 HB2 HR2 HV2 HD2
      have HCC := fun W hT => Lib.hid (C.command_ D capd args W hT HDN.out.1 HDN.out.2 hl)
      rcases HWE.out with ⟨hw, he⟩ | ⟨hw, he⟩
      all_goals
        rw [hw, he]
        clear hw he
        go_wp2_with fail
        refine (HCC _ HD3.out).out.mono ?_
        rintro e w4 ⟨A4, c4, rfl, hb4, hk4⟩
        have HB4 := Lib.hid (HB3.out.trans (hk4.mono HB3.out.size))
        have HE4 := Lib.hid hb4
        have HD4 := Lib.hid (HD3.out.keep hk4)
        clear hb4 hk4
        go_wp2_with fail
        refine (command_calls D capd args _ HD4.out hl).mono ?_
        rintro e w5 ⟨A5, c5, rfl, hb5, hk5⟩
        have HB5 := Lib.hid (HB4.out.trans (hk5.mono HB4.out.size))
        have HE5 := Lib.hid (HE4.out.keep hk5)
        have HF5 := Lib.hid hb5
        have HD5 := Lib.hid (HD4.out.keep hk5)
        clear hb5 hk5 HB4 HE4 HD4
        go_wp2_with fail
        refine (bytes_true A4 A5 c4 c5 (enc args) _ HE5.out HF5.out).mono ?_
        rintro e w6 ⟨rfl, hk6⟩
        have HB6 := Lib.hid (HB5.out.trans (hk6.mono HB5.out.size))
        have HD6 := Lib.hid (HD5.out.keep hk6)
        clear hk6 HE5 HF5 HB5 HD5
        go_wp2_with fail
        refine (C.may_ D capd args _ HD6.out HDN.out.1 HDN.out.2 hl).mono ?_
        rintro e w7 ⟨rfl, hk7⟩
        have HB7 := Lib.hid (HB6.out.trans (hk7.mono HB6.out.size))
        have HD7 := Lib.hid (HD6.out.keep hk7)
        have hlen : args.length ≤ 1048576 := by have := longA_len args; omega
        have HLEN := Lib.hid hlen
        clear hk7 HB6 HD6 hlen
        go_wp2_with fail
        refine (may_calls D capd args _ HD7.out HLEN.out (fun a ha => by have := longA_mem ha; omega)).mono ?_
        rintro e w8 ⟨rfl, rfl⟩
        generalize mayB args = mb
        cases mb
        all_goals
          go_wp2_with fail
          refine (known_calls C _).mono ?_
          rintro e w9 ⟨rfl, hk9⟩
          have HB9 := Lib.hid (HB7.out.trans (hk9.mono HB7.out.size))
          clear hk9
          go_wp2_with fail
          go_ret
          exact ⟨rfl, HB9.out⟩
    · have i2 : (1500 : Int) < (longA args : Int) := by omega
      obtain ⟨z, hz⟩ : ∃ z, longA args = z := ⟨_, rfl⟩
      rw [hz] at i2
      have HZ := Lib.hid hz
      clear h1 h2 hz
      go_enter Try.func4, Try.ntmps4
      go_wp2_with fail
      refine (long_calls D capd args _ HD.out (by omega)).mono ?_
      rintro e w1 ⟨rfl, rfl⟩
      rw [HZ.out]
      go_wp2_with fail
      refine (known_calls C _).mono ?_
      rintro e w9 ⟨rfl, hk9⟩
      have HB9 := Lib.hid hk9
      clear hk9
      go_wp2_with fail
      go_ret
      exact ⟨rfl, HB9.out⟩
  · have i1 : (1500 : Int) < (b.length : Int) := by omega
    clear h1
    go_enter Try.func4, Try.ntmps4
    go_wp2_with fail
    refine (known_calls C _).mono ?_
    rintro e w9 ⟨rfl, hk9⟩
    have HB9 := Lib.hid hk9
    clear hk9
    go_wp2_with fail
    go_ret
    exact ⟨rfl, HB9.out⟩
end Go.Proofs.Ytgjedhdnnfdcgaa.Rp
