/-
  The walk of RespBack.
-/
import Derived.Test.YtgjedhdnnfdcgaaRspBck
namespace Go.Proofs.Ytgjedhdnnfdcgaa.Rp
open Go.RowKit

/-- the loop's relation -/
def BackInv (l : List (List Bytes)) (w : World) (n v last i : Value) (wr : World) : Prop :=
  ∃ k nn : Nat, k ≤ l.length ∧ i = .int .i64 (k : Nat) ∧ n = .int .i64 (nn : Nat) ∧ nn ≤ 6291456 ∧ last = .int .i64 (lastL l k : Nat) ∧ Hid (nn = 5 * k + sumA (l.take k)) ∧ Hid (∀ x ∈ l.take k, May x) ∧ Hid (BRow wr w.heap.size v (encs (l.take k)) ∧ Below w.heap.size w wr)

set_option maxHeartbeats 4000000 in
set_option maxRecDepth 100000 in
theorem back_law (C : RC) (A : Option Addr) (cap : Nat) (l : List (List Bytes)) (cut : Nat) (odd : UInt8) (w : World) (hA : Rows w A l) (hAc : l.length ≤ cap) (hs : l.length + sumA l ≤ 1048576) (hcut : cut < 65536) :
    Calls Try.prog 6 #[.slice A l.length cap, .int .u16 (cut : Nat), .int .u8 (odd.toNat : Int)] w fun e w' => e = .returned (.bool true) ∧ Below w.heap.size w w' := by
  have HA := Lib.hid hA
  clear hA
  go_enter Try.func6, Try.ntmps6
  go_wp2_with fail
  go_loopw [7, 8, 9, 10] (fun n v last i wr => BackInv l w n v last i wr) (fun _ _ _ i _ => l.length - (intOf i).toNat)
  case atStart => exact ⟨0, 0, Nat.zero_le _, rfl, rfl, by omega, rfl, Lib.hid (by simp [sumA]), Lib.hid (by simp), Lib.hid ⟨BRow.nil _ _, Below.refl _ _⟩⟩
  case round =>
    obtain ⟨k, nn, hk, rfl, rfl, hnn, rfl, HN, HM, H⟩ := hrel
    obtain ⟨V, n0, vc, rfl, hn0⟩ := BRow.form H.out.1
    have HN0 := Lib.hid hn0
    clear hn0
    by_cases hlt : k < l.length
    · obtain ⟨a, rfl, X, xc, c0, hx, hx2⟩ := (HA.out.keep H.out.2).at_ hlt
      have hll := lastL_succ hlt
      have htk := List.take_succ_eq_append_getElem hlt
      have hsx := sumA_mem (List.getElem_mem hlt)
      have hst := sumA_take_le l (k + 1)
      rw [htk, sumA_snoc] at hst
      have hnn2 : nn + 5 + longA l[k] ≤ 6291456 := by have := HN.out; omega
      have HN2 : Hid (nn + 5 + longA l[k] = 5 * (k + 1) + sumA (l.take (k + 1))) := Lib.hid (by rw [htk, sumA_snoc, HN.out]; omega)
      have hel := encs_len (l.take k) (by omega)
      rw [List.length_take, Nat.min_eq_left (by omega)] at hel
      have hst2 := sumA_take_le l k
      have hex := (enc_len l[k] (by omega)).1
      have HLL := Lib.hid hll
      have HTK := Lib.hid htk
      have HEL := Lib.hid (show (encs (l.take k)).length + (enc l[k]).length ≤ 67108864 by omega)
      clear hll htk hst hel hst2 hex
      generalize l[k] = x at c0 hx hx2 hsx hnn2 HN2 HLL HTK HEL
      have i2 : (k : Int) < (l.length : Int) := by omega
      have HX := Lib.hid hx
      have HX2 := Lib.hid hx2
      have HSX := Lib.hid (show longA x ≤ 1048576 by omega)
      have HNM := Lib.hid (@not_may x)
      obtain ⟨xn, hxn⟩ : ∃ xn, xn = x.length := ⟨_, rfl⟩
      rw [← hxn] at c0
      have HXN := Lib.hid hxn
      obtain ⟨z, hz⟩ : ∃ z, z = longA x := ⟨_, rfl⟩
      rw [← hz] at hnn2 HN2 hsx
      have HZ := Lib.hid hz
      clear hx hx2 hxn hz
      go_wp2_with fail
      have hmc := long_calls X xc x _ HX.out (by have := HSX.out; omega)
      rw [← HXN.out, ← HZ.out] at hmc
      refine hmc.mono ?_
      clear hmc
      rintro e w1 ⟨rfl, rfl⟩
      go_wp2_with fail
      have hmc := C.may_ X xc x _ HX.out HX2.out.1 HX2.out.2 HSX.out
      rw [← HXN.out] at hmc
      refine hmc.mono ?_
      clear hmc
      rintro e w2 ⟨rfl, hb2⟩
      have HB2 := Lib.hid (H.out.2.trans (hb2.mono H.out.2.size))
      have HO2 := Lib.hid (H.out.1.below hb2)
      have c02 := keep2 hb2 c0
      have HX3 := Lib.hid (HX.out.keep hb2)
      clear hb2 c0 H HX
      cases hmb : mayB x with
      | false =>
        have hnm := HNM.out hmb
        rw [← HXN.out, ← HZ.out] at hnm
        by_cases h1 : xn = 0
        · have t1 : ((xn : Int) == 0) = true := by rw [h1]; rfl
          clear hnm
          go_wp2_with fail
          refine (known_calls C _).mono ?_
          rintro e w9 ⟨rfl, hk9⟩
          have HB9 := Lib.hid (HB2.out.trans (hk9.mono HB2.out.size))
          clear hk9
          go_wp2_with fail
          go_ret
          exact ⟨rfl, HB9.out⟩
        · have t1 : ((xn : Int) == 0) = false := by rw [beq_eq_false_iff_ne]; omega
          by_cases h2 : 50 < xn
          · have t2 : (50 : Int) < (xn : Int) := by omega
            clear hnm
            go_wp2_with fail
            refine (known_calls C _).mono ?_
            rintro e w9 ⟨rfl, hk9⟩
            have HB9 := Lib.hid (HB2.out.trans (hk9.mono HB2.out.size))
            clear hk9
            go_wp2_with fail
            go_ret
            exact ⟨rfl, HB9.out⟩
          · have t2 : ¬ (50 : Int) < (xn : Int) := by omega
            have t3 : (1000 : Int) < (z : Int) := by omega
            clear hnm
            go_wp2_with fail
            have hmc := long_calls X xc x _ HX3.out (by have := HSX.out; omega)
            rw [← HXN.out, ← HZ.out] at hmc
            refine hmc.mono ?_
            clear hmc
            rintro e w3 ⟨rfl, rfl⟩
            go_wp2_with fail
            refine (known_calls C _).mono ?_
            rintro e w9 ⟨rfl, hk9⟩
            have HB9 := Lib.hid (HB2.out.trans (hk9.mono HB2.out.size))
            clear hk9
            go_wp2_with fail
            go_ret
            exact ⟨rfl, HB9.out⟩
      | true =>
        have HMX := Lib.hid (mayB_iff.1 hmb)
        clear hmb HNM
        go_wp2_with fail
        have hmc := C.command_ X xc x _ HX3.out HX2.out.1 HX2.out.2 HSX.out
        rw [← HXN.out] at hmc
        refine hmc.mono ?_
        clear hmc
        rintro e w3 ⟨A4, c4, rfl, hb4, hk4⟩
        have HB3 := Lib.hid (HB2.out.trans (hk4.mono HB2.out.size))
        have HO3 := Lib.hid (HO2.out.below hk4)
        have HE3 := Lib.hid hb4
        have hA4 : A4 = none → c4 = 0 := fun e => by subst e; obtain ⟨_, e, _⟩ := hb4 0 (by simp [enc]); cases e
        have HA4 := Lib.hid hA4
        obtain ⟨en, hen⟩ : ∃ en, en = (enc x).length := ⟨_, rfl⟩
        rw [← hen]
        have HEN := Lib.hid hen
        clear hk4 hb4 hA4 hen HB2 HO2 HX3 c02
        go_wp2_with (at_builtin; refine wpList_append_bts rfl _ _ rfl w.heap.size _ _ rfl HO3.out A4 c4 _ (enc x) rfl HE3.out HEN.out HA4.out ?c1 ?c2 ?_)
        case c1 => exact HEL.out
        case c2 => exact HB3.out.size
        intro v' w4 ho hg
        have HB4 := Lib.hid (BRow.grown HO3.out hg HB3.out HB3.out.size)
        have HO4 := Lib.hid ho
        clear ho hg HB3 HO3 HE3
        go_wp2_with fail
        go_roundw
        case rel =>
          refine ⟨k + 1, nn + 5 + z, by omega, by go_num, by go_num, hnn2, by rw [HLL.out, ← HEN.out], HN2, Lib.hid ?_, Lib.hid ⟨by rw [HTK.out, encs_snoc]; exact HO4.out, HB4.out⟩⟩
          intro y hy
          rw [HTK.out] at hy
          rcases List.mem_append.1 hy with hy | hy
          · exact HM.out y hy
          · rw [List.mem_singleton] at hy; rw [hy]; exact HMX.out
        case measure => simp [intOf]; omega
    · have hke : k = l.length := by omega
      have i2 : ¬ (k : Int) < (l.length : Int) := by omega
      subst hke
      have hm := HM.out
      have hH := H.out
      have hn0 := HN0.out
      rw [List.take_length] at hm hH hn0
      have HB := Lib.hid hH.2
      have HO := Lib.hid hH.1
      have HR := Lib.hid (HA.out.keep hH.2)
      obtain ⟨la, hla⟩ : ∃ la, la = lastL l l.length := ⟨_, rfl⟩
      rw [← hla]
      have HLA := Lib.hid hla
      have HNE := Lib.hid hn0
      have HMM := Lib.hid hm
      clear hm hH hn0 hla HM H HN0 hlt hk
      by_cases h1 : 1500 < nn
      · have t1 : (1500 : Int) < (nn : Int) := by omega
        clear h1
        go_wp2_with fail
        refine (known_calls C _).mono ?_
        rintro e w9 ⟨rfl, hk9⟩
        have HB9 := Lib.hid (HB.out.trans (hk9.mono HB.out.size))
        clear hk9
        go_wp2_with fail
        go_ret
        exact ⟨rfl, HB9.out⟩
      · have t1 : ¬ (1500 : Int) < (nn : Int) := by omega
        by_cases h2 : l.length = 0
        · have t2 : ((l.length : Int) == 0) = true := by rw [h2]; rfl
          have t2' : (l.length == 0) = true := by rw [h2]; rfl
          clear h1
          go_wp2_with fail
          refine (known_calls C _).mono ?_
          rintro e w9 ⟨rfl, hk9⟩
          have HB9 := Lib.hid (HB.out.trans (hk9.mono HB.out.size))
          clear hk9
          go_wp2_with fail
          go_ret
          exact ⟨rfl, HB9.out⟩
        · have h0 : 0 < l.length := by omega
          obtain ⟨⟨a1, a2, a3⟩, a4, a5, a6, a7⟩ := back_all HMM.out h0
          rw [← HLA.out] at a4 a5 a6
          rw [← HNE.out] at a2 a5 a6 a7
          have hel := encs_len l (by omega)
          rw [← HNE.out] at hel
          have hnn3 := HN.out
          rw [List.take_length] at hnn3
          have hn0l : n0 ≤ 100000 := by omega
          have t2 : ((l.length : Int) == 0) = false := by rw [beq_eq_false_iff_ne]; omega
          have t3 : ((la : Int) == 0) = false := by rw [beq_eq_false_iff_ne]; omega
          obtain ⟨vA, vC, hve, hbt, hvc, hvn, hvb⟩ := HO.out.view
          injection hve with e1 e2 e3
          subst e1 e3
          obtain ⟨c, hc⟩ : ∃ c, c = 1 + cut % la := ⟨_, rfl⟩
          have hcl : c ≤ la := by have := Nat.mod_lt cut (show 0 < la by omega); omega
          have hc1 : 1 ≤ c := by omega
          have ec : 1 + (cut : Int) % (la : Int) = (c : Int) := by rw [hc]; push_cast; rfl
          obtain ⟨d, hd⟩ : ∃ d, d = n0 - c := ⟨_, rfl⟩
          have ed : (n0 : Int) - (c : Int) = (d : Int) := by omega
          have edl : (n0 : Int) - (la : Int) = ((n0 - la : Nat) : Int) := by omega
          have ell : (l.length : Int) - 1 = ((l.length - 1 : Nat) : Int) := by omega
          have hdn : d ≤ n0 := by omega
          have A1 := Lib.hid a1
          have A2 := Lib.hid a2
          have A3 := Lib.hid a3
          have A6 := Lib.hid (a6 c hc1 hcl)
          have A7 := Lib.hid a7
          have HBT := Lib.hid hbt
          have HVN := Lib.hid hvn
          rw [← hd] at A6
          have hdz : d ≤ vc := by have := HNE.out; omega
          have hvc2 : n0 ≤ vc := by have := HNE.out; omega
          have HC := Lib.hid hc
          have HCN : Hid (∀ x ∈ l, x.length ≤ 1048576) := Lib.hid (fun x hx => by have := (HMM.out x hx).2.1; omega)
          clear a1 a2 a3 a4 a5 a6 a7 hel hnn3 h1 h2 hbt hvn hvb hc hd e2 hvc
          go_wp2_with fail
          have hw := C.whole_ V vc (encs l) _ HBT.out (by rw [← HNE.out]; exact hvc2) HVN.out (by rw [← HNE.out]; omega)
          rw [← HNE.out] at hw
          refine hw.mono ?_
          clear hw
          rw [A1.out, A2.out, A3.out]
          rintro e w1 ⟨A1', c1, rfl, -, hr1, hb1⟩
          have HB1 := Lib.hid (HB.out.trans (hb1.mono HB.out.size))
          have HR1 := Lib.hid hr1
          have HL1 := Lib.hid (HR.out.keep hb1)
          have HO1 := Lib.hid (HO.out.below hb1)
          have HBT1 := Lib.hid (HBT.out.keep hb1)
          clear hb1 hr1 HB HR HO HBT
          go_wp2_with fail
          refine (rows_same (n := l.length) HR1.out HL1.out rfl (by omega) HCN.out).mono ?_
          rintro e w2 ⟨rfl, hb2⟩
          have HB2 := Lib.hid (HB1.out.trans (hb2.mono HB1.out.size))
          have HL2 := Lib.hid (HL1.out.keep hb2)
          have HO2 := Lib.hid (HO1.out.below hb2)
          have HBT2 := Lib.hid (HBT1.out.keep hb2)
          clear hb2 HB1 HR1 HL1 HO1 HBT1
          go_wp2_with fail
          have hw := C.whole_ V vc ((encs l).take d) _ (HBT2.out.take d) (by rw [List.length_take]; omega) HVN.out (by rw [List.length_take]; omega)
          rw [show ((encs l).take d).length = d by rw [List.length_take, ← HNE.out]; omega] at hw
          refine hw.mono ?_
          clear hw
          rw [A6.out.1, A6.out.2.1, A6.out.2.2]
          rintro e w3 ⟨A3', c3, rfl, -, hr3, hb3⟩
          have HB3 := Lib.hid (HB2.out.trans (hb3.mono HB2.out.size))
          have HR3 := Lib.hid hr3
          have HL3 := Lib.hid (HL2.out.keep hb3)
          have HT3 := Lib.hid (HL3.out.take (l.length - 1))
          have HO3 := Lib.hid (HO2.out.below hb3)
          have htl : (l.take (l.length - 1)).length = l.length - 1 := by rw [List.length_take]; omega
          rw [htl]
          obtain ⟨l1, hl1⟩ : ∃ l1, l1 = l.length - 1 := ⟨_, rfl⟩
          rw [← hl1] at htl HT3 HR3 ell ⊢
          have HTL := Lib.hid htl
          have hl1c : l1 ≤ cap := by omega
          have HCT : Hid (∀ x ∈ l.take l1, x.length ≤ 1048576) := Lib.hid (fun x hx => HCN.out x (List.mem_of_mem_take hx))
          have hl1m : l1 ≤ 1048576 := by omega
          clear hb3 hr3 HB2 HL2 HO2 HBT2 htl hl1
          go_wp2_with fail
          refine (rows_same (n := l1) HR3.out HT3.out HTL.out.symm (by rw [HTL.out]; exact hl1m) HCT.out).mono ?_
          rintro e w4 ⟨rfl, hb4⟩
          have HB4 := Lib.hid (HB3.out.trans (hb4.mono HB3.out.size))
          have HL4 := Lib.hid (HL3.out.keep hb4)
          have HO4 := Lib.hid (HO3.out.below hb4)
          clear hb4 HB3 HR3 HL3 HT3 HO3
          by_cases hodd : odd = 42
          · have t5 : ((odd.toNat : Int) == 42) = true := by rw [hodd]; rfl
            clear hodd A7
            go_wp2_with fail
            refine (known_calls C _).mono ?_
            rintro e w9 ⟨rfl, hk9⟩
            have HB9 := Lib.hid (HB4.out.trans (hk9.mono HB4.out.size))
            clear hk9
            go_wp2_with fail
            go_ret
            exact ⟨rfl, HB9.out⟩
          · have t5 : ((odd.toNat : Int) == 42) = false := by
              rw [beq_eq_false_iff_ne]; intro e; exact hodd (UInt8.toNat.inj (by show odd.toNat = 42; omega))
            have A8 := Lib.hid (A7.out odd hodd)
            have hbo : Bts (w4.alloc (.cells #[.int .u8 (odd.toNat : Int)] 5)) (some ⟨w4.heap.size, 0, none⟩) [odd] := fun i hi => by
              obtain rfl : i = 0 := by simpa using hi
              refine ⟨_, rfl, ?_⟩
              have e : (⟨w4.heap.size, 0, none⟩ : Addr).add 0 = ⟨w4.heap.size, 0, none⟩ := by simp [Addr.add]
              rw [e, cell_of_row _ _ _ _ _ _ (heap_alloc_new w4 _)]
              rfl
            have HBO := Lib.hid hbo
            have HLN : Hid ((encs l).length + ([odd] : Bytes).length ≤ 67108864) := Lib.hid (by rw [← HNE.out]; show n0 + 1 ≤ _; omega)
            clear hodd A7 hbo
            go_wp2_with (at_builtin; refine wpList_append_bts rfl _ _ rfl w.heap.size _ (encs l) rfl (HO4.out.alloc _) (some ⟨w4.heap.size, 0, none⟩) 1 _ [odd] rfl HBO.out rfl (by intro e; cases e) HLN.out ?c2 ?_)
            case c2 => have := HB4.out.size; simp; omega
            intro v' w5 ho hg
            have hza : w.heap.size ≤ (w4.alloc (.cells #[.int .u8 (odd.toNat : Int)] 5)).heap.size := by have := HB4.out.size; simp; omega
            have HB5 := Lib.hid (BRow.grown (HO4.out.alloc (.cells #[.int .u8 (odd.toNat : Int)] 5)) hg (HB4.out.alloc HB4.out.size _) hza)
            have HL5 := Lib.hid (HA.out.keep HB5.out)
            obtain ⟨V5, c5, rfl, hbt5, hc5, hn5, -⟩ := ho.view
            have HBT5 := Lib.hid hbt5
            have HN5 := Lib.hid hn5
            have hl5 : (encs l ++ [odd]).length = n0 + 1 := by rw [List.length_append, ← HNE.out]; rfl
            rw [hl5] at hc5 ⊢
            have HL5E := Lib.hid hl5
            have e5 : IntKind.i64.wrap ((n0 : Int) + 1 - 1) = (n0 : Int) := by rw [IntKind.wrap_i64]; omega
            clear ho hg hza hbt5 hn5 hl5 HB4 HL4 HO4 HBO HLN
            go_wp2_with fail
            have hw := C.whole_ V5 c5 (encs l ++ [odd]) _ HBT5.out (by rw [HL5E.out]; exact hc5) HN5.out (by rw [HL5E.out]; omega)
            rw [HL5E.out] at hw
            refine hw.mono ?_
            clear hw
            rw [A8.out.1, A8.out.2.1, A8.out.2.2]
            rintro e w6 ⟨A6', c6, rfl, -, hr6, hb6⟩
            have HB6 := Lib.hid (HB5.out.trans (hb6.mono HB5.out.size))
            have HR6 := Lib.hid hr6
            have HL6 := Lib.hid (HL5.out.keep hb6)
            clear hb6 hr6 HB5 HL5 HBT5
            go_wp2_with fail
            refine (rows_same (n := l.length) HR6.out HL6.out rfl (by omega) HCN.out).mono ?_
            rintro e w7 ⟨rfl, hb7⟩
            have HB7 := Lib.hid (HB6.out.trans (hb7.mono HB6.out.size))
            clear hb7 HB6 HR6 HL6
            go_wp2_with fail
            refine (known_calls C _).mono ?_
            rintro e w9 ⟨rfl, hk9⟩
            have HB9 := Lib.hid (HB7.out.trans (hk9.mono HB7.out.size))
            clear hk9
            go_wp2_with fail
            go_ret
            exact ⟨rfl, HB9.out⟩
end Go.Proofs.Ytgjedhdnnfdcgaa.Rp
