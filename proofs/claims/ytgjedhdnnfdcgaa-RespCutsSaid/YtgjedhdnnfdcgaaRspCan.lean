/-
  The walk of RespCanon.
-/
import Derived.Test.YtgjedhdnnfdcgaaRspByt
namespace Go.Proofs.Ytgjedhdnnfdcgaa.Rp
open Go.RowKit

theorem longA_may {l : List Bytes} (h : May l) : longA l ≤ 50050 := by
  obtain ⟨_, h2, h3⟩ := h
  suffices ∀ (m : List Bytes), (∀ a ∈ m, a.length ≤ 1000) → longA m ≤ m.length * 1001 from by have := this l h3; omega
  intro m
  induction m with
  | nil => intro _; exact Nat.zero_le _
  | cons a m ih =>
    intro h
    have e : longA (a :: m) = 1 + a.length + longA m := by simp [longA]
    have h1 := ih (fun b hb => h b (by simp [hb]))
    have h4 := h a (by simp)
    rw [e, List.length_cons]
    omega
theorem encs_snoc (l : List (List Bytes)) (x : List Bytes) : encs (l ++ [x]) = encs l ++ enc x := by simp [encs]
theorem encs_take_le (l : List (List Bytes)) (k : Nat) : (encs (l.take k)).length ≤ (encs l).length := by
  have : encs l = encs (l.take k) ++ encs (l.drop k) := by unfold encs; rw [← List.flatMap_append, List.take_append_drop]
  rw [this, List.length_append]; omega
theorem Bts.take {w : World} {A : Option Addr} {l : Bytes} (h : Bts w A l) (n : Nat) : Bts w A (l.take n) := fun i hi => by
  rw [List.length_take] at hi
  obtain ⟨a, e, hc⟩ := h i (by omega)
  exact ⟨a, e, by rw [List.getElem_take]; exact hc⟩
theorem bytes_same {w : World} {A D : Option Addr} {c d n m : Nat} {l : Bytes} (hA : Bts w A l) (hD : Bts w D l) (hn : n = l.length) (hm : m = l.length) :
    Calls Try.prog 21 #[.slice A n c, .slice D m d] w fun e w' => e = .returned (.bool true) ∧ Below w.heap.size w w' := by
  subst hn hm
  exact bytes_true A D c d l w hA hD

set_option maxHeartbeats 4000000 in
set_option maxRecDepth 100000 in
theorem canon_law (C : RC) (A : Option Addr) (cap : Nat) (b : Bytes) (w : World) (hA : Bts w A b) (hAc : b.length ≤ cap) (hAn : A = none → cap = 0) (hb : b.length ≤ maxLen) :
    Calls Try.prog 7 #[.slice A b.length cap] w fun e w' => e = .returned (.bool true) ∧ Below w.heap.size w w' := by
  unfold maxLen at hb
  have HA := Lib.hid hA
  have HAN := Lib.hid (And.intro hAc hAn)
  clear hA hAc hAn
  by_cases h1 : b.length ≤ 1500
  · have i1 : ¬ (1500 : Int) < (b.length : Int) := by omega
    go_enter Try.func7, Try.ntmps7
    go_wp2_with fail
    refine (C.whole_ A cap b _ HA.out HAN.out.1 HAN.out.2 (by omega)).mono ?_
    rintro e w1 ⟨A1, c1, rfl, -, hr1, hb1⟩
    have HB1 := Lib.hid hb1
    have HR1 := Lib.hid hr1
    have HA1 := Lib.hid (HA.out.keep hb1)
    have hcl := cmds_len b
    have hcn := canon b
    have HU := Lib.hid hcn
    have hu2 : (encs (cmds b)).length ≤ b.length := hcn.1
    have HUE : Hid (used b = (encs (cmds b)).length) := Lib.hid rfl
    clear hb1 hr1 hcn
    obtain ⟨cs, hcs⟩ : ∃ cs, cs = cmds b := ⟨_, rfl⟩
    rw [← hcs] at HR1 hcl HU hu2 HUE ⊢
    obtain ⟨u, hu⟩ : ∃ u, u = used b := ⟨_, rfl⟩
    rw [← hu] at HU HUE ⊢
    have huu : u = (encs cs).length := HUE.out
    have huu2 : u ≤ b.length := by omega
    clear hcs hu
    have HUU := Lib.hid huu
    clear huu HUE
    go_wp2_with fail
    go_loopw [6, 7] (fun v i wr => ∃ k : Nat, k ≤ cs.length ∧ i = .int .i64 (k : Nat) ∧ Hid (BRow wr w1.heap.size v (encs (cs.take k)) ∧ Below w1.heap.size w1 wr)) (fun _ i _ => cs.length - (intOf i).toNat)
    case atStart => exact ⟨0, Nat.zero_le _, rfl, Lib.hid ⟨BRow.nil _ _, Below.refl _ _⟩⟩
    case round =>
      obtain ⟨k, hk, rfl, H⟩ := hrel
      obtain ⟨V, n0, vc, rfl, hn0⟩ := BRow.form H.out.1
      have HN0 := Lib.hid hn0
      have hn1 := encs_take_le cs k
      clear hn0
      by_cases hlt : k < cs.length
      · obtain ⟨a, rfl, X, xc, c0, hx, hx2⟩ := (HR1.out.keep H.out.2).at_ hlt
        have hmay := HU.out.2.2 _ (List.getElem_mem hlt)
        have E := Lib.hid (show encs (cs.take (k + 1)) = encs (cs.take k) ++ enc cs[k] by rw [List.take_succ_eq_append_getElem hlt, encs_snoc])
        have hel : (encs (cs.take k)).length + (enc cs[k]).length ≤ 1500 := by
          have h2 := encs_take_le cs (k + 1)
          rw [E.out, List.length_append] at h2
          omega
        have hle := longA_may hmay
        have hmb := mayB_iff.2 hmay
        generalize cs[k] = x at c0 hx hx2 hmay E hel hle hmb
        have i2 : (k : Int) < (cs.length : Int) := by omega
        have HX := Lib.hid hx
        have HX2 := Lib.hid hx2
        have HMB := Lib.hid hmb
        have HEL := Lib.hid hel
        obtain ⟨xn, hxn⟩ : ∃ xn, xn = x.length := ⟨_, rfl⟩
        rw [← hxn] at c0
        have HXN := Lib.hid hxn
        clear hx hx2 hmay hmb hel hxn
        go_wp2_with fail
        have hmc := C.may_ X xc x _ HX.out HX2.out.1 HX2.out.2 (by omega)
        rw [← HXN.out, HMB.out] at hmc
        refine hmc.mono ?_
        clear hmc
        rintro e w2 ⟨rfl, hb2⟩
        have HB2 := Lib.hid (H.out.2.trans (hb2.mono H.out.2.size))
        have HX3 := Lib.hid (HX.out.keep hb2)
        have HO2 := Lib.hid (H.out.1.below hb2)
        have c02 := keep2 hb2 c0
        clear hb2 H HX c0
        go_wp2_with fail
        have hmc := C.command_ X xc x _ HX3.out HX2.out.1 HX2.out.2 (by omega)
        rw [← HXN.out] at hmc
        refine hmc.mono ?_
        clear hmc
        rintro e w3 ⟨A4, c4, rfl, hb4, hk4⟩
        have HB3 := Lib.hid (HB2.out.trans (hk4.mono HB2.out.size))
        have HO3 := Lib.hid (HO2.out.below hk4)
        have HE3 := Lib.hid hb4
        have hA4 : A4 = none → c4 = 0 := fun e => by subst e; obtain ⟨_, e, _⟩ := hb4 0 (by simp [enc]); cases e
        have HA4 := Lib.hid hA4
        obtain ⟨en, hen⟩ : ∃ en, en = (enc x).length := ⟨_, rfl⟩
        rw [← hen]
        have HEN := Lib.hid hen
        clear hk4 hb4 hA4 hen HB2 HO2 HX3 c02
        go_wp2_with (at_builtin; refine wpList_append_bts rfl _ _ rfl w1.heap.size _ _ rfl HO3.out A4 c4 _ (enc x) rfl HE3.out HEN.out HA4.out ?c1 ?c2 ?_)
        case c1 => have := HEL.out; omega
        case c2 => exact HB3.out.size
        intro v' w4 ho hg
        have HB4 := Lib.hid (BRow.grown HO3.out hg HB3.out HB3.out.size)
        have HO4 := Lib.hid ho
        clear ho hg HB3 HO3 HE3
        go_wp2_with fail
        go_roundw
        case rel => exact ⟨k + 1, by omega, by go_num, Lib.hid ⟨by rw [E.out]; exact HO4.out, HB4.out⟩⟩
        case measure => simp [intOf]; omega
      · have hke : cs.take k = cs := List.take_of_length_le (by omega)
        have i2 : ¬ (k : Int) < (cs.length : Int) := by omega
        have HO := Lib.hid (show Bts wr V (encs cs) by
          obtain ⟨A2, c2, e, hbt, _⟩ := BRow.view H.out.1
          injection e with e1 e2 e3
          subst e1
          rw [hke] at hbt
          exact hbt)
        have hn2 : n0 = u := by rw [HN0.out, hke, HUU.out]
        subst hn2
        have HA2 := Lib.hid (show Bts wr A (encs cs) by
          rw [HU.out.2.1]
          exact (HA1.out.keep H.out.2).take _)
        have HB := Lib.hid (HB1.out.trans (H.out.2.mono HB1.out.size))
        have i3 : (n0 : Int) ≤ (b.length : Int) := by omega
        have hcp : n0 ≤ cap := by have := HAN.out.1; omega
        clear hke hlt
        go_wp2_with fail
        refine (bytes_same (l := encs cs) HO.out HA2.out HUU.out HUU.out).mono ?_
        rintro e w6 ⟨rfl, hb6⟩
        have HB6 := Lib.hid (HB.out.trans (hb6.mono HB.out.size))
        clear hb6
        go_wp2_with fail
        refine (known_calls C _).mono ?_
        rintro e w9 ⟨rfl, hk9⟩
        have HB9 := Lib.hid (HB6.out.trans (hk9.mono HB6.out.size))
        clear hk9
        go_wp2_with fail
        go_ret
        exact ⟨rfl, HB9.out⟩
  · have i1 : (1500 : Int) < (b.length : Int) := by omega
    clear h1
    go_enter Try.func7, Try.ntmps7
    go_wp2_with fail
    refine (known_calls C _).mono ?_
    rintro e w9 ⟨rfl, hk9⟩
    have HB9 := Lib.hid hk9
    clear hk9
    go_wp2_with fail
    go_ret
    exact ⟨rfl, HB9.out⟩
end Go.Proofs.Ytgjedhdnnfdcgaa.Rp
