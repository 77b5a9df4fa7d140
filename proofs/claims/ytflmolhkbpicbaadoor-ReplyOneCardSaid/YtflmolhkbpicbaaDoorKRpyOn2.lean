/-
  ReplyOne: what is decoded is Right, and its bytes are those that it was decoded of; two texts that are decoded alike are alike.
-/
import Derived.Test.YtflmolhkbpicbaaDoorKRpyBx4
import Derived.Deep.RegionHeld3
namespace Go.Proofs.YtflmolhkbpicbaaDoor.Ry
open Go.RowKit
open Gw

/-- what lies in memory behind both readings -/
structure One2 (w W : World) (x y : Rep) (g5 g8 : Nat) (A1 A2 : Option Addr) (c1 c2 : Nat) (A D : Option Addr) (l m : Bytes) : Prop where
  below : Below w.heap.size w W
  bx : Bx W g5 x A1 c1
  rx : Rd4 W x A1 c1
  by_ : Bx W g8 y A2 c2
  ry : Rd4 W y A2 c2
  la : Bts W A l
  ma : Bts W D m
section
variable {w W W' : World} {x y : Rep} {g5 g8 : Nat} {A1 A2 : Option Addr} {c1 c2 : Nat} {A D : Option Addr} {l m : Bytes}
set_option maxRecDepth 100000 in
theorem One2.keep (h : One2 w W x y g5 g8 A1 A2 c1 c2 A D l m) (hb : Below W.heap.size W W') : One2 w W' x y g5 g8 A1 A2 c1 c2 A D l m :=
  ⟨h.below.trans (hb.mono h.below.size), h.bx.keep hb, h.rx.keep hb, h.by_.keep hb, h.ry.keep hb, h.la.keep hb, h.ma.keep hb⟩
set_option maxRecDepth 100000 in
theorem One2.alloc (h : One2 w W x y g5 g8 A1 A2 c1 c2 A D l m) (o : Obj) : One2 w (W.alloc o) x y g5 g8 A1 A2 c1 c2 A D l m := h.keep ((Below.refl _ _).alloc (Nat.le_refl _) _)
set_option maxRecDepth 100000 in
theorem One2.cells (h : One2 w W x y g5 g8 A1 A2 c1 c2 A D l m) :
    W.cell? ⟨g5, 0, none⟩ = some (.int .i64 x.k) ∧ W.cell? ⟨g5, 1, none⟩ = some (.string (bat x.t)) ∧ W.cell? ⟨g5, 2, none⟩ = some (.int .i64 x.n) ∧ W.cell? ⟨g5, 3, none⟩ = some (.slice A1 x.l.length c1) ∧
    W.cell? ⟨g8, 0, none⟩ = some (.int .i64 y.k) ∧ W.cell? ⟨g8, 1, none⟩ = some (.string (bat y.t)) ∧ W.cell? ⟨g8, 2, none⟩ = some (.int .i64 y.n) ∧ W.cell? ⟨g8, 3, none⟩ = some (.slice A2 y.l.length c2) :=
  ⟨h.bx.cell 0, h.bx.cell 1, h.bx.cell 2, h.bx.cell 3, h.by_.cell 0, h.by_.cell 1, h.by_.cell 2, h.by_.cell 3⟩
end
set_option maxRecDepth 100000 in
/-- what was read has its bytes ahead -/
theorem dtwo_ok {l r : Bytes} {x z : Rep} {k q : Nat} (hd : decR l = .ok z r) (h : DTwo (decR l) l.length x k q) : x = z ∧ k = (enc x).length ∧ q = 0 ∧ l.take k = enc x ∧ k ≤ l.length ∧ 0 < k ∧ plain x = x ∧ N64 x ∧ longR x ≤ l.length := by
  rw [hd] at h
  obtain ⟨rfl, hk, hq⟩ := h
  obtain ⟨h1, h2⟩ := dec_ok hd
  have h3 := enc_long h1
  have h4 := enc_pos x
  have h5 := congrArg List.length h2
  rw [List.length_append] at h5
  have h6 : k = (enc x).length := by omega
  refine ⟨rfl, h6, hq, ?_, by omega, by omega, h1, dec_n64 hd, by omega⟩
  rw [h6, h2, List.take_left]
set_option maxRecDepth 100000 in
theorem dtwo_err {l : Bytes} {x : Rep} {k q j : Nat} (hd : decR l = .err j) (h : DTwo (decR l) l.length x k q) : x = zero ∧ k = 0 ∧ q = j ∧ (j = 8 ∨ j = 9) := by
  rw [hd] at h
  obtain ⟨h1, h2, h3⟩ := h
  exact ⟨h1, h2, h3, (dec_mono l []).2 j hd |>.1⟩
set_option maxRecDepth 100000 in
theorem bts_some {w : World} {A : Option Addr} {l : Bytes} (h : Bts w A l) (h0 : 0 < l.length) : ∃ a, A = some a := by
  obtain ⟨a, e, _⟩ := h 0 h0
  exact ⟨a, e⟩

set_option maxHeartbeats 4000000 in
set_option maxRecDepth 100000 in
theorem one_law (C : YC) (A D : Option Addr) (cap cap2 : Nat) (l m : Bytes) (w : World) (hA : Bts w A l) (hcap : l.length ≤ cap) (hnil : A = none → cap = 0) (hD : Bts w D m) (hcap2 : m.length ≤ cap2) (hnil2 : D = none → cap2 = 0) (_hl : l.length ≤ maxLen) (_hm : m.length ≤ maxLen) (hTB : Tb w) :
    Calls Tryd.prog 6 #[.slice A l.length cap, .slice D m.length cap2] w fun e w' => e = .returned (.bool true) ∧ Below w.heap.size w w' := by
  have HA := Lib.hid hA
  have HD := Lib.hid hD
  have HTB := Lib.hid hTB
  clear hA hD hTB
  have KC := known_calls C
  go_enter Tryd.func6, Tryd.ntmps6
  by_cases hg : 1000 < l.length
  · have i1 : (1000 : Int) < (l.length : Int) := by omega
    go_wp2_with fail
    refine (KC _).mono ?_
    rintro e w1 ⟨rfl, hb1⟩
    go_wp2_with fail
    go_ret
    exact ⟨rfl, hb1⟩
  have i1 : ¬ (1000 : Int) < (l.length : Int) := by omega
  by_cases hg2 : 1000 < m.length
  · have i2 : (1000 : Int) < (m.length : Int) := by omega
    go_wp2_with fail
    refine (KC _).mono ?_
    rintro e w1 ⟨rfl, hb1⟩
    go_wp2_with fail
    go_ret
    exact ⟨rfl, hb1⟩
  have i2 : ¬ (1000 : Int) < (m.length : Int) := by omega
  have PA := fun w h => C.decode_ A cap l w h hcap hnil (by omega)
  have PD := fun w h => C.decode_ D cap2 m w h hcap2 hnil2 (by omega)
  have HG : Hid (l.length ≤ 1000 ∧ m.length ≤ 1000) := Lib.hid (by omega)
  obtain ⟨N, hN⟩ : ∃ N, N = l.length := ⟨_, rfl⟩
  obtain ⟨M, hM⟩ : ∃ M, M = m.length := ⟨_, rfl⟩
  rw [← hN] at PA i1 hcap ⊢
  rw [← hM] at PD i2 hcap2 ⊢
  have HN := Lib.hid hN
  have HM := Lib.hid hM
  clear hN hM hg hg2 _hl _hm hnil hnil2
  go_wp2_with fail
  refine (PA _ HA.out HTB.out).mono ?_
  rintro e w1 ⟨hy, hb1⟩
  obtain ⟨x, A1, c1, k1, q1, rfl, hr1, ht1⟩ := hy.two
  rw [HN.out] at ht1
  have HR1 := Lib.hid hr1
  have HT1 := Lib.hid ht1
  have HB1 := Lib.hid hb1
  clear hy hr1 ht1 hb1 PA i1 i2
  unfold rv
  go_upto_region 4 with (fail)
  obtain ⟨P1, j1⟩ := made4 w1 x A1 c1
  have R1 := HR1.out.keep j1
  have B1 := HB1.out.trans (j1.mono HB1.out.size)
  generalize w1.alloc _ = W1 at P1 R1 B1 ⊢
  generalize w1.heap.size = g5 at P1 ⊢
  have hP1 := Lib.hid P1
  have hR1 := Lib.hid R1
  have hB1 := Lib.hid B1
  clear j1 P1 R1 B1 HR1 HB1
  go_wp2_with fail
  refine (PD _ (HD.out.keep hB1.out) (HTB.out.keep hB1.out)).mono ?_
  rintro e w2 ⟨hy, hb2⟩
  obtain ⟨y, A2, c2, k2, q2, rfl, hr2, ht2⟩ := hy.two
  rw [HM.out] at ht2
  have HR2 := Lib.hid hr2
  have HT2 := Lib.hid ht2
  have HB2 := Lib.hid hb2
  clear hy hr2 ht2 hb2 PD
  unfold rv
  go_upto_region 5 with (fail)
  obtain ⟨P2, j2⟩ := made4 w2 y A2 c2
  have K2 := HB2.out.trans (j2.mono HB2.out.size)
  have ONE : Hid (One2 w (w2.alloc (.cells #[.int .i64 y.k, .string (bat y.t), .int .i64 y.n, .slice A2 y.l.length c2] 25)) x y g5 w2.heap.size A1 A2 c1 c2 A D l m) :=
    Lib.hid (by
      have B2 := hB1.out.trans (K2.mono hB1.out.size)
      exact ⟨B2, hP1.out.keep K2, hR1.out.keep K2, P2, HR2.out.keep j2, HA.out.keep B2, HD.out.keep B2⟩)
  generalize w2.alloc _ = W2 at ONE ⊢
  generalize w2.heap.size = g8 at ONE ⊢
  clear j2 P2 K2 HR2 HB2 hP1 hR1 hB1 HA HD
  cases hd1 : decR l with
  | err j =>
    obtain ⟨rfl, rfl, rfl, hj⟩ := dtwo_err hd1 HT1.out
    clear hd1 HT1 HT2
    rcases hj with rfl | rfl
    all_goals
      refine wp_region_grow (by kernel_rfl) (by kernel_rfl) ?_
      repeat (go_big_quiet_step (fail))
      refine wpQuiet_nil ?_
      intro _ hw'
      obtain ⟨gq, hw''⟩ := hw'
      subst hw''
      have ON3 := Lib.hid (ONE.out.keep gq.below)
      generalize gq.w = W3 at ON3 ⊢
      clear ONE
      obtain ⟨a0, a1, a2, a3, -⟩ := ON3.out.cells
      unfold zero at a0 a1 a2 a3
      have SC := rsame_calls zero zero A1 none c1 0 W3 ON3.out.rx.txs (Rd4.zero W3).txs (Nat.zero_le _) (Nat.zero_le _)
      rw [decide_eq_true rfl] at SC
      unfold rv zero at SC
      go_wp2_with fail
      refine SC.mono ?_
      clear SC a0 a1 a2 a3
      rintro e w4 ⟨rfl, hb4⟩
      have B4 := Lib.hid (ON3.out.below.trans (hb4.mono ON3.out.below.size))
      clear hb4 ON3
      go_wp2_with fail
      refine (KC _).mono ?_
      rintro e w5 ⟨rfl, hb5⟩
      have B5 := Lib.hid (B4.out.trans (hb5.mono B4.out.size))
      clear hb5
      go_wp2_with fail
      go_ret
      exact ⟨rfl, B5.out⟩
  | ok z r =>
    obtain ⟨rfl, hk1, rfl, htk, hkl, hk0, hpx, hnx, hlx⟩ := dtwo_ok hd1 HT1.out
    have hxl : longR x ≤ 1000 := by have := HG.out; omega
    have hxm := txL_max (x := x) (by omega)
    obtain ⟨a, rfl⟩ := bts_some ONE.out.la (by omega)
    have HRC : Hid (∀ W, One2 w W x y g5 g8 A1 A2 c1 c2 (some a) D l m → Calls Tryd.prog 14 #[.agg #[.int .i64 x.k, .string (bat x.t), .int .i64 x.n, .slice A1 x.l.length c1]] W fun e w' => e = .returned (.bool true) ∧ Below W.heap.size W w') := Lib.hid fun W h => by
      have := C.right_ x A1 c1 W h.rx (by omega) hnx
      rw [decide_eq_true hpx] at this
      exact this
    have HEC : Hid (∀ W, One2 w W x y g5 g8 A1 A2 c1 c2 (some a) D l m → Calls Tryd.prog 16 #[.slice (some ⟨W.heap.size, 0, none⟩) 1 1] (W.alloc (.cells #[.int .i64 x.k, .string (bat x.t), .int .i64 x.n, .slice A1 x.l.length c1] 25)) fun e w' => (∃ V c, e = .returned (.slice V k1 c) ∧ Bts w' V (enc x)) ∧ Below W.heap.size W w') := Lib.hid fun W h => by
      obtain ⟨L9, k9⟩ := made4 W x A1 c1
      refine (encode1_calls C L9 (h.rx.keep k9) (by omega) hnx).mono ?_
      rw [← hk1]
      rintro e w' ⟨h1, h2⟩
      exact ⟨h1, k9.trans (h2.mono k9.size)⟩
    have HBS : Hid (∀ W V d, One2 w W x y g5 g8 A1 A2 c1 c2 (some a) D l m → Bts W V (enc x) → Calls Tryd.prog 15 #[.slice V k1 d, .slice (some a) k1 cap] W fun e w' => e = .returned (.bool true) ∧ Below W.heap.size W w') := Lib.hid fun W V d h h2 => by
      have h3 := h.la.take k1
      rw [htk] at h3
      have := bsame_calls V (some a) d cap (enc x) (enc x) W h2 h3
      rw [decide_eq_true rfl, ← hk1] at this
      exact this
    have HXF : Hid (k1 = (enc x).length ∧ l.take k1 = enc x ∧ plain x = x ∧ N64 x ∧ longR x ≤ 1000 ∧ x.l.length ≤ 1500) := Lib.hid ⟨hk1, htk, hpx, hnx, hxl, hxm⟩
    have i3 : (0 : Int) ≤ (k1 : Int) := by omega
    have i4 : (k1 : Int) ≤ (cap : Int) := by have := HN.out; omega
    have i5 : ¬ (N : Int) < (k1 : Int) := by have := HN.out; omega
    have i6 : decide ((N : Int) < (k1 : Int)) = false := decide_eq_false i5
    have K0 := Lib.hid (ONE.out.keep (Below.refl _ _).drew)
    clear hd1 HT1 hk1 htk hkl hk0 hpx hnx hlx hxl hxm ONE
    go_region_held3 (fun w' => w'.cell? ⟨g5, 0, none⟩ = some (.int .i64 x.k) ∧ w'.cell? ⟨g5, 1, none⟩ = some (.string (bat x.t)) ∧ w'.cell? ⟨g5, 2, none⟩ = some (.int .i64 x.n) ∧ w'.cell? ⟨g5, 3, none⟩ = some (.slice A1 x.l.length c1) ∧ w'.cell? ⟨g8, 0, none⟩ = some (.int .i64 y.k) ∧ w'.cell? ⟨g8, 1, none⟩ = some (.string (bat y.t)) ∧ w'.cell? ⟨g8, 2, none⟩ = some (.int .i64 y.n) ∧ w'.cell? ⟨g8, 3, none⟩ = some (.slice A2 y.l.length c2)) (first | exact K0.out.cells | exact K1.out.cells | exact (K1.out.alloc _).cells | exact K2.out.cells | exact K3.out.cells) (first
      | (go_at_call 14; refine (HRC.out _ K0.out).mono ?_; rintro e wa ⟨rfl, hba⟩; have K1 := Lib.hid (K0.out.keep hba); clear hba K0)
      | (go_at_call 16; refine (HEC.out _ K1.out).mono ?_; rintro e wb ⟨⟨V9, d9, rfl, hv9⟩, hbb⟩; have H8 := Lib.hid hv9; have K2 := Lib.hid (K1.out.keep hbb); clear hv9 hbb K1)
      | (go_at_call 15; refine (HBS.out _ _ _ K2.out H8.out).mono ?_; rintro e wc ⟨rfl, hbc⟩; have K3 := Lib.hid (K2.out.keep hbc); clear hbc K2 H8))
    all_goals
      clear HRC HEC HBS i3 i4 i5 i6
      cases hd2 : decR m with
      | err j2 =>
        obtain ⟨rfl, rfl, rfl, hj⟩ := dtwo_err hd2 HT2.out
        clear hd2 HT2
        rcases hj with rfl | rfl
        all_goals
          go_wp2_with fail
          refine (KC _).mono ?_
          rintro e wd ⟨rfl, hbd⟩
          have B5 := Lib.hid (K3.out.below.trans (hbd.mono K3.out.below.size))
          clear hbd K3
          go_wp2_with fail
          go_ret
          exact ⟨rfl, B5.out⟩
      | ok z2 r2 =>
        obtain ⟨rfl, hk2, rfl, htk2, hkl2, hk02, hpy, hny, hly⟩ := dtwo_ok hd2 HT2.out
        obtain ⟨hk1, htk, hpx, hnx, hxl, hxm⟩ := HXF.out
        have hyl : longR y ≤ 1000 := by have := HG.out; omega
        have hym := txL_max (x := y) (by omega)
        obtain ⟨d, rfl⟩ := bts_some K3.out.ma (by omega)
        have hiff : enc x = enc y ↔ x = y := by
          have := enc_iff (long_fit (by omega) hnx) (long_fit (by omega) hny)
          rw [hpx, hpy] at this
          exact this
        obtain ⟨b, hb⟩ : ∃ b, b = decide (x = y) := ⟨_, rfl⟩
        have hb2 : decide (enc x = enc y) = b := by rw [hb]; exact decide_eq_decide.2 hiff
        have HST : Hid (∀ W, One2 w W x y g5 g8 A1 A2 c1 c2 (some a) (some d) l m → Calls Tryd.prog 12 #[.agg #[.int .i64 x.k, .string (bat x.t), .int .i64 x.n, .slice A1 x.l.length c1], .agg #[.int .i64 y.k, .string (bat y.t), .int .i64 y.n, .slice A2 y.l.length c2]] W fun e w' => e = .returned (.bool b) ∧ Below W.heap.size W w') := Lib.hid fun W h => by
          have := rsame_calls x y A1 A2 c1 c2 W h.rx.txs h.ry.txs (by omega) (by omega)
          rw [← hb] at this
          exact this
        have HBT : Hid (∀ W, One2 w W x y g5 g8 A1 A2 c1 c2 (some a) (some d) l m → Calls Tryd.prog 15 #[.slice (some a) k1 cap, .slice (some d) k2 cap2] W fun e w' => e = .returned (.bool b) ∧ Below W.heap.size W w') := Lib.hid fun W h => by
          have h3 := h.la.take k1
          have h4 := h.ma.take k2
          rw [htk] at h3
          rw [htk2] at h4
          have := bsame_calls (some a) (some d) cap cap2 (enc x) (enc y) W h3 h4
          rw [hb2, ← hk1, ← hk2] at this
          exact this
        have tb : (b == b) = true := beq_self_eq_true b
        have i3 : (0 : Int) ≤ (k1 : Int) := by omega
        have i4 : (k1 : Int) ≤ (cap : Int) := by have := HN.out; have := congrArg List.length htk; rw [List.length_take] at this; omega
        have i5 : (0 : Int) ≤ (k2 : Int) := by omega
        have i6 : (k2 : Int) ≤ (cap2 : Int) := by have := HM.out; omega
        clear hd2 HT2 hk2 htk2 hkl2 hk02 hpy hny hly hk1 htk hpx hnx hxl hxm hyl hym hiff hb hb2 HXF HG HN HM
        go_upto_region 11 with (fail)
        have J0 := Lib.hid (K3.out.keep (Below.refl _ _).drew)
        clear K3
        go_region_held3 (fun w' => w'.cell? ⟨g5, 0, none⟩ = some (.int .i64 x.k) ∧ w'.cell? ⟨g5, 1, none⟩ = some (.string (bat x.t)) ∧ w'.cell? ⟨g5, 2, none⟩ = some (.int .i64 x.n) ∧ w'.cell? ⟨g5, 3, none⟩ = some (.slice A1 x.l.length c1) ∧ w'.cell? ⟨g8, 0, none⟩ = some (.int .i64 y.k) ∧ w'.cell? ⟨g8, 1, none⟩ = some (.string (bat y.t)) ∧ w'.cell? ⟨g8, 2, none⟩ = some (.int .i64 y.n) ∧ w'.cell? ⟨g8, 3, none⟩ = some (.slice A2 y.l.length c2)) (first | exact J0.out.cells | exact J1.out.cells | exact J2.out.cells | exact J3.out.cells) (first
          | (go_at_call 12; refine (HST.out _ J0.out).mono ?_; rintro e wx ⟨rfl, hbx⟩; have J1 := Lib.hid (J0.out.keep hbx); clear hbx J0)
          | (go_at_call 15; refine (HBT.out _ J1.out).mono ?_; rintro e wy ⟨rfl, hby⟩; have J2 := Lib.hid (J1.out.keep hby); clear hby J1)
          | (go_at_call 10; refine (KC _).mono ?_; rintro e wz ⟨rfl, hbz⟩; have J3 := Lib.hid (J2.out.keep hbz); clear hbz J2))
        all_goals
          go_wp2_with fail
          go_ret
          exact ⟨rfl, J3.out.below⟩
end Go.Proofs.YtflmolhkbpicbaaDoor.Ry
