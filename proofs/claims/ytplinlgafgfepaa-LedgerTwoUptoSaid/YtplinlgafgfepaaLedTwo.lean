/-
  The walk of LedgerTwo.
-/
import Derived.Test.YtplinlgafgfepaaLedDoc
import Derived.Deep.DeepCutAuto
namespace Go.Proofs.Ytplinlgafgfepaa.Ld
open Go.RowKit
open Pr (Box Row tc tbox tzb rstep_calls)

/-- what stands while both are written to -/
def Both (C : LC) (w wr : World) (va vb ub k : Nat) : Prop :=
  ∃ o1 o2 la lb R Q A n cap, Two C w wr o1 o2 va vb la lb (mapP pf R) Q ∧ la ≤ k ∧ lb ≤ k ∧ RepL w R ∧ Good la R ∧ Doc w wr (o1 ++ o2) ub la R A n cap

set_option maxHeartbeats 16000000 in
set_option maxRecDepth 100000 in
theorem two_law (C : LC) (A B X : Option Addr) (cap cap2 cap3 : Nat) (L M : List Dow) (till : Int) (xs : List Lim) (w : World) (hD : Dos (fun b => b < w.heap.size) w A L) (hK : Fits L) (hZ : L.length ≤ 1048576) (hE : Dos (fun b => b < w.heap.size) w B M) (hJ : Fits M) (hY : M.length ≤ 1048576)
    (ht : I64 till) (hX : Lims (fun b => b < w.heap.size) w X xs) (hXn : X = none → cap3 = 0) (hXl : xs.length ≤ 1048576) :
    Calls Try.prog 8 #[.slice A L.length cap, .slice B M.length cap2, .int .i64 till, .slice X xs.length cap3] w fun e w' => e = .returned (.bool true) ∧ Below w.heap.size w w' := by
  have HD := Lib.hid hD
  have HK := Lib.hid hK
  have HE := Lib.hid hE
  have HJ := Lib.hid hJ
  have HT := Lib.hid ht
  have HX := Lib.hid hX
  have HXN := Lib.hid hXn
  clear hD hK hE hJ ht hX hXn
  by_cases hL : 40 < L.length
  · have t1 : decide ((40 : Int) < (L.length : Int)) = true := decide_eq_true (by omega)
    go_enter Try.func8, Try.ntmps8
    go_wp2_with fail
    refine (known_calls C _).mono ?_
    rintro e w8 ⟨rfl, hb8⟩
    go_wp2_with fail
    go_ret
    exact ⟨rfl, hb8⟩
  have t1 : decide ((40 : Int) < (L.length : Int)) = false := decide_eq_false (by omega)
  by_cases hM : 40 < M.length
  · have t2 : decide ((40 : Int) < (M.length : Int)) = true := decide_eq_true (by omega)
    go_enter Try.func8, Try.ntmps8
    go_wp2_with fail
    refine (known_calls C _).mono ?_
    rintro e w8 ⟨rfl, hb8⟩
    go_wp2_with fail
    go_ret
    exact ⟨rfl, hb8⟩
  have t2 : decide ((40 : Int) < (M.length : Int)) = false := decide_eq_false (by omega)
  go_enter Try.func8, Try.ntmps8
  go_wp2_with fail
  refine (Long_calls A cap L w HD.out (by omega)).mono ?_
  rintro e w1 ⟨⟨m1, rfl⟩, hb1⟩
  have B1 := Lib.hid hb1
  clear hb1
  go_wp2_with fail
  refine (Long_calls B cap2 M w1 (HE.out.keep B1.out) (by omega)).mono ?_
  rintro e w2 ⟨⟨m2, rfl⟩, hb2⟩
  have B2 : Hid (Below w.heap.size w w2) := Lib.hid (B1.out.trans (hb2.mono B1.out.size))
  clear hb2 B1
  obtain ⟨bb, hb⟩ : ∃ b, decide (300 < wrap64 (m1 + m2)) = b := ⟨_, rfl⟩
  cases bb with
  | true =>
    go_wp2_with fail
    refine (known_calls C _).mono ?_
    rintro e w8 ⟨rfl, hb8⟩
    go_wp2_with fail
    go_ret
    exact ⟨rfl, B2.out.trans (hb8.mono B2.out.size)⟩
  | false =>
    by_cases hx : 50 < xs.length
    · have t3 : decide ((50 : Int) < (xs.length : Int)) = true := decide_eq_true (by omega)
      go_wp2_with fail
      refine (known_calls C _).mono ?_
      rintro e w8 ⟨rfl, hb8⟩
      go_wp2_with fail
      go_ret
      exact ⟨rfl, B2.out.trans (hb8.mono B2.out.size)⟩
    have t3 : decide ((50 : Int) < (xs.length : Int)) = false := decide_eq_false (by omega)
    go_wp2_with fail
    refine (C.new_ _).mono ?_
    rintro e w3 ⟨va, o1, rfl, a1, b1, l1⟩
    have A1 := Lib.hid (And.intro a1 (And.intro b1 l1))
    clear a1 b1 l1
    go_wp2_with fail
    refine (C.new_ _).mono ?_
    rintro e w4 ⟨vb, o2, rfl, a2, b2, l2⟩
    have T0 : Hid (Both C w (w4.alloc tzb) va vb w4.heap.size 0) := Lib.hid (by
      obtain ⟨a1, b1, l1⟩ := A1.out
      have h0 : Below w.heap.size w w3 := B2.out.trans (b1.mono B2.out.size)
      have hd : ∀ x ∈ o1, x ∉ o2 := fun x hx hc => by have := (C.good a1).2.1 x hx; have := l2 x hc; omega
      have ht : Two C w w4 o1 o2 va vb 0 0 (mapP pf []) [] := ⟨h0.trans (b2.mono h0.size), C.below a1 b2, a2, fun x hx => Nat.le_trans B2.out.size (l1 x hx), fun x hx => Nat.le_trans h0.size (l2 x hx), fun x hx hc => absurd hc (hd x hx)⟩
      have hf : Free (o1 ++ o2) (w4.alloc tzb) w4.heap.size := ⟨by simp, fun hc => Nat.lt_irrefl _ (Two.inv.lt ht _ hc)⟩
      exact ⟨o1, o2, 0, 0, [], [], none, 0, 0, ht.below ((Below.refl _ _).alloc (Nat.le_refl _) _), Nat.le_refl _, Nat.le_refl _, RepL.nil _, Good.nil _, ⟨Box.new _ _ _, ⟨rfl, .nil _ _, fun _ => rfl, fun a ha => by cases ha⟩, hf, ht.1.size, fun a ha => by cases ha⟩⟩)
    clear A1 B2 a2 b2 l2
    go_wp2_with fail
    generalize w4.heap.size = ub at T0 ⊢
    generalize w4.alloc _ = w5 at T0 ⊢
    go_loopw [12] (fun i wr => ∃ k : Nat, k ≤ 40 ∧ i = .int .i64 (k : Nat) ∧ Hid (Both C w wr va vb ub k)) (fun i _ => 41 - (intOf i).toNat)
    case atStart => exact ⟨0, by omega, rfl, T0.out⟩
    case round =>
      clear T0
      obtain ⟨k, hk, rfl, H⟩ := hrel
      obtain ⟨o1, o2, la, lb, R, Q, A1, n1, cap1, hT, hla, hlb, hR, hG, hDc⟩ := Hid.out H
      have T5 := Lib.hid hT
      have R5 := Lib.hid hR
      have G5 := Lib.hid hG
      have D5 := Lib.hid hDc
      clear H hT hR hG hDc
      by_cases hm : k < M.length
      · obtain ⟨a, rb, c0, c1, X1, capX, hXn, c2, hX⟩ := (HE.out.keep T5.out.1).at_ hm
        have hfit := HJ.out M[k] (List.getElem_mem hm)
        subst rb
        generalize M[k] = d at c0 c1 c2 hX hfit
        obtain ⟨kd, nn, ls⟩ := d
        simp only at c0 c1 c2 hX hfit
        have HX1 := Lib.hid hX
        have HXN1 := Lib.hid hXn
        have HFIT := Lib.hid hfit
        clear hX hXn hfit
        have i1 : (k : Int) < (M.length : Int) := by omega
        by_cases hl : k < L.length
        · have i2 : (k : Int) < (L.length : Int) := by omega
          go_wp2_with fail
          refine (T5.out.rot.did (by omega) HFIT.out.1 HX1.out HXN1.out HFIT.out.2).mono ?_
          rintro e w6 ⟨o6, A6, cap6, rfl, hT6, hS6, hz6⟩
          have hlb2 := stN_le Q lb kd
          generalize stN Q lb kd = lb2 at hT6 hlb2
          generalize stL Q lb kd nn ls = Q2 at hT6
          have T6 := Lib.hid hT6.rot
          have D6 := Lib.hid (D5.out.rot.goes hS6 hz6).rot
          clear hT6 hS6 hz6 c0 c1 c2 T5 D5 HX1 HXN1 HFIT
          obtain ⟨a, ra, c0, c1, X1, capX, hXn, c2, hX⟩ := HD.out.at_ hl
          have hfit := HK.out L[k] (List.getElem_mem hl)
          subst ra
          generalize L[k] = d at c0 c1 c2 hX hfit
          obtain ⟨kd, nn, ls⟩ := d
          simp only at c0 c1 c2 hX hfit
          have C0 := Lib.hid c0
          have C1 := Lib.hid c1
          have C2 := Lib.hid c2
          have HX1 := Lib.hid hX
          have HXN1 := Lib.hid hXn
          have HFIT := Lib.hid hfit
          clear c0 c1 c2 hX hXn hfit
          have e0 := keep2 T6.out.1 C0.out
          have e1 := keep2 T6.out.1 C1.out
          have e2 := keep2 T6.out.1 C2.out
          go_wp2_with fail
          refine (T6.out.did (by omega) HFIT.out.1 (HX1.out.keep T6.out.1) HXN1.out HFIT.out.2).mono ?_
          rintro e w7 ⟨o7, A7, cap7, rfl, hT7, hS7, hz7⟩
          rw [stL_map (x := (ls, X1, ls.length, capX)) (f := pf), stN_map] at hT7
          have T7 := Lib.hid hT7
          have D7 := Lib.hid (D6.out.goes hS7 hz7)
          have R7 := Lib.hid (R5.out.step (k := kd) (n := nn) (cap := capX) (last := la) HX1.out HFIT.out.2)
          have G7 := Lib.hid (st_good G5.out kd nn (ls, X1, ls.length, capX))
          have hlk := stN_le R la kd
          have HST : Hid (∀ W, Row W A1 n1 cap1 (mapP ps R) → Calls Try.prog 13 #[Pr.tv A1 n1 cap1 la, Pr.dv2 kd nn (X1, ls.length, capX)] W fun e w' => ∃ A' n' cap' A2 n2 cap2, e = .returned (.tuple #[Pr.tv A' n' cap' (stN R la kd), .int .i64 (stI R la kd nn), .slice A2 n2 cap2]) ∧ Row w' A' n' cap' (mapP ps (stL R la kd nn (ls, X1, ls.length, capX))) ∧ Pr.Src W.heap.size A1 A' ∧ Row w' A2 n2 cap2 (mapP ps (stR R kd nn)) ∧ Below W.heap.size W w') := Lib.hid (fun W hr => by
            have h := rstep_calls (mapP ps R) A1 n1 cap1 la kd nn (X1, ls.length, capX) W hr G5.out.mapP (by omega)
            rw [stN_map, stI_map, stR_map, show (X1, ls.length, capX) = ps (ls, X1, ls.length, capX) from rfl, stL_map] at h
            exact h)
          have u0 := D7.out.c0
          have u1 := D7.out.c1
          clear e0 e1 e2 hT7 hS7 hz7 T6 D6 R5 G5
          have e0 := keep2 T7.out.1 C0.out
          have e1 := keep2 T7.out.1 C1.out
          have e2 := keep2 T7.out.1 C2.out
          have i1 : (k : Int) < (L.length : Int) := by omega
          have i0 : ¬ (k : Int) < 0 := by omega
          generalize stL R la kd nn (ls, X1, ls.length, capX) = R2 at T7 R7 G7 HST
          generalize stN R la kd = la2 at T7 G7 HST hlk
          generalize stI R la kd nn = x2 at HST
          generalize stR R kd nn = rr2 at HST
          go_upto_region 13 with (fail)
          go_cut [13, 14, 15] (fun s13 s14 s15 wx => ∃ vb2 A2 n2 cap2 A3 n3 cap3, s13 = .pointer (some ⟨vb2, 0, none⟩) ∧ s14 = .int .i64 x2 ∧ s15 = .slice A3 n3 cap3 ∧ Hid (Nxt w wx (o7 ++ o6) (fun W => Two C w W o7 o6 va vb la2 lb2 (mapP pf R2) Q2) ub vb2 la la2 R R2 A1 A2 n1 cap1 n2 cap2))
          case first =>
            have hubl := D7.out.box.lt
            have zb : (a.add (k * 3)).block < w7.heap.size := World.block_lt_of_cell? w7 _ e0
            go_region_with (go_at_call 13; first | (refine (HST.out _ (D7.out.below (Below.refl _ _).drew).row).mono ?_; rintro e w9 ⟨A5, n5, cap5, A6, n6, cap6, rfl, hp5, hs5, -, hb5⟩; have HN5 := Lib.hid (Nxt.made2 (last2 := la2) Two.inv T7.out D7.out hb5 hp5 hs5); clear hp5 hb5 hs5) | (refine (HST.out _ (D7.out.below ((Below.refl _ _).alloc (Nat.le_refl _) _).drew).row).mono ?_; rintro e w9 ⟨A5, n5, cap5, A6, n6, cap6, rfl, hp5, hs5, -, hb5⟩; have BV5 : Box w9 w7.heap.size 29 #[.slice none 0 0, .int .i64 0] := (Box.drew (Box.new w7 _ _)).keep hb5; have v50 : w9.cell? ⟨w7.heap.size, 0, none⟩ = some (.slice none 0 0) := BV5.cell 0; have v51 : w9.cell? ⟨w7.heap.size, 1, none⟩ = some (.int .i64 0) := BV5.cell 1; have vf0 := BV5.free 0; have vf1 := BV5.free 1; have HN5 := Lib.hid (Nxt.made (last2 := la2) Two.inv T7.out D7.out hb5 hp5 hs5); clear hp5 hb5 hs5 BV5))
            all_goals
              go_wp2_with fail
              go_meet
              case rel => exact ⟨_, _, _, _, _, _, _, rfl, rfl, rfl, HN5.out⟩
          case rest =>
            obtain ⟨vb2, A2, n2, cap2, A3, n3, cap3, rfl, rfl, rfl, HC⟩ := hcut
            have NX := Lib.hid (show Nxt w wc (o7 ++ o6) (fun W => Two C w W o7 o6 va vb la2 lb2 (mapP pf R2) Q2) ub vb2 la la2 R R2 A1 A2 n1 cap1 n2 cap2 from HC)
            have v0 : wc.cell? ⟨vb2, 0, none⟩ = some (.slice A2 n2 cap2) := NX.out.box.cell 0
            have v1 : wc.cell? ⟨vb2, 1, none⟩ = some (.int .i64 (la2 : Nat)) := NX.out.box.cell 1
            have w0' := NX.out.doc.c0
            have w1' := NX.out.doc.c1
            have uf0 := NX.out.doc.box.free 0
            have uf1 := NX.out.doc.box.free 1
            have HO := Lib.hid (NX.out.over Two.inv)
            clear T7 D7 e0 e1 e2 u0 u1 HC HST
            go_wp2_with fail
            go_roundw
            case rel => exact ⟨k + 1, by omega, by go_num, o7, o6, la2, lb2, R2, Q2, A2, n2, cap2, HO.out.1, by omega, by omega, R7.out, G7.out, HO.out.2⟩
            case measure => simp [intOf]; omega
        · have i2 : decide ((k : Int) < (L.length : Int)) = false := decide_eq_false (by omega)
          go_wp2_with fail
          refine (T5.out.rot.did (by omega) HFIT.out.1 HX1.out HXN1.out HFIT.out.2).mono ?_
          rintro e w6 ⟨o6, A6, cap6, rfl, hT6, hS6, hz6⟩
          have hlb2 := stN_le Q lb kd
          generalize stN Q lb kd = lb2 at hT6 hlb2
          generalize stL Q lb kd nn ls = Q2 at hT6
          have T6 := Lib.hid hT6.rot
          have D6 := Lib.hid (D5.out.rot.goes hS6 hz6).rot
          clear hT6 hS6 hz6 c0 c1 c2 T5 D5 HX1 HXN1 HFIT
          go_wp2_with fail
          go_roundw
          case rel => exact ⟨k + 1, by omega, by go_num, o1, o6, la, lb2, R, Q2, A1, n1, cap1, T6.out, by omega, by omega, R5.out, G5.out, D6.out⟩
          case measure => simp [intOf]; omega
      · have i1 : decide ((k : Int) < (M.length : Int)) = false := decide_eq_false (by omega)
        by_cases hl : k < L.length
        · have i2 : (k : Int) < (L.length : Int) := by omega
          have T6 := T5
          have D6 := D5
          clear T5 D5
          obtain ⟨a, ra, c0, c1, X1, capX, hXn, c2, hX⟩ := HD.out.at_ hl
          have hfit := HK.out L[k] (List.getElem_mem hl)
          subst ra
          generalize L[k] = d at c0 c1 c2 hX hfit
          obtain ⟨kd, nn, ls⟩ := d
          simp only at c0 c1 c2 hX hfit
          have C0 := Lib.hid c0
          have C1 := Lib.hid c1
          have C2 := Lib.hid c2
          have HX1 := Lib.hid hX
          have HXN1 := Lib.hid hXn
          have HFIT := Lib.hid hfit
          clear c0 c1 c2 hX hXn hfit
          have e0 := keep2 T6.out.1 C0.out
          have e1 := keep2 T6.out.1 C1.out
          have e2 := keep2 T6.out.1 C2.out
          go_wp2_with fail
          refine (T6.out.did (by omega) HFIT.out.1 (HX1.out.keep T6.out.1) HXN1.out HFIT.out.2).mono ?_
          rintro e w7 ⟨o7, A7, cap7, rfl, hT7, hS7, hz7⟩
          rw [stL_map (x := (ls, X1, ls.length, capX)) (f := pf), stN_map] at hT7
          have T7 := Lib.hid hT7
          have D7 := Lib.hid (D6.out.goes hS7 hz7)
          have R7 := Lib.hid (R5.out.step (k := kd) (n := nn) (cap := capX) (last := la) HX1.out HFIT.out.2)
          have G7 := Lib.hid (st_good G5.out kd nn (ls, X1, ls.length, capX))
          have hlk := stN_le R la kd
          have HST : Hid (∀ W, Row W A1 n1 cap1 (mapP ps R) → Calls Try.prog 13 #[Pr.tv A1 n1 cap1 la, Pr.dv2 kd nn (X1, ls.length, capX)] W fun e w' => ∃ A' n' cap' A2 n2 cap2, e = .returned (.tuple #[Pr.tv A' n' cap' (stN R la kd), .int .i64 (stI R la kd nn), .slice A2 n2 cap2]) ∧ Row w' A' n' cap' (mapP ps (stL R la kd nn (ls, X1, ls.length, capX))) ∧ Pr.Src W.heap.size A1 A' ∧ Row w' A2 n2 cap2 (mapP ps (stR R kd nn)) ∧ Below W.heap.size W w') := Lib.hid (fun W hr => by
            have h := rstep_calls (mapP ps R) A1 n1 cap1 la kd nn (X1, ls.length, capX) W hr G5.out.mapP (by omega)
            rw [stN_map, stI_map, stR_map, show (X1, ls.length, capX) = ps (ls, X1, ls.length, capX) from rfl, stL_map] at h
            exact h)
          have u0 := D7.out.c0
          have u1 := D7.out.c1
          clear e0 e1 e2 hT7 hS7 hz7 T6 D6 R5 G5
          have e0 := keep2 T7.out.1 C0.out
          have e1 := keep2 T7.out.1 C1.out
          have e2 := keep2 T7.out.1 C2.out
          have i1 : (k : Int) < (L.length : Int) := by omega
          have i0 : ¬ (k : Int) < 0 := by omega
          generalize stL R la kd nn (ls, X1, ls.length, capX) = R2 at T7 R7 G7 HST
          generalize stN R la kd = la2 at T7 G7 HST hlk
          generalize stI R la kd nn = x2 at HST
          generalize stR R kd nn = rr2 at HST
          go_upto_region 13 with (fail)
          go_cut [13, 14, 15] (fun s13 s14 s15 wx => ∃ vb2 A2 n2 cap2 A3 n3 cap3, s13 = .pointer (some ⟨vb2, 0, none⟩) ∧ s14 = .int .i64 x2 ∧ s15 = .slice A3 n3 cap3 ∧ Hid (Nxt w wx (o7 ++ o2) (fun W => Two C w W o7 o2 va vb la2 lb (mapP pf R2) Q) ub vb2 la la2 R R2 A1 A2 n1 cap1 n2 cap2))
          case first =>
            have hubl := D7.out.box.lt
            have zb : (a.add (k * 3)).block < w7.heap.size := World.block_lt_of_cell? w7 _ e0
            go_region_with (go_at_call 13; first | (refine (HST.out _ (D7.out.below (Below.refl _ _).drew).row).mono ?_; rintro e w9 ⟨A5, n5, cap5, A6, n6, cap6, rfl, hp5, hs5, -, hb5⟩; have HN5 := Lib.hid (Nxt.made2 (last2 := la2) Two.inv T7.out D7.out hb5 hp5 hs5); clear hp5 hb5 hs5) | (refine (HST.out _ (D7.out.below ((Below.refl _ _).alloc (Nat.le_refl _) _).drew).row).mono ?_; rintro e w9 ⟨A5, n5, cap5, A6, n6, cap6, rfl, hp5, hs5, -, hb5⟩; have BV5 : Box w9 w7.heap.size 29 #[.slice none 0 0, .int .i64 0] := (Box.drew (Box.new w7 _ _)).keep hb5; have v50 : w9.cell? ⟨w7.heap.size, 0, none⟩ = some (.slice none 0 0) := BV5.cell 0; have v51 : w9.cell? ⟨w7.heap.size, 1, none⟩ = some (.int .i64 0) := BV5.cell 1; have vf0 := BV5.free 0; have vf1 := BV5.free 1; have HN5 := Lib.hid (Nxt.made (last2 := la2) Two.inv T7.out D7.out hb5 hp5 hs5); clear hp5 hb5 hs5 BV5))
            all_goals
              go_wp2_with fail
              go_meet
              case rel => exact ⟨_, _, _, _, _, _, _, rfl, rfl, rfl, HN5.out⟩
          case rest =>
            obtain ⟨vb2, A2, n2, cap2, A3, n3, cap3, rfl, rfl, rfl, HC⟩ := hcut
            have NX := Lib.hid (show Nxt w wc (o7 ++ o2) (fun W => Two C w W o7 o2 va vb la2 lb (mapP pf R2) Q) ub vb2 la la2 R R2 A1 A2 n1 cap1 n2 cap2 from HC)
            have v0 : wc.cell? ⟨vb2, 0, none⟩ = some (.slice A2 n2 cap2) := NX.out.box.cell 0
            have v1 : wc.cell? ⟨vb2, 1, none⟩ = some (.int .i64 (la2 : Nat)) := NX.out.box.cell 1
            have w0' := NX.out.doc.c0
            have w1' := NX.out.doc.c1
            have uf0 := NX.out.doc.box.free 0
            have uf1 := NX.out.doc.box.free 1
            have HO := Lib.hid (NX.out.over Two.inv)
            clear T7 D7 e0 e1 e2 u0 u1 HC HST
            go_wp2_with fail
            go_roundw
            case rel => exact ⟨k + 1, by omega, by go_num, o7, o2, la2, lb, R2, Q, A2, n2, cap2, HO.out.1, by omega, by omega, R7.out, G7.out, HO.out.2⟩
            case measure => simp [intOf]; omega
        · have i2 : decide ((k : Int) < (L.length : Int)) = false := decide_eq_false (by omega)
          have hk40 := hk
          have hlen : (mapP pf R).length ≤ la := T5.out.fst.good.len_le
          have HAS := Lib.hid (fits_map R5.out)
          obtain ⟨hDu, hn1⟩ := R5.out.dues T5.out.1 D5.out.row
          have HDU := Lib.hid hDu
          have HN1 := Lib.hid hn1
          clear hDu hn1
          have u0 := D5.out.c0
          have hpl : (mapP pf R).length ≤ 1048576 := by omega
          go_upto_region 15 with (fail)
          go_cut [93] (fun s93 wx => s93 = .bool false ∧ Hid (Two C w wx o1 o2 va vb la lb (mapP pf R) Q))
          case first =>
            go_region_with (first | (go_at_call 21; refine (C.all_ (T5.out.below (Below.refl _ _).drew).2.1).mono ?_; rintro e w6 ⟨A6, cap6, rfl, hr6, hb6⟩; have T6 := Lib.hid ((T5.out.below (Below.refl _ _).drew).below hb6); have R6 := Lib.hid hr6; have S6 := Lib.hid ((HDU.out.keep (Below.refl _ _).drew).keep hb6); have u6 := ((D5.out.below (Below.refl _ _).drew).below hb6).c0; clear hr6 hb6) | (go_at_call 18; rw [HN1.out]; refine (same_calls A6 A1 cap6 cap1 (mapP pf R) _ R6.out S6.out hpl HAS.out).mono ?_; rintro e w7 ⟨rfl, hb7⟩; have T7 := Lib.hid (T6.out.below hb7); clear hb7))
            all_goals
              go_wp2_with fail
              go_meet
              case rel => exact ⟨rfl, T7.out⟩
          case rest =>
            obtain ⟨rfl, HC⟩ := hcut
            have T8 := Lib.hid (show Two C w wc o1 o2 va vb la lb (mapP pf R) Q from HC)
            clear HC T5 D5 R5 HDU HAS u0 HN1
            generalize mapP pf R = P at T8 hlen hpl
            have hgP := T8.out.fst.good
            have eI : addI P la = ((la + 1 : Nat) : Int) := by unfold addI; rw [if_neg (by omega)]
            have eE : addE P = 0 := by unfold addE; rw [if_neg (by omega)]
            have eN : addN P la = la + 1 := by unfold addN; rw [if_neg (by omega)]
            have hgo : getO (add P la till xs) ((la + 1 : Nat) : Int) = some (la + 1, clip till, xs) := by
              have h1 := hgP.add till xs
              have h2 : (la + 1, clip till, xs) ∈ add P la till xs := by unfold add; rw [if_neg (by omega)]; simp
              exact getO_some h1 h2
            have HGO := Lib.hid hgo
            clear hgo hgP
            go_wp2_with fail
            refine (C.add_ T8.out.2.1 till X cap3 xs (by omega) HT.out ((HX.out.keep T8.out.1).mono fun b hb => (T8.out.fst.begun b hb).2) HXN.out hXl).mono ?_
            rw [eI, eE, eN]
            rintro e w9 ⟨o9, rfl, a9, k9⟩
            have T9 := Lib.hid (T8.out.turn a9 k9)
            clear a9 k9 T8
            go_wp2_with fail
            refine (C.get_ T9.out.2.1 ((la + 1 : Nat) : Int) (by omega)).mono ?_
            rw [HGO.out, show od (some (la + 1, clip till, xs)) = (la + 1, clip till, xs) from rfl]
            simp only [Option.isSome_some]
            rintro e w10 ⟨A10, cap10, rfl, hl10, -, hb10⟩
            have hba : Below w10.heap.size w10 (w10.alloc (.cells #[.int .i64 ((la + 1 : Nat) : Int), .int .i64 (clip till : Nat), .slice A10 xs.length cap10] 38)) := (Below.refl _ _).alloc (Nat.le_refl _) _
            have T10 := Lib.hid ((T9.out.below hb10).below hba)
            have L10 : Hid (Lims (Out [] o9 w9 w10) (w10.alloc (.cells #[.int .i64 ((la + 1 : Nat) : Int), .int .i64 (clip till : Nat), .slice A10 xs.length cap10] 38)) A10 xs) := Lib.hid (hl10.keep hba)
            have X10 := Lib.hid (HX.out.keep T10.out.1)
            clear hl10 hb10 hba T9
            have tid : (((la + 1 : Nat) : Int) == ((la + 1 : Nat) : Int)) = true := beq_self_eq_true _
            by_cases h1 : till < 0
            · have hc : ((clip till : Nat) : Int) = 0 := by unfold clip; rw [if_pos h1]; rfl
              have h2 : till < 9007199254740992 := by omega
              have h3 : ¬ (0 : Int) < till := by omega
              have tq : (((clip till : Nat) : Int) == 0) = true := by rw [hc]; rfl
              clear hc
              go_wp2_with fail
              refine (lims_calls A10 X cap10 cap3 xs _ L10.out X10.out hXl).mono ?_
              rintro e w11 ⟨rfl, hb11⟩
              have T11 := Lib.hid (T10.out.below hb11)
              clear hb11 T10
              go_wp2_with fail
              refine (known_calls C _).mono ?_
              rintro e w8 ⟨rfl, hb8⟩
              have T12 := Lib.hid (T11.out.below hb8)
              clear hb8
              go_wp2_with fail
              go_ret
              exact ⟨rfl, T12.out.1⟩
            · by_cases h2 : till < 9007199254740992
              · have hc : ((clip till : Nat) : Int) = till := clip_mid (by omega) (by omega)
                have tq : (((clip till : Nat) : Int) == till) = true := by rw [hc]; exact beq_self_eq_true _
                by_cases h3 : (0 : Int) < till
                · skip
                  clear hc
                  go_wp2_with fail
                  refine (lims_calls A10 X cap10 cap3 xs _ L10.out X10.out hXl).mono ?_
                  rintro e w11 ⟨rfl, hb11⟩
                  have T11 := Lib.hid (T10.out.below hb11)
                  clear hb11 T10
                  go_wp2_with fail
                  refine (known_calls C _).mono ?_
                  rintro e w8 ⟨rfl, hb8⟩
                  have T12 := Lib.hid (T11.out.below hb8)
                  clear hb8
                  go_wp2_with fail
                  go_ret
                  exact ⟨rfl, T12.out.1⟩
                · obtain rfl : till = 0 := by omega
                  have tq2 : (((clip 0 : Nat) : Int) == 0) = true := by rw [hc]; rfl
                  clear hc
                  go_wp2_with fail
                  refine (lims_calls A10 X cap10 cap3 xs _ L10.out X10.out hXl).mono ?_
                  rintro e w11 ⟨rfl, hb11⟩
                  have T11 := Lib.hid (T10.out.below hb11)
                  clear hb11 T10
                  go_wp2_with fail
                  refine (known_calls C _).mono ?_
                  rintro e w8 ⟨rfl, hb8⟩
                  have T12 := Lib.hid (T11.out.below hb8)
                  clear hb8
                  go_wp2_with fail
                  go_ret
                  exact ⟨rfl, T12.out.1⟩
              · have hc : ((clip till : Nat) : Int) = 9007199254740992 := by unfold clip; rw [if_neg h1]; split <;> omega
                have h3 : ¬ till < 9007199254740992 := h2
                have hcN : clip till = 9007199254740992 := by omega
                have e9 : ((9007199254740992 : Nat) : Int) = 9007199254740992 := rfl
                rw [hcN] at T10 L10 X10 ⊢
                rw [e9] at T10 L10 X10
                clear hcN e9
                by_cases h4 : (9007199254740992 : Int) < till
                · skip
                  clear hc
                  go_wp2_with fail
                  refine (lims_calls A10 X cap10 cap3 xs _ L10.out X10.out hXl).mono ?_
                  rintro e w11 ⟨rfl, hb11⟩
                  have T11 := Lib.hid (T10.out.below hb11)
                  clear hb11 T10
                  go_wp2_with fail
                  refine (known_calls C _).mono ?_
                  rintro e w8 ⟨rfl, hb8⟩
                  have T12 := Lib.hid (T11.out.below hb8)
                  clear hb8
                  go_wp2_with fail
                  go_ret
                  exact ⟨rfl, T12.out.1⟩
                · obtain rfl : till = 9007199254740992 := by omega
                  clear hc
                  go_wp2_with fail
                  refine (lims_calls A10 X cap10 cap3 xs _ L10.out X10.out hXl).mono ?_
                  rintro e w11 ⟨rfl, hb11⟩
                  have T11 := Lib.hid (T10.out.below hb11)
                  clear hb11 T10
                  go_wp2_with fail
                  refine (known_calls C _).mono ?_
                  rintro e w8 ⟨rfl, hb8⟩
                  have T12 := Lib.hid (T11.out.below hb8)
                  clear hb8
                  go_wp2_with fail
                  go_ret
                  exact ⟨rfl, T12.out.1⟩
end Go.Proofs.Ytplinlgafgfepaa.Ld
