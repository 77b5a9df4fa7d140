/-
  ReplyEncodes: any answers' bytes, what of each its kind has, and whether that is all, are what the document says.
-/
import Derived.Test.YtflmolhkbpicbaaDoorKRpyBx4
import Derived.Deep.RegionHeld3
namespace Go.Proofs.YtflmolhkbpicbaaDoor.Ry
open Go.RowKit
open Gw

set_option maxRecDepth 100000 in
/-- two boxes -/
theorem front2 (w : World) (x y : Rep) (A1 A2 : Option Addr) (c1 c2 : Nat) :
    Bx ((w.alloc (.cells #[.int .i64 x.k, .string (bat x.t), .int .i64 x.n, .slice A1 x.l.length c1] 25)).alloc (.cells #[.int .i64 y.k, .string (bat y.t), .int .i64 y.n, .slice A2 y.l.length c2] 25)) w.heap.size x A1 c1 ∧ Bx ((w.alloc (.cells #[.int .i64 x.k, .string (bat x.t), .int .i64 x.n, .slice A1 x.l.length c1] 25)).alloc (.cells #[.int .i64 y.k, .string (bat y.t), .int .i64 y.n, .slice A2 y.l.length c2] 25)) (w.heap.size + 1) y A2 c2 ∧ Below w.heap.size w ((w.alloc (.cells #[.int .i64 x.k, .string (bat x.t), .int .i64 x.n, .slice A1 x.l.length c1] 25)).alloc (.cells #[.int .i64 y.k, .string (bat y.t), .int .i64 y.n, .slice A2 y.l.length c2] 25)) :=
  ⟨(Box.new _ _ _).alloc _, Box.new1 _ _ _ _, ((Below.refl _ _).alloc (Nat.le_refl _) _).alloc (by simp) _⟩
/-- an answer of a row, and what its kind has, in a box -/
structure Rnd (W : World) (a : Addr) (j : Nat) (z p : Rep) (B B4 : Option Addr) (g8 bc bc4 : Nat) : Prop where
  c0 : W.cell? (a.add (j * 4)) = some (.int .i64 z.k)
  c1 : W.cell? ⟨(a.add (j * 4)).block, (a.add (j * 4)).off + 1, none⟩ = some (.string (bat z.t))
  c2 : W.cell? ⟨(a.add (j * 4)).block, (a.add (j * 4)).off + 2, none⟩ = some (.int .i64 z.n)
  c3 : W.cell? ⟨(a.add (j * 4)).block, (a.add (j * 4)).off + 3, none⟩ = some (.slice B z.l.length bc)
  rz : Rd4 W z B bc
  bp : Bx W g8 p B4 bc4
  rp : Rd4 W p B4 bc4
set_option maxRecDepth 100000 in
theorem Rnd.keep {W W' : World} {a : Addr} {j : Nat} {z p : Rep} {B B4 : Option Addr} {g8 bc bc4 : Nat} (h : Rnd W a j z p B B4 g8 bc bc4) (hb : Below W.heap.size W W') : Rnd W' a j z p B B4 g8 bc bc4 :=
  ⟨keep2 hb h.c0, keep2 hb h.c1, keep2 hb h.c2, keep2 hb h.c3, h.rz.keep hb, h.bp.keep hb, h.rp.keep hb⟩
set_option maxRecDepth 100000 in
theorem Rnd.cells {W : World} {a : Addr} {j : Nat} {z p : Rep} {B B4 : Option Addr} {g8 bc bc4 : Nat} (h : Rnd W a j z p B B4 g8 bc bc4) : (fun w' => w'.cell? (a.add (j * 4)) = some (.int .i64 z.k) ∧ w'.cell? ⟨(a.add (j * 4)).block, (a.add (j * 4)).off + 1, none⟩ = some (.string (bat z.t)) ∧ w'.cell? ⟨(a.add (j * 4)).block, (a.add (j * 4)).off + 2, none⟩ = some (.int .i64 z.n) ∧ w'.cell? ⟨(a.add (j * 4)).block, (a.add (j * 4)).off + 3, none⟩ = some (.slice B z.l.length bc) ∧ w'.cell? ⟨g8, 0, none⟩ = some (.int .i64 p.k) ∧ w'.cell? ⟨g8, 1, none⟩ = some (.string (bat p.t)) ∧ w'.cell? ⟨g8, 2, none⟩ = some (.int .i64 p.n) ∧ w'.cell? ⟨g8, 3, none⟩ = some (.slice B4 p.l.length bc4)) W :=
  ⟨h.c0, h.c1, h.c2, h.c3, h.bp.cell 0, h.bp.cell 1, h.bp.cell 2, h.bp.cell 3⟩
/-- the two answers of the call's arguments, in their boxes -/
structure Two (w W : World) (x y : Rep) (A1 A2 : Option Addr) (c1 c2 : Nat) : Prop where
  below : Below w.heap.size w W
  bx : Bx W w.heap.size x A1 c1
  by_ : Bx W (w.heap.size + 1) y A2 c2
set_option maxRecDepth 100000 in
theorem Two.keep {w W W' : World} {x y : Rep} {A1 A2 : Option Addr} {c1 c2 : Nat} (h : Two w W x y A1 A2 c1 c2) (hb : Below W.heap.size W W') : Two w W' x y A1 A2 c1 c2 :=
  ⟨h.below.trans (hb.mono h.below.size), h.bx.keep hb, h.by_.keep hb⟩
set_option maxRecDepth 100000 in
theorem Two.cells {w W : World} {x y : Rep} {A1 A2 : Option Addr} {c1 c2 : Nat} (h : Two w W x y A1 A2 c1 c2) : (fun w' => w'.cell? ⟨w.heap.size, 0, none⟩ = some (.int .i64 x.k) ∧ w'.cell? ⟨w.heap.size, 1, none⟩ = some (.string (bat x.t)) ∧ w'.cell? ⟨w.heap.size, 2, none⟩ = some (.int .i64 x.n) ∧ w'.cell? ⟨w.heap.size, 3, none⟩ = some (.slice A1 x.l.length c1) ∧ w'.cell? ⟨(w.heap.size + 1), 0, none⟩ = some (.int .i64 y.k) ∧ w'.cell? ⟨(w.heap.size + 1), 1, none⟩ = some (.string (bat y.t)) ∧ w'.cell? ⟨(w.heap.size + 1), 2, none⟩ = some (.int .i64 y.n) ∧ w'.cell? ⟨(w.heap.size + 1), 3, none⟩ = some (.slice A2 y.l.length c2)) W :=
  ⟨h.bx.cell 0, h.bx.cell 1, h.bx.cell 2, h.bx.cell 3, h.by_.cell 0, h.by_.cell 1, h.by_.cell 2, h.by_.cell 3⟩

set_option maxHeartbeats 4000000 in
set_option maxRecDepth 100000 in
theorem encodes_law (C : YC) (A A1 A2 : Option Addr) (cap c1 c2 : Nat) (l : List Qe) (x y : Rep) (w : World) (hA : RdQ w A cap l) (hX : Rd4 w x A1 c1) (hY : Rd4 w y A2 c2)
    (hl : longs (rs l) ≤ 4611686018427387904) (hxy : longR x + longR y ≤ 4611686018427387904) (hn : ∀ z ∈ rs l, N64 z) (hnx : N64 x) (hny : N64 y) :
    Calls Tryd.prog 3 #[.slice A l.length cap, rv x A1 c1, rv y A2 c2] w fun e w' => e = .returned (.bool true) ∧ Below w.heap.size w w' := by
  have HA := Lib.hid hA
  have HX := Lib.hid (And.intro hX hnx)
  have HY := Lib.hid (And.intro hY hny)
  have HN := Lib.hid hn
  clear hA hX hY hn hnx hny
  have KC := known_calls C
  unfold rv
  go_enter Tryd.func3, Tryd.ntmps3
  go_wp2_with fail
  obtain ⟨X0, Y0, B0⟩ := front2 w x y A1 A2 c1 c2
  generalize (w.alloc _).alloc _ = W0 at X0 Y0 B0 ⊢
  have TW := Lib.hid (show Two w W0 x y A1 A2 c1 c2 from ⟨B0, X0, Y0⟩)
  obtain ⟨a0, a1, a2, a3⟩ := Bx.four X0
  obtain ⟨b0, b1, b2, b3⟩ := Bx.four Y0
  clear X0 Y0 B0
  refine (long_calls A cap l W0 (HA.out.keep TW.out.below).reps (HA.out.keep TW.out.below).txs hl).mono ?_
  rintro e w0 ⟨rfl, hw0⟩
  subst hw0
  by_cases hg : 1500 < longs (rs l)
  · have i1 : (1500 : Int) < (longs (rs l) : Int) := by omega
    clear a0 a1 a2 a3 b0 b1 b2 b3
    go_wp2_with fail
    refine (KC _).mono ?_
    rintro e w1 ⟨rfl, hb1⟩
    have HB := Lib.hid (TW.out.below.trans (hb1.mono TW.out.below.size))
    clear hb1
    go_wp2_with fail
    go_ret
    exact ⟨rfl, HB.out⟩
  have i1 : ¬ (1500 : Int) < (longs (rs l) : Int) := by omega
  have HG : Hid (longs (rs l) ≤ 1500) := Lib.hid (by omega)
  clear hg hl
  go_wp2_with fail
  have L1 := Box.new W0 25 #[.int .i64 x.k, .string (bat x.t), .int .i64 x.n, .slice A1 x.l.length c1, .int .i64 y.k, .string (bat y.t), .int .i64 y.n, .slice A2 y.l.length c2]
  have k1 : Below W0.heap.size W0 (W0.alloc (.cells #[.int .i64 x.k, .string (bat x.t), .int .i64 x.n, .slice A1 x.l.length c1, .int .i64 y.k, .string (bat y.t), .int .i64 y.n, .slice A2 y.l.length c2] 25)) := (Below.refl _ _).alloc (Nat.le_refl _) _
  have T1 := TW.out.keep k1
  have LC := long2_calls L1 (HX.out.1.keep T1.below) (HY.out.1.keep T1.below) hxy
  obtain ⟨sm, hsm⟩ : ∃ sm, sm = longR x + longR y := ⟨_, rfl⟩
  rw [← hsm] at LC hxy
  have HSM := Lib.hid hsm
  clear L1 a0 a1 a2 a3 b0 b1 b2 b3 k1 hsm
  have TW1 := Lib.hid T1
  clear T1 TW
  refine LC.mono ?_
  clear LC
  rintro e w0 ⟨rfl, hw0⟩
  subst hw0
  generalize W0.alloc _ = W1 at TW1 ⊢
  by_cases hg : 1000 < sm
  · have i2 : (1000 : Int) < (sm : Int) := by omega
    clear hg
    go_wp2_with fail
    refine (KC _).mono ?_
    rintro e w1 ⟨rfl, hb1⟩
    have HB := Lib.hid (TW1.out.below.trans (hb1.mono TW1.out.below.size))
    clear hb1
    go_wp2_with fail
    go_ret
    exact ⟨rfl, HB.out⟩
  have i2 : ¬ (1000 : Int) < (sm : Int) := by omega
  have HG2 : Hid (longR x ≤ 1000 ∧ longR y ≤ 1000) := Lib.hid (by have := HSM.out; omega)
  clear hg hxy
  go_wp2_with fail
  clear i1 i2
  obtain ⟨N, hNN⟩ : ∃ N, N = l.length := ⟨_, rfl⟩
  rw [← hNN]
  have HNN := Lib.hid hNN
  have hN1 : N ≤ 1500 := by have := longs_len (rs l); rw [List.length_map] at this; have := HG.out; omega
  clear hNN
  go_loopw [7] (fun i wr => ∃ j : Nat, j ≤ N ∧ i = .int .i64 j ∧ Hid (Two w wr x y A1 A2 c1 c2)) (fun i _ => N - (intOf i).toNat)
  case atStart => exact ⟨0, Nat.zero_le _, rfl, TW1.out⟩
  case round =>
    clear TW1
    obtain ⟨j, hj, rfl, H⟩ := hrel
    by_cases hlt : j < N
    · have hj2 : j < l.length := by rw [← HNN.out]; exact hlt
      have HQ := HA.out.keep (Hid.out H).below
      obtain ⟨a, rfl, d0, d1, d2, d3⟩ := HQ.reps.four hj2
      have hm2 : l[j] ∈ l := List.getElem_mem hj2
      have hmr : l[j].1 ∈ rs l := List.mem_map_of_mem hm2
      have hz1 := longs_mem hmr
      have hz2 := HN.out _ hmr
      have hzr := HQ.rd hm2
      generalize l[j].1 = z at d0 d1 d2 d3 hz1 hz2 hzr
      generalize l[j].2.1 = B at d3 hzr
      generalize l[j].2.2 = bc at d3 hzr
      have hzl : longR z ≤ 1500 := by have := HG.out; omega
      have hzm := txL_max hzl
      have hzt : z.t.length ≤ 65536 := by unfold longR at hzl; omega
      have hpl := long_plain z
      have hpm : (plain z).l.length ≤ 1500 := txL_max (by omega)
      have PC := plain_exact z B bc wr hzt
      have HRZ := Lib.hid hzr
      have i1 : (j : Int) < (N : Int) := by omega
      have i0 : (0 : Int) ≤ (j : Int) := by omega
      have HC := Lib.hid (And.intro d0 (And.intro d1 (And.intro d2 d3)))
      unfold rv at PC
      clear HQ hm2 hmr hz1 hzr hzt
      go_wp2_with fail
      refine PC.mono ?_
      clear PC d0 d1 d2 d3
      rintro e w3 ⟨rfl, hb3⟩
      have hrp := HRZ.out.plain
      have hqn := n64_plain hz2
      obtain ⟨b, hb⟩ : ∃ b, b = decide (plain z = z) := ⟨_, rfl⟩
      have CP := C.plain_ z B bc
      have CR := C.right_ z B bc
      rw [← hb] at CR
      generalize plain z = p at hrp hqn hb CP hpl hpm ⊢
      generalize pA z B = B4 at hrp ⊢
      generalize pc z bc = bc4 at hrp ⊢
      unfold rv at CP CR
      go_upto_region 7 with (fail)
      obtain ⟨P4, k4⟩ := made4 w3 p B4 bc4
      have K4 := hb3.trans (k4.mono hb3.size)
      have RND : Hid (Rnd (w3.alloc (.cells #[.int .i64 p.k, .string (bat p.t), .int .i64 p.n, .slice B4 p.l.length bc4] 25)) a j z p B B4 w3.heap.size bc bc4) :=
        Lib.hid ⟨keep2 K4 HC.out.1, keep2 K4 HC.out.2.1, keep2 K4 HC.out.2.2.1, keep2 K4 HC.out.2.2.2, HRZ.out.keep K4, P4, hrp.keep K4⟩
      have TW4 := Lib.hid ((Hid.out H).keep K4)
      generalize w3.alloc _ = W4 at RND TW4 ⊢
      generalize w3.heap.size = g8 at RND ⊢
      clear P4 k4 K4 hb3 hrp HC HRZ H
      have HPC : Hid (∀ W, Rnd W a j z p B B4 g8 bc bc4 → Calls Tryd.prog 13 #[.agg #[.int .i64 z.k, .string (bat z.t), .int .i64 z.n, .slice B z.l.length bc]] W fun e w' => (∃ A' c', e = .returned (.agg #[.int .i64 p.k, .string (bat p.t), .int .i64 p.n, .slice A' p.l.length c']) ∧ Rd4 w' p A' c') ∧ Below W.heap.size W w') := Lib.hid fun W h => CP W h.rz hzl hz2
      have HSC : Hid (∀ W A' c', Rnd W a j z p B B4 g8 bc bc4 → Rd4 W p A' c' → Calls Tryd.prog 12 #[.agg #[.int .i64 p.k, .string (bat p.t), .int .i64 p.n, .slice A' p.l.length c'], .agg #[.int .i64 p.k, .string (bat p.t), .int .i64 p.n, .slice B4 p.l.length bc4]] W fun e w' => e = .returned (.bool true) ∧ Below W.heap.size W w') := Lib.hid fun W A' c' h h2 => by
        have := rsame_calls p p A' B4 c' bc4 W h2.txs h.rp.txs (by omega) (by omega)
        rw [decide_eq_true rfl] at this
        exact this
      have HRC : Hid (∀ W, Rnd W a j z p B B4 g8 bc bc4 → Calls Tryd.prog 14 #[.agg #[.int .i64 z.k, .string (bat z.t), .int .i64 z.n, .slice B z.l.length bc]] W fun e w' => e = .returned (.bool b) ∧ Below W.heap.size W w') := Lib.hid fun W h => CR W h.rz hzl hz2
      have HST : Hid (∀ W, Rnd W a j z p B B4 g8 bc bc4 → Calls Tryd.prog 12 #[.agg #[.int .i64 p.k, .string (bat p.t), .int .i64 p.n, .slice B4 p.l.length bc4], .agg #[.int .i64 z.k, .string (bat z.t), .int .i64 z.n, .slice B z.l.length bc]] W fun e w' => e = .returned (.bool b) ∧ Below W.heap.size W w') := Lib.hid fun W h => by
        have := rsame_calls p z B4 B bc4 bc W h.rp.txs h.rz.txs (by omega) (by omega)
        rw [← hb] at this
        exact this
      have tb : (b != b) = false := bne_self_eq_false b
      have K0 := Lib.hid (RND.out.keep (Below.refl _ _).drew)
      have J0 := Lib.hid (TW4.out.keep (Below.refl _ _).drew)
      clear RND TW4 CP CR hb hqn hpl hpm hz2 hzl hzm
      go_region_held3 (fun w' => w'.cell? (a.add (j * 4)) = some (.int .i64 z.k) ∧ w'.cell? ⟨(a.add (j * 4)).block, (a.add (j * 4)).off + 1, none⟩ = some (.string (bat z.t)) ∧ w'.cell? ⟨(a.add (j * 4)).block, (a.add (j * 4)).off + 2, none⟩ = some (.int .i64 z.n) ∧ w'.cell? ⟨(a.add (j * 4)).block, (a.add (j * 4)).off + 3, none⟩ = some (.slice B z.l.length bc) ∧ w'.cell? ⟨g8, 0, none⟩ = some (.int .i64 p.k) ∧ w'.cell? ⟨g8, 1, none⟩ = some (.string (bat p.t)) ∧ w'.cell? ⟨g8, 2, none⟩ = some (.int .i64 p.n) ∧ w'.cell? ⟨g8, 3, none⟩ = some (.slice B4 p.l.length bc4)) (first | exact K0.out.cells | exact K1.out.cells | exact K2.out.cells | exact K3.out.cells | exact K4.out.cells) (first
        | (go_at_call 13; refine (HPC.out _ K0.out).mono ?_; rintro e wa ⟨⟨A9, c9, rfl, hr9⟩, hba⟩; have H9 := Lib.hid hr9; have K1 := Lib.hid (K0.out.keep hba); have J1 := Lib.hid (J0.out.keep hba); clear hr9 hba K0 J0)
        | (go_at_call 12; refine (HSC.out _ _ _ K1.out H9.out).mono ?_; rintro e wb ⟨rfl, hbb⟩; have K2 := Lib.hid (K1.out.keep hbb); have J2 := Lib.hid (J1.out.keep hbb); clear hbb K1 J1 H9)
        | (go_at_call 14; refine (HRC.out _ K2.out).mono ?_; rintro e wc ⟨rfl, hbc⟩; have K3 := Lib.hid (K2.out.keep hbc); have J3 := Lib.hid (J2.out.keep hbc); clear hbc K2 J2)
        | (go_at_call 12; refine (HST.out _ K3.out).mono ?_; rintro e wd ⟨rfl, hbd⟩; have K4 := Lib.hid (K3.out.keep hbd); have J4 := Lib.hid (J3.out.keep hbd); clear hbd K3 J3))
      all_goals
        go_wp2_with fail
        go_roundw
        case rel => exact ⟨j + 1, by omega, by go_num, J4.out⟩
        case measure => simp [intOf]; omega
    · have CE := C.encode_ A cap l
      have CN := encode_calls A cap l
      rw [← HNN.out] at CE CN
      obtain ⟨n, hn⟩ : ∃ n, n = (encs (rs l)).length := ⟨_, rfl⟩
      obtain ⟨b, hb⟩ : ∃ b, b = decide (x = y) := ⟨_, rfl⟩
      have hxm : x.l.length ≤ 1500 := txL_max (by have := HG2.out; omega)
      have hym : y.l.length ≤ 1500 := txL_max (by have := HG2.out; omega)
      have HEN : Hid (∀ W, Two w W x y A1 A2 c1 c2 → Calls Tryd.prog 16 #[.slice A N cap] W fun e w' => (∃ V c, e = .returned (.slice V n c) ∧ Bts w' V (encs (rs l))) ∧ Below W.heap.size W w') := Lib.hid fun W h => by
        refine (CE W (HA.out.keep h.below) (by have := HG.out; omega) HN.out).mono ?_
        rintro e w' ⟨⟨v, rfl, hv⟩, hb⟩
        obtain ⟨V, c, rfl, hB, -⟩ := hv.view
        exact ⟨⟨V, c, by rw [hn], hB⟩, hb⟩
      have HRE : Hid (∀ W, Two w W x y A1 A2 c1 c2 → Calls Tryd.prog 17 #[.slice A N cap] W fun e w' => (∃ V c, e = .returned (.slice V n c) ∧ Bts w' V (encs (rs l))) ∧ Below W.heap.size W w') := Lib.hid fun W h => by
        rw [hn]
        exact CN W (HA.out.keep h.below).reps (HA.out.keep h.below).txs (by have := HG.out; omega) HN.out
      have HBS : Hid (∀ W V V' c c', Bts W V (encs (rs l)) → Bts W V' (encs (rs l)) → Calls Tryd.prog 15 #[.slice V n c, .slice V' n c'] W fun e w' => e = .returned (.bool true) ∧ Below W.heap.size W w') := Lib.hid fun W V V' c c' h h2 => by
        have := bsame_calls V V' c c' (encs (rs l)) (encs (rs l)) W h h2
        rw [decide_eq_true rfl, ← hn] at this
        exact this
      have HSA : Hid (∀ W, Two w W x y A1 A2 c1 c2 → Calls Tryd.prog 18 #[.agg #[.int .i64 x.k, .string (bat x.t), .int .i64 x.n, .slice A1 x.l.length c1], .agg #[.int .i64 y.k, .string (bat y.t), .int .i64 y.n, .slice A2 y.l.length c2]] W fun e w' => e = .returned (.bool b) ∧ Below W.heap.size W w') := Lib.hid fun W h => by
        have := C.same_ x y A1 A2 c1 c2 W (HX.out.1.keep h.below) (HY.out.1.keep h.below) (by have := HG2.out; omega) (by have := HG2.out; omega) HX.out.2 HY.out.2
        rw [← hb] at this
        exact this
      have HSB : Hid (∀ W, Two w W x y A1 A2 c1 c2 → Calls Tryd.prog 12 #[.agg #[.int .i64 x.k, .string (bat x.t), .int .i64 x.n, .slice A1 x.l.length c1], .agg #[.int .i64 y.k, .string (bat y.t), .int .i64 y.n, .slice A2 y.l.length c2]] W fun e w' => e = .returned (.bool b) ∧ Below W.heap.size W w') := Lib.hid fun W h => by
        have := rsame_calls x y A1 A2 c1 c2 W (HX.out.1.keep h.below).txs (HY.out.1.keep h.below).txs (by omega) (by omega)
        rw [← hb] at this
        exact this
      have HSD : Hid (∀ W, Two w W x y A1 A2 c1 c2 → Calls Tryd.prog 18 #[.agg #[.int .i64 x.k, .string (bat x.t), .int .i64 x.n, .slice A1 x.l.length c1], .agg #[.int .i64 x.k, .string (bat x.t), .int .i64 x.n, .slice A1 x.l.length c1]] W fun e w' => e = .returned (.bool true) ∧ Below W.heap.size W w') := Lib.hid fun W h => by
        have := C.same_ x x A1 A1 c1 c1 W (HX.out.1.keep h.below) (HX.out.1.keep h.below) (by have := HG2.out; omega) (by have := HG2.out; omega) HX.out.2 HX.out.2
        rw [decide_eq_true rfl] at this
        exact this
      have tb : (b == b) = true := beq_self_eq_true b
      have K0 := Lib.hid ((Hid.out H).keep (Below.refl _ _).drew)
      clear CE CN hn hb hxm hym H HG HG2 HNN hN1 HN HX HY HA
      go_upto_region 9 with (fail)
      go_region_held3 (fun w' => w'.cell? ⟨w.heap.size, 0, none⟩ = some (.int .i64 x.k) ∧ w'.cell? ⟨w.heap.size, 1, none⟩ = some (.string (bat x.t)) ∧ w'.cell? ⟨w.heap.size, 2, none⟩ = some (.int .i64 x.n) ∧ w'.cell? ⟨w.heap.size, 3, none⟩ = some (.slice A1 x.l.length c1) ∧ w'.cell? ⟨(w.heap.size + 1), 0, none⟩ = some (.int .i64 y.k) ∧ w'.cell? ⟨(w.heap.size + 1), 1, none⟩ = some (.string (bat y.t)) ∧ w'.cell? ⟨(w.heap.size + 1), 2, none⟩ = some (.int .i64 y.n) ∧ w'.cell? ⟨(w.heap.size + 1), 3, none⟩ = some (.slice A2 y.l.length c2)) (first | exact K0.out.cells | exact K1.out.cells | exact K2.out.cells | exact K3.out.cells | exact K4.out.cells | exact K5.out.cells | exact K6.out.cells | exact K7.out.cells) (first
        | (go_at_call 16; refine (HEN.out _ K0.out).mono ?_; rintro e wa ⟨⟨V8, c8, rfl, hv8⟩, hba⟩; have H8 := Lib.hid hv8; have K1 := Lib.hid (K0.out.keep hba); clear hv8 hba K0)
        | (go_at_call 17; refine (HRE.out _ K1.out).mono ?_; rintro e wb ⟨⟨V9, c9, rfl, hv9⟩, hbb⟩; have H7 := Lib.hid (H8.out.keep hbb); have H9 := Lib.hid hv9; have K2 := Lib.hid (K1.out.keep hbb); clear hv9 hbb K1 H8)
        | (go_at_call 15; refine (HBS.out _ _ _ _ _ H7.out H9.out).mono ?_; rintro e wc ⟨rfl, hbc⟩; have K3 := Lib.hid (K2.out.keep hbc); clear hbc K2 H7 H9)
        | (go_at_call 18; refine (HSA.out _ K3.out).mono ?_; rintro e wd ⟨rfl, hbd⟩; have K4 := Lib.hid (K3.out.keep hbd); clear hbd K3)
        | (go_at_call 12; refine (HSB.out _ K4.out).mono ?_; rintro e we ⟨rfl, hbe⟩; have K5 := Lib.hid (K4.out.keep hbe); clear hbe K4)
        | (go_at_call 18; refine (HSD.out _ K5.out).mono ?_; rintro e wf ⟨rfl, hbf⟩; have K6 := Lib.hid (K5.out.keep hbf); clear hbf K5)
        | (go_at_call 10; refine (KC _).mono ?_; rintro e wg ⟨rfl, hbg⟩; have K7 := Lib.hid (K6.out.keep hbg); clear hbg K6))
      all_goals
        go_wp2_with fail
        go_ret
        exact ⟨rfl, K7.out.below⟩
end Go.Proofs.YtflmolhkbpicbaaDoor.Ry
