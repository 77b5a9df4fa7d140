/-
  What the document's own Step (of a ledger) answers, in any world.
-/
import Derived.Test.YtplinlgafgfepaaLedRfE
namespace Go.Proofs.Ytplinlgafgfepaa.Ld
open Go.RowKit
namespace Pr

/-- a ledger's box, written -/
theorem fin2 {w W : World} {B g : Nat} {x y : Value} (hb : Below B w W) (hg : B ≤ g) (br : Box W g 29 #[x, y]) (a c : Value) :
    Box ((W.setCell ⟨g, 0, none⟩ a).setCell ⟨g, 1, none⟩ c) g 29 #[a, c] ∧ (∀ A n cap l, Row W A n cap l → Row ((W.setCell ⟨g, 0, none⟩ a).setCell ⟨g, 1, none⟩ c) A n cap l) ∧ Below B w ((W.setCell ⟨g, 0, none⟩ a).setCell ⟨g, 1, none⟩ c) :=
  ⟨br.set2 _ _, fun _ _ _ _ h => (h.setBox br (by decide) 0 _).setBox (heap_setCell_same _ _ 0 _ _ a br) (by decide) 1 _, below_set2 hb hg _ _⟩
/-- and something made behind that -/
theorem fin2a {w W : World} {B g : Nat} {x y : Value} (hb : Below B w W) (hg : B ≤ g) (br : Box W g 29 #[x, y]) (a c : Value) (o : Obj) :
    Box (((W.setCell ⟨g, 0, none⟩ a).setCell ⟨g, 1, none⟩ c).alloc o) g 29 #[a, c] ∧ (∀ A n cap l, Row W A n cap l → Row (((W.setCell ⟨g, 0, none⟩ a).setCell ⟨g, 1, none⟩ c).alloc o) A n cap l) ∧ Below B w (((W.setCell ⟨g, 0, none⟩ a).setCell ⟨g, 1, none⟩ c).alloc o) := by
  obtain ⟨h1, h2, h3⟩ := fin2 hb hg br a c
  have := br.lt
  exact ⟨h1.alloc o, fun A n cap l h => (h2 A n cap l h).keep ((Below.refl _ _).alloc (Nat.le_refl _) _), h3.alloc (by simp; omega) o⟩
theorem fin2b {w W : World} {B g : Nat} {x y : Value} (hb : Below B w W) (hg : B ≤ g) (br : Box W g 29 #[x, y]) (a c : Value) (o o2 : Obj) :
    Box ((((W.setCell ⟨g, 0, none⟩ a).setCell ⟨g, 1, none⟩ c).alloc o).alloc o2) g 29 #[a, c] ∧ (∀ A n cap l, Row W A n cap l → Row ((((W.setCell ⟨g, 0, none⟩ a).setCell ⟨g, 1, none⟩ c).alloc o).alloc o2) A n cap l) ∧ Below B w ((((W.setCell ⟨g, 0, none⟩ a).setCell ⟨g, 1, none⟩ c).alloc o).alloc o2) := by
  obtain ⟨h1, h2, h3⟩ := fin2a hb hg br a c o
  have := br.lt
  exact ⟨h1.alloc o2, fun A n cap l h => (h2 A n cap l h).keep ((Below.refl _ _).alloc (Nat.le_refl _) _), h3.alloc (by simp; omega) o2⟩
theorem one_row (W : World) (d : Du Sl) : Row (W.alloc (ebox d)) (some ⟨W.heap.size, 0, none⟩) 1 1 [d] :=
  ⟨rfl, ⟨Ents.one (heap_alloc_new W _), .inr ⟨_, _, _, rfl, heap_alloc_new W _⟩⟩, ⟨fun h => (by cases h), fun a ha => (by injection ha with ha; subst ha; simp)⟩⟩
theorem fin3 {w W : World} {B g : Nat} {x y : Value} (hb : Below B w W) (hg : B ≤ g) (br : Box W g 29 #[x, y]) (a c : Value) (o : Obj) (d : Du Sl) :
    Box ((((((W.setCell ⟨g, 0, none⟩ a).setCell ⟨g, 1, none⟩ c).alloc o).alloc (ebox d)).alloc (ebox d)).drew) g 29 #[a, c] ∧ (∀ A n cap l, Row W A n cap l → Row ((((((W.setCell ⟨g, 0, none⟩ a).setCell ⟨g, 1, none⟩ c).alloc o).alloc (ebox d)).alloc (ebox d)).drew) A n cap l) ∧
    Row ((((((W.setCell ⟨g, 0, none⟩ a).setCell ⟨g, 1, none⟩ c).alloc o).alloc (ebox d)).alloc (ebox d)).drew) (some ⟨W.heap.size + 1 + 1, 0, none⟩) 1 1 [d] ∧ Below B w ((((((W.setCell ⟨g, 0, none⟩ a).setCell ⟨g, 1, none⟩ c).alloc o).alloc (ebox d)).alloc (ebox d)).drew) := by
  obtain ⟨h1, h2, h3⟩ := fin2b hb hg br a c o (ebox d)
  have hk : Below ((((W.setCell ⟨g, 0, none⟩ a).setCell ⟨g, 1, none⟩ c).alloc o).alloc (ebox d)).heap.size ((((W.setCell ⟨g, 0, none⟩ a).setCell ⟨g, 1, none⟩ c).alloc o).alloc (ebox d)) ((((((W.setCell ⟨g, 0, none⟩ a).setCell ⟨g, 1, none⟩ c).alloc o).alloc (ebox d)).alloc (ebox d)).drew) := ((Below.refl _ _).alloc (Nat.le_refl _) _).drew
  refine ⟨h1.keep hk, fun A n cap l h => (h2 A n cap l h).keep hk, ?_, h3.trans (hk.mono (by have := br.lt; simp; omega))⟩
  have h4 := one_row ((((W.setCell ⟨g, 0, none⟩ a).setCell ⟨g, 1, none⟩ c).alloc o).alloc (ebox d)) d
  have e : ((((W.setCell ⟨g, 0, none⟩ a).setCell ⟨g, 1, none⟩ c).alloc o).alloc (ebox d)).heap.size = W.heap.size + 1 + 1 := by simp
  rw [e] at h4
  exact h4.keep (Below.refl _ _).drew
abbrev dv2 (k n : Int) (x : Sl) : Value := .agg #[.int .i64 k, .int .i64 n, slv x]
abbrev db2 (k n : Int) (x : Sl) : Obj := .cells #[.int .i64 k, .int .i64 n, slv x] 34
theorem step_boxes (w : World) (o o2 : Obj) : Below w.heap.size w (((w.alloc o).alloc o2).alloc tzb) ∧ Box (((w.alloc o).alloc o2).alloc tzb) (w.heap.size + 1 + 1) 29 #[.slice none 0 0, .int .i64 0] := by
  refine ⟨(((Below.refl _ _).alloc (Nat.le_refl _) _).alloc (by simp) _).alloc (by simp; omega) _, ?_⟩
  have := Box.new1 (w.alloc o) 29 #[.slice none 0 0, .int .i64 0] o2
  simpa using this

set_option maxHeartbeats 4000000 in
set_option maxRecDepth 100000 in
theorem rstep_calls (l : LL Sl) (A : Option Addr) (n cap last : Nat) (k nn : Int) (x : Sl) (w : World) (hA : Row w A n cap l) (hg : Good last l) (hlast : last < 4611686018427387904) :
    Calls Try.prog 13 #[tv A n cap last, dv2 k nn x] w fun e w' => ∃ A' n' cap' A2 n2 cap2, e = .returned (.tuple #[tv A' n' cap' (stN l last k), .int .i64 (stI l last k nn), .slice A2 n2 cap2]) ∧ Row w' A' n' cap' (stL l last k nn x) ∧ Src w.heap.size A A' ∧ Row w' A2 n2 cap2 (stR l k nn) ∧ Below w.heap.size w w' := by
  obtain ⟨x1, x2, x3⟩ := x
  obtain ⟨hb3, hr3⟩ := step_boxes w (tbox A n cap last) (db2 k nn (x1, x2, x3))
  have HB3 := Lib.hid hb3
  have HR3 := Lib.hid hr3
  have HT3 : Hid (Box (((w.alloc (tbox A n cap last)).alloc (db2 k nn (x1, x2, x3))).alloc tzb) w.heap.size 29 (tc A n cap last)) := Lib.hid (((Box.new _ _ _).alloc _).alloc _)
  have HD3 : Hid (Box (((w.alloc (tbox A n cap last)).alloc (db2 k nn (x1, x2, x3))).alloc tzb) (w.heap.size + 1) 34 #[.int .i64 k, .int .i64 nn, .slice x1 x2 x3]) := Lib.hid ((Box.new1 _ _ _ _).alloc _)
  have HA := Lib.hid (hA.keep hb3)
  have HG := Lib.hid hg
  have HLAST := Lib.hid hlast
  have hai := addI_lt (L := l) hlast
  clear hb3 hr3 hA hg hlast
  by_cases h1 : k = 1
  · subst h1
    have E1 := Lib.hid (show stI l last 1 nn = addI l last + 2000 * addE l from rfl)
    have E2 := Lib.hid (show stR l 1 nn = [] from rfl)
    have E3 := Lib.hid (show stL l last 1 nn (x1, x2, x3) = add l last nn (x1, x2, x3) from rfl)
    have E4 := Lib.hid (show stN l last 1 = addN l last from rfl)
    go_enter Try.func13, Try.ntmps13
    go_wp2_with fail
    refine (radd_calls l A n cap last nn (x1, x2, x3) _ HA.out HG.out HLAST.out).mono ?_
    rintro e w1 ⟨A5, n5, cap5, rfl, hr, hsrc, hb⟩
    have SRC : Hid (Src w.heap.size A A5) := Lib.hid (fun a ha => (hsrc a ha).imp id (fun h => Nat.le_trans HB3.out.size h))
    clear hsrc
    have HB := Lib.hid (HB3.out.trans (hb.mono HB3.out.size))
    have HR := Lib.hid (HR3.out.keep hb)
    have HW := Lib.hid hr
    generalize addI l last = ai at hai E1
    generalize addE l = ae at hai E1
    generalize addN l last = an at E4
    have hw1 : IntKind.i64.wrap (2000 * ae) = 2000 * ae := by rw [IntKind.wrap_i64]; omega
    have hw2 : IntKind.i64.wrap (ai + 2000 * ae) = ai + 2000 * ae := by rw [IntKind.wrap_i64]; omega
    have r0 : w1.cell? ⟨w.heap.size + 1 + 1, 0, none⟩ = some (.slice none 0 0) := HR.out.cell 0
    have r1 : w1.cell? ⟨w.heap.size + 1 + 1, 1, none⟩ = some (.int .i64 0) := HR.out.cell 1
    have f0 : w1.frozen? ⟨w.heap.size + 1 + 1, 0, none⟩ = false := HR.out.free 0
    have f1 : w1.frozen? ⟨w.heap.size + 1 + 1, 1, none⟩ = false := HR.out.free 1
    have z0 : w.heap.size + 1 + 1 < w1.heap.size := HR.out.lt
    clear hr hb HA HR3 HB3 HT3 HD3
    go_wp2_with fail
    obtain ⟨b1, b2, b3⟩ := fin2a HB.out (show w.heap.size ≤ w.heap.size + 1 + 1 by omega) HR.out (.slice A5 n5 cap5) (.int .i64 (an : Nat)) (tbox A5 n5 cap5 an)
    refine ret_t3 (b := .int .i64 (ai + 2000 * ae)) (c := .slice none 0 0) Try.results13 ?_ ?_ ?_ ?_ b1 ?_
    · rfl
    · show Value.int .i64 _ = _
      rfl
    · rfl
    · rfl
    · rw [E1.out, E2.out, E3.out, E4.out]
      exact ⟨_, _, _, none, 0, 0, rfl, b2 _ _ _ _ HW.out, SRC.out, ⟨rfl, .nil _ _, fun _ => rfl, fun a ha => by cases ha⟩, b3⟩
  · have t1 : (k == 1) = false := beq_eq_false_iff_ne.2 h1
    by_cases h2 : k = 2
    · subst h2
      have E1 := Lib.hid (show stI l last 2 nn = (if (getO l nn).isSome then 1 else 0) from rfl)
      have E2 := Lib.hid (stR_two l nn)
      have E3 := Lib.hid (show stL l last 2 nn (x1, x2, x3) = rem l nn from rfl)
      have E4 := Lib.hid (show stN l last 2 = last from rfl)
      clear h1 t1 hai
      go_enter Try.func13, Try.ntmps13
      go_wp2_with fail
      refine (rrem_calls l A n cap last nn _ HA.out HG.out.few).mono ?_
      rintro e w1 ⟨A5, n5, cap5, rfl, ho, hb⟩
      have HB := Lib.hid (HB3.out.trans (hb.mono HB3.out.size))
      have HR := Lib.hid (HR3.out.keep hb)
      have HT := Lib.hid (HT3.out.keep hb)
      have HW := Lib.hid ho.row
      have SRC : Hid (Src w.heap.size A A5) := Lib.hid (ho.src HB3.out.size)
      have HA1 := Lib.hid (HA.out.keep hb)
      have r0 : w1.cell? ⟨w.heap.size + 1 + 1, 0, none⟩ = some (.slice none 0 0) := HR.out.cell 0
      have r1 : w1.cell? ⟨w.heap.size + 1 + 1, 1, none⟩ = some (.int .i64 0) := HR.out.cell 1
      have f0 : w1.frozen? ⟨w.heap.size + 1 + 1, 0, none⟩ = false := HR.out.free 0
      have f1 : w1.frozen? ⟨w.heap.size + 1 + 1, 1, none⟩ = false := HR.out.free 1
      have z0 : w.heap.size + 1 + 1 < w1.heap.size := HR.out.lt
      have z1 : w.heap.size < w1.heap.size := HT.out.lt
      have nn1 : ¬ w.heap.size + 1 + 1 = w1.heap.size := by omega
      have nn2 : ¬ w.heap.size + 1 = w1.heap.size := by omega
      have nn3 : w.heap.size + 1 < w1.heap.size := by omega
      have nn4 : ¬ w1.heap.size = w.heap.size + 1 + 1 := by omega
      have nn5 : ¬ w1.heap.size = w.heap.size + 1 := by omega
      have y0 : w1.cell? ⟨w.heap.size, 0, none⟩ = some (.slice A n cap) := HT.out.cell 0
      have y1 : w1.cell? ⟨w.heap.size, 1, none⟩ = some (.int .i64 (last : Nat)) := HT.out.cell 1
      clear hb ho HA HR3 HB3 HT3 HD3
      cases hgo : getO l nn with
      | none =>
        rw [hgo] at E1 E2
        rw [show oe (none : Option (Du Sl)) = (0, 0, none, 0, 0) from rfl]
        have HN := Lib.hid (rem_none hgo)
        simp only [Option.isSome_none]
        clear hgo
        go_wp2_with fail
        obtain ⟨b1, b2, b3⟩ := fin2b HB.out (show w.heap.size ≤ w.heap.size + 1 + 1 by omega) HR.out (.slice A n cap) (.int .i64 (last : Nat)) (tbox A5 n5 cap5 last) (ebox (0, 0, none, 0, 0))
        refine ret_t3 (b := .int .i64 0) (c := .slice none 0 0) Try.results13 ?_ ?_ ?_ ?_ b1 ?_
        · rfl
        · rfl
        · rfl
        · rfl
        · rw [E1.out, E2.out, E3.out, E4.out, HN.out]
          exact ⟨_, _, _, none, 0, 0, rfl, b2 _ _ _ _ HA1.out, Src.refl _ _, ⟨rfl, .nil _ _, fun _ => rfl, fun a ha => by cases ha⟩, b3⟩
      | some d =>
        obtain ⟨i0, t0, s0, m0, q0⟩ := d
        rw [hgo] at E1 E2
        rw [show oe (some (i0, t0, s0, m0, q0)) = (i0, t0, s0, m0, q0) from rfl]
        simp only [Option.isSome_some]
        clear hgo
        have F := Lib.hid (fin3 HB.out (show w.heap.size ≤ w.heap.size + 1 + 1 by omega) HR.out (.slice A5 n5 cap5) (.int .i64 (last : Nat)) (tbox A5 n5 cap5 last) (i0, t0, s0, m0, q0))
        go_upto_region 9 with (fail)
        go_region_law (fail)
        all_goals
          go_wp2_with fail
          obtain ⟨b1, b2, b4, b3⟩ := F.out
          refine ret_t3 (b := .int .i64 1) (c := .slice (some ⟨w1.heap.size + 1 + 1, 0, none⟩) 1 1) Try.results13 ?_ ?_ ?_ ?_ b1 ?_
          · rfl
          · rfl
          · rfl
          · rfl
          · rw [E1.out, E2.out, E3.out, E4.out]
            exact ⟨_, _, _, _, _, _, rfl, b2 _ _ _ _ HW.out, SRC.out, b4, b3⟩
    · have t2 : (k == 2) = false := beq_eq_false_iff_ne.2 h2
      have E1 := Lib.hid (show stI l last k nn = 0 by unfold stI; rw [if_neg h1, if_neg h2])
      have E2 := Lib.hid (show stR l k nn = due l (clip nn) by unfold stR; rw [if_neg h1, if_neg h2])
      have E3 := Lib.hid (show stL l last k nn (x1, x2, x3) = left l (clip nn) by unfold stL; rw [if_neg h1, if_neg h2])
      have E4 := Lib.hid (show stN l last k = last by unfold stN; rw [if_neg h1])
      clear h1 h2 hai
      go_enter Try.func13, Try.ntmps13
      go_wp2_with fail
      refine (rdue_calls l A n cap last nn _ HA.out HG.out).mono ?_
      rintro e w1 ⟨A5, n5, cap5, A2, n2, cap2, rfl, hr, hsrc, hr2, hb⟩
      have SRC : Hid (Src w.heap.size A A5) := Lib.hid (fun a ha => (hsrc a ha).imp id (fun h => Nat.le_trans HB3.out.size h))
      clear hsrc
      have HB := Lib.hid (HB3.out.trans (hb.mono HB3.out.size))
      have HR := Lib.hid (HR3.out.keep hb)
      have HW := Lib.hid hr
      have HW2 := Lib.hid hr2
      have r0 : w1.cell? ⟨w.heap.size + 1 + 1, 0, none⟩ = some (.slice none 0 0) := HR.out.cell 0
      have r1 : w1.cell? ⟨w.heap.size + 1 + 1, 1, none⟩ = some (.int .i64 0) := HR.out.cell 1
      have f0 : w1.frozen? ⟨w.heap.size + 1 + 1, 0, none⟩ = false := HR.out.free 0
      have f1 : w1.frozen? ⟨w.heap.size + 1 + 1, 1, none⟩ = false := HR.out.free 1
      have z0 : w.heap.size + 1 + 1 < w1.heap.size := HR.out.lt
      clear hr hb hr2 HA HR3 HB3 HT3 HD3
      go_wp2_with fail
      obtain ⟨b1, b2, b3⟩ := fin2a HB.out (show w.heap.size ≤ w.heap.size + 1 + 1 by omega) HR.out (.slice A5 n5 cap5) (.int .i64 (last : Nat)) (tbox A5 n5 cap5 last)
      refine ret_t3 (b := .int .i64 0) (c := .slice A2 n2 cap2) Try.results13 ?_ ?_ ?_ ?_ b1 ?_
      · rfl
      · rfl
      · rfl
      · rfl
      · rw [E1.out, E2.out, E3.out, E4.out]
        exact ⟨_, _, _, _, _, _, rfl, b2 _ _ _ _ HW.out, SRC.out, b2 _ _ _ _ HW2.out, b3⟩
end Pr
end Go.Proofs.Ytplinlgafgfepaa.Ld
