/-
  The first reply of a text: numbers and texts.
-/
import Derived.Test.YtflmolhkbpicbaaDoorKRpyFsg
namespace Go.Proofs.YtflmolhkbpicbaaDoor
open Go.RowKit
namespace Ry

set_option maxRecDepth 100000 in
set_option maxHeartbeats 8000000 in
theorem first_58 (s : ByteArray) (w : World) (hs : s.size ≤ 65000) (hT : Tb w) (h0 : 0 < s.size) (hc : s[0] = 58) (R : Rd Rep)
    (HSG : ∀ w1 pb, Rs w1 pb (bat (s.data.toList.drop 1)) 0 → Tb w1 → 3 ≤ pb → Calls Tryd.prog 57 #[.pointer (some ⟨pb, 0, none⟩)] w1 fun x w' => SgOut x w' pb w1.heap.size R ∧ Only [pb] w1 w')
    (hlen : ∀ v r, R = .ok v r → r.length < s.size) :
    Calls Tryd.prog 30 #[.string s] w fun x w' => YDecB R s.size w.heap.size x w' ∧ Below w.heap.size w w' := by
  have hemp : s.toList.isEmpty = false := by rw [Lib.toList_data, head_of s h0]; rfl
  have hz : (0 : Int) < (s.size : Int) := by omega
  have hz1 : (1 : Int) ≤ (s.size : Int) := by omega
  have hx := cut_from s 1 (by omega)
  generalize hdr : s.data.toList.drop 1 = L at hx HSG
  have HW := Lib.hid ((Below.refl w.heap.size w).alloc (Nat.le_refl _) (.cells z4 25))
  have HX := Lib.hid (Box.new w 25 z4)
  have HT := Lib.hid hT
  clear hT hdr
  have hnf := eqf_no 57
  have HS1 := Lib.hid HSG
  clear HSG
  go_enter Tryd.func30, Tryd.ntmps30
  go_wp2_with fail
  go_region_with (go_at_call 43; refine (signs_own _).mono ?_; rintro x w1 ⟨b, rfl, hm, hb1⟩; have k0 := look_58 hm; have k1 := look_58 (World.ownsMap.drew hm); have k2 := look_58 (World.ownsMap.drew (World.ownsMap.drew hm)))
  all_goals
    have HB1 : Hid (Below w.heap.size w w1) := Lib.hid (by first | exact HW.out.trans (hb1.mono HW.out.size) | exact (Below.drew HW.out).trans (hb1.mono HW.out.size))
    have X1 : Hid (Box w1 w.heap.size 25 z4) := Lib.hid (by first | exact Box.keep HX.out hb1 | exact Box.keep (Box.drew HX.out) hb1)
    have T1 := Lib.hid (HT.out.keep HB1.out)
    clear hm k0 k1 k2 hb1
    go_wp2_with fail
    refine (HS1.out _ w1.heap.size (Box.new w1 _ _) (T1.out.keep ((Below.refl _ w1).alloc (Nat.le_refl _) _)) T1.out.lt).mono ?_
    rintro x w2 ⟨⟨y, A, cap, rfl, hR⟩, hk2⟩
    have hne2 : w.heap.size ∉ [w1.heap.size] := by have := X1.out.lt; simp; omega
    have hB2 := hk2.below (HB1.out.alloc HB1.out.size (.cells #[.string (bat L), .int .i64 0] 75)) (fun x hx => by simp at hx; have := HB1.out.size; omega) (by have := HB1.out.size; simp; omega)
    have HB2 := Lib.hid hB2
    have X2 := Lib.hid (box_only (Box.alloc X1.out _) hk2 hne2)
    have hlt2 : w1.heap.size < w2.heap.size := by have := hk2.size; simp at this; omega
    have hn1 : ¬ (w1.heap.size = w.heap.size) := by have := X1.out.lt; omega
    have hn2 : ¬ (w.heap.size = w1.heap.size) := by have := X1.out.lt; omega
    have hn3 : ¬ (w2.heap.size = w.heap.size) := by have := X2.out.lt; omega
    have hn4 : ¬ (w.heap.size = w2.heap.size) := by have := X2.out.lt; omega
    clear hk2 hB2 X1
    go_wp2_with (refine wpList_store_only rfl 25 _ _ rfl w2.heap.size _ rfl rfl _ (Box.new w2 _ z4) r_size rfl (by simp [Value.oneCell']) ?_)
    intro w3 p3 k3
    have P3 := Lib.hid p3
    have hne3 : w.heap.size ∉ [w2.heap.size] := by have := X2.out.lt; simp; omega
    have hne4 : w1.heap.size ∉ [w2.heap.size] := by simp; omega
    have HB3 := Lib.hid (k3.below (HB2.out.alloc HB2.out.size (.cells z4 25)) (fun x hx => by simp at hx; have := HB2.out.size; omega) (by have := HB2.out.size; simp; omega))
    have X3 := Lib.hid (box_only (Box.alloc X2.out _) k3 hne3)
    have HK3 := Lib.hid k3
    clear p3 k3
    have r0 := X3.out.cell 0
    have r1 := X3.out.cell 1
    have r2 := X3.out.cell 2
    have r3 := X3.out.cell 3
    have z0 := X3.out.free 0
    have z1 := X3.out.free 1
    have z2 := X3.out.free 2
    have z3 := X3.out.free 3
    simp only [List.getElem?_toArray, List.getElem?_cons_zero, List.getElem?_cons_succ] at r0 r1 r2 r3
    cases R with
    | ok v r =>
      obtain ⟨rfl, hz, hrow⟩ := hR
      have hrl := hlen y r rfl
      obtain ⟨S, hS⟩ : ∃ S, S = bat r := ⟨_, rfl⟩
      rw [← hS] at hz
      have hSs : S.size = r.length := by rw [hS, bat_size]
      have HZ := Lib.hid ((Rs.keep hz ((Below.refl _ w2).alloc (Nat.le_refl _) (.cells z4 25))).only HK3.out hne4)
      have HR3 : Hid (SRow w3 w.heap.size (.slice A y.l.length cap) (y.l.map bat)) := Lib.hid (SRow.lower (row_only (SRow.alloc hrow _) HK3.out (fun x hx => by rw [List.mem_singleton] at hx; subst hx; exact row_box (SRow.alloc hrow _) (Box.new w2 25 z4) (by decide))) (by have := HB1.out.size; simp; omega))
      have e1 : ((s.size : Int) - (r.length : Int)) = ((s.size - r.length : Nat) : Int) := by omega
      clear hz hrow hlen hS
      have d0 := HZ.out.c0
      have d1 := HZ.out.c1
      have c0 := P3.out.cell 0
      have c1 := P3.out.cell 1
      have c2 := P3.out.cell 2
      have c3 := P3.out.cell 3
      simp only [List.getElem?_toArray, List.getElem?_cons_zero, List.getElem?_cons_succ] at c0 c1 c2 c3
      go_wp2_with fail
      go_region
      go_wp2_with fail
      refine ret_r3 Tryd.results30 rfl rfl rfl rfl (Box.drew ((((X3.out.set 0 _).set 1 _).set 2 _).set 3 _)) ?_
      have hon : Only [w.heap.size] w3 ((((((w3.setCell ⟨w.heap.size, 0, none⟩ (.int .i64 y.k)).setCell ⟨w.heap.size, 1, none⟩ (.string (bat y.t))).setCell ⟨w.heap.size, 2, none⟩ (.int .i64 y.n)).setCell ⟨w.heap.size, 3, none⟩ (.slice A y.l.length cap))).drew) :=
        (((((Only.refl [w.heap.size] w3).set (by simp) _).set (by simp) _).set (by simp) _).set (by simp) _).drewN 1
      refine ⟨⟨A, cap, (by first | rfl | (rw [← e1]; rfl)), row_only HR3.out hon (fun x hx => by rw [List.mem_singleton] at hx; subst hx; exact row_box HR3.out X3.out (by decide))⟩, ?_⟩
      · exact ((((HB3.out.setCell (by simp) _).setCell (by simp) _).setCell (by simp) _).setCell (by simp) _).drew
    | err k =>
      obtain ⟨hk0, s', hz⟩ := hR
      have HZ := Lib.hid ((Rs.keep hz ((Below.refl _ w2).alloc (Nat.le_refl _) (.cells z4 25))).only HK3.out hne4)
      have hkk : ((k : Int) != 0) = true := by simp; omega
      clear hz hlen
      have d1 := HZ.out.c1
      go_wp2_with fail
      go_region
      go_wp2_with fail
      refine ret_r3 Tryd.results30 rfl rfl rfl rfl (Box.drew ((((X3.out.set 0 _).set 1 _).set 2 _).set 3 _)) ?_
      exact ⟨⟨none, 0, rfl, rd4z _⟩, ((((HB3.out.setCell (by simp) _).setCell (by simp) _).setCell (by simp) _).setCell (by simp) _).drew⟩

set_option maxRecDepth 100000 in
set_option maxHeartbeats 8000000 in
theorem first_36 (s : ByteArray) (w : World) (hs : s.size ≤ 65000) (hT : Tb w) (h0 : 0 < s.size) (hc : s[0] = 36) (R : Rd Rep)
    (HSG : ∀ w1 pb, Rs w1 pb (bat (s.data.toList.drop 1)) 0 → Tb w1 → 3 ≤ pb → Calls Tryd.prog 59 #[.pointer (some ⟨pb, 0, none⟩)] w1 fun x w' => SgOut x w' pb w1.heap.size R ∧ Only [pb] w1 w')
    (hlen : ∀ v r, R = .ok v r → r.length < s.size) :
    Calls Tryd.prog 30 #[.string s] w fun x w' => YDecB R s.size w.heap.size x w' ∧ Below w.heap.size w w' := by
  have hemp : s.toList.isEmpty = false := by rw [Lib.toList_data, head_of s h0]; rfl
  have hz : (0 : Int) < (s.size : Int) := by omega
  have hz1 : (1 : Int) ≤ (s.size : Int) := by omega
  have hx := cut_from s 1 (by omega)
  generalize hdr : s.data.toList.drop 1 = L at hx HSG
  have HW := Lib.hid ((Below.refl w.heap.size w).alloc (Nat.le_refl _) (.cells z4 25))
  have HX := Lib.hid (Box.new w 25 z4)
  have HT := Lib.hid hT
  clear hT hdr
  have hnf := eqf_no 59
  have HS1 := Lib.hid HSG
  clear HSG
  go_enter Tryd.func30, Tryd.ntmps30
  go_wp2_with fail
  go_region_with (go_at_call 43; refine (signs_own _).mono ?_; rintro x w1 ⟨b, rfl, hm, hb1⟩; have k0 := look_36 hm; have k1 := look_36 (World.ownsMap.drew hm); have k2 := look_36 (World.ownsMap.drew (World.ownsMap.drew hm)))
  all_goals
    have HB1 : Hid (Below w.heap.size w w1) := Lib.hid (by first | exact HW.out.trans (hb1.mono HW.out.size) | exact (Below.drew HW.out).trans (hb1.mono HW.out.size))
    have X1 : Hid (Box w1 w.heap.size 25 z4) := Lib.hid (by first | exact Box.keep HX.out hb1 | exact Box.keep (Box.drew HX.out) hb1)
    have T1 := Lib.hid (HT.out.keep HB1.out)
    clear hm k0 k1 k2 hb1
    go_wp2_with fail
    refine (HS1.out _ w1.heap.size (Box.new w1 _ _) (T1.out.keep ((Below.refl _ w1).alloc (Nat.le_refl _) _)) T1.out.lt).mono ?_
    rintro x w2 ⟨⟨y, A, cap, rfl, hR⟩, hk2⟩
    have hne2 : w.heap.size ∉ [w1.heap.size] := by have := X1.out.lt; simp; omega
    have hB2 := hk2.below (HB1.out.alloc HB1.out.size (.cells #[.string (bat L), .int .i64 0] 75)) (fun x hx => by simp at hx; have := HB1.out.size; omega) (by have := HB1.out.size; simp; omega)
    have HB2 := Lib.hid hB2
    have X2 := Lib.hid (box_only (Box.alloc X1.out _) hk2 hne2)
    have hlt2 : w1.heap.size < w2.heap.size := by have := hk2.size; simp at this; omega
    have hn1 : ¬ (w1.heap.size = w.heap.size) := by have := X1.out.lt; omega
    have hn2 : ¬ (w.heap.size = w1.heap.size) := by have := X1.out.lt; omega
    have hn3 : ¬ (w2.heap.size = w.heap.size) := by have := X2.out.lt; omega
    have hn4 : ¬ (w.heap.size = w2.heap.size) := by have := X2.out.lt; omega
    clear hk2 hB2 X1
    go_wp2_with (refine wpList_store_only rfl 25 _ _ rfl w2.heap.size _ rfl rfl _ (Box.new w2 _ z4) r_size rfl (by simp [Value.oneCell']) ?_)
    intro w3 p3 k3
    have P3 := Lib.hid p3
    have hne3 : w.heap.size ∉ [w2.heap.size] := by have := X2.out.lt; simp; omega
    have hne4 : w1.heap.size ∉ [w2.heap.size] := by simp; omega
    have HB3 := Lib.hid (k3.below (HB2.out.alloc HB2.out.size (.cells z4 25)) (fun x hx => by simp at hx; have := HB2.out.size; omega) (by have := HB2.out.size; simp; omega))
    have X3 := Lib.hid (box_only (Box.alloc X2.out _) k3 hne3)
    have HK3 := Lib.hid k3
    clear p3 k3
    have r0 := X3.out.cell 0
    have r1 := X3.out.cell 1
    have r2 := X3.out.cell 2
    have r3 := X3.out.cell 3
    have z0 := X3.out.free 0
    have z1 := X3.out.free 1
    have z2 := X3.out.free 2
    have z3 := X3.out.free 3
    simp only [List.getElem?_toArray, List.getElem?_cons_zero, List.getElem?_cons_succ] at r0 r1 r2 r3
    cases R with
    | ok v r =>
      obtain ⟨rfl, hz, hrow⟩ := hR
      have hrl := hlen y r rfl
      obtain ⟨S, hS⟩ : ∃ S, S = bat r := ⟨_, rfl⟩
      rw [← hS] at hz
      have hSs : S.size = r.length := by rw [hS, bat_size]
      have HZ := Lib.hid ((Rs.keep hz ((Below.refl _ w2).alloc (Nat.le_refl _) (.cells z4 25))).only HK3.out hne4)
      have HR3 : Hid (SRow w3 w.heap.size (.slice A y.l.length cap) (y.l.map bat)) := Lib.hid (SRow.lower (row_only (SRow.alloc hrow _) HK3.out (fun x hx => by rw [List.mem_singleton] at hx; subst hx; exact row_box (SRow.alloc hrow _) (Box.new w2 25 z4) (by decide))) (by have := HB1.out.size; simp; omega))
      have e1 : ((s.size : Int) - (r.length : Int)) = ((s.size - r.length : Nat) : Int) := by omega
      clear hz hrow hlen hS
      have d0 := HZ.out.c0
      have d1 := HZ.out.c1
      have c0 := P3.out.cell 0
      have c1 := P3.out.cell 1
      have c2 := P3.out.cell 2
      have c3 := P3.out.cell 3
      simp only [List.getElem?_toArray, List.getElem?_cons_zero, List.getElem?_cons_succ] at c0 c1 c2 c3
      go_wp2_with fail
      go_region
      go_wp2_with fail
      refine ret_r3 Tryd.results30 rfl rfl rfl rfl (Box.drew ((((X3.out.set 0 _).set 1 _).set 2 _).set 3 _)) ?_
      have hon : Only [w.heap.size] w3 ((((((w3.setCell ⟨w.heap.size, 0, none⟩ (.int .i64 y.k)).setCell ⟨w.heap.size, 1, none⟩ (.string (bat y.t))).setCell ⟨w.heap.size, 2, none⟩ (.int .i64 y.n)).setCell ⟨w.heap.size, 3, none⟩ (.slice A y.l.length cap))).drew) :=
        (((((Only.refl [w.heap.size] w3).set (by simp) _).set (by simp) _).set (by simp) _).set (by simp) _).drewN 1
      refine ⟨⟨A, cap, (by first | rfl | (rw [← e1]; rfl)), row_only HR3.out hon (fun x hx => by rw [List.mem_singleton] at hx; subst hx; exact row_box HR3.out X3.out (by decide))⟩, ?_⟩
      · exact ((((HB3.out.setCell (by simp) _).setCell (by simp) _).setCell (by simp) _).setCell (by simp) _).drew
    | err k =>
      obtain ⟨hk0, s', hz⟩ := hR
      have HZ := Lib.hid ((Rs.keep hz ((Below.refl _ w2).alloc (Nat.le_refl _) (.cells z4 25))).only HK3.out hne4)
      have hkk : ((k : Int) != 0) = true := by simp; omega
      clear hz hlen
      have d1 := HZ.out.c1
      go_wp2_with fail
      go_region
      go_wp2_with fail
      refine ret_r3 Tryd.results30 rfl rfl rfl rfl (Box.drew ((((X3.out.set 0 _).set 1 _).set 2 _).set 3 _)) ?_
      exact ⟨⟨none, 0, rfl, rd4z _⟩, ((((HB3.out.setCell (by simp) _).setCell (by simp) _).setCell (by simp) _).setCell (by simp) _).drew⟩
end Ry
end Go.Proofs.YtflmolhkbpicbaaDoor
