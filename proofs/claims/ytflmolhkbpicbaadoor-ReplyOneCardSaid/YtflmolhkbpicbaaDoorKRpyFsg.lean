/-
  The first reply of a text: reply.first, sign by sign.
-/
import Derived.Test.YtflmolhkbpicbaaDoorKRpyFst
import Derived.Test.YtflmolhkbpicbaaDoorKGYC
import Derived.BigRegion
namespace Go.Proofs.YtflmolhkbpicbaaDoor
open Go.RowKit
namespace Ry

set_option maxRecDepth 100000 in
theorem Tb.lt {w : World} (h : Tb w) : 3 ≤ w.heap.size := by
  obtain ⟨m, hm⟩ := h.max
  rcases Nat.lt_or_ge 2 w.heap.size with h' | h'
  · exact h'
  · simp [World.cell?, Array.getElem?_eq_none h'] at hm
set_option maxRecDepth 100000 in
theorem eqf_in (d : Nat) (f : Nat) (w : World) : (Op.equalIn (d + 1) 71 (fnv f) .nilFunc).run Tryd.prog w = .ok false w := by
  simp [Op.equalIn, run_underlying Tryd.underlying71]
set_option maxRecDepth 100000 in
theorem eqn_in (d : Nat) (w : World) : (Op.equalIn (d + 1) 71 .nilFunc .nilFunc).run Tryd.prog w = .ok true w := by
  simp [Op.equalIn, run_underlying Tryd.underlying71]
set_option maxRecDepth 100000 in
theorem eqf_no (f : Nat) (w : World) : (Go.binOp .eql 71 (fnv f) .nilFunc).run Tryd.prog w = .ok (.bool false) w := by
  have h : (Op.equal 71 (fnv f) .nilFunc).run Tryd.prog w = .ok false w := eqf_in 9999 f w
  simp only [Go.binOp]
  simp [h]
set_option maxRecDepth 100000 in
theorem eqf_yes (w : World) : (Go.binOp .eql 71 .nilFunc .nilFunc).run Tryd.prog w = .ok (.bool true) w := by
  have h : (Op.equal 71 .nilFunc .nilFunc).run Tryd.prog w = .ok true w := eqn_in 9999 w
  simp only [Go.binOp]
  simp [h]
/-- an answer that was read, its texts in new blocks; or an error -/
def YDecB (R : Rd Rep) (n B : Nat) (e : Ending) (w' : World) : Prop := match R with
  | .ok x r => ∃ A c, e = .returned (.tuple #[rv x A c, .int .i64 ((n - r.length : Nat) : Int), .int .i64 0]) ∧ SRow w' B (.slice A x.l.length c) (x.l.map bat)
  | .err k => ∃ A c, e = .returned (.tuple #[rv zero A c, .int .i64 0, .int .i64 (k : Nat)]) ∧ Rd4 w' zero A c
abbrev rd4z (w : World) : Rd4 w zero none 0 := Rd4.zero w
set_option maxRecDepth 100000 in
theorem texts_only {w w' : World} {own : List Nat} {A : Option Addr} {ps : List ByteArray} (h : Texts w A ps) (k : Only own w w') (hn : ∀ a, A = some a → a.block ∉ own) : Texts w' A ps := by
  intro i hi
  obtain ⟨a, e, hc⟩ := h i hi
  refine ⟨a, e, ?_⟩
  have hb : (a.add i).block = a.block := by unfold Addr.add; split <;> rfl
  have hlt : (a.add i).block < w.heap.size := by
    rcases Nat.lt_or_ge (a.add i).block w.heap.size with h' | h'
    · exact h'
    · simp [World.cell?, Array.getElem?_eq_none h'] at hc
  rw [World.cell?_of_block (k.block _ hlt (by rw [hb]; exact hn a e))]
  exact hc
set_option maxRecDepth 100000 in
theorem head_of (s : ByteArray) (h : 0 < s.size) : s.data.toList = s[0] :: s.data.toList.drop 1 := by
  have hlen : 0 < s.data.toList.length := by rw [← Lib.size_eq]; exact h
  have := List.drop_eq_getElem_cons (l := s.data.toList) (i := 0) hlen
  rw [List.drop_zero, byte_of s 0 h] at this
  simpa using this
set_option maxRecDepth 100000 in
theorem look_43 {w : World} {b : Nat} (h : SgM w b) : (Instr.lookup 72 (.map (some b)) (.int .u8 43) false).run Tryd.prog w = .ok (fnv 53) w := look_is h 43 (by decide)
set_option maxRecDepth 100000 in
theorem look_45 {w : World} {b : Nat} (h : SgM w b) : (Instr.lookup 72 (.map (some b)) (.int .u8 45) false).run Tryd.prog w = .ok (fnv 56) w := look_is h 45 (by decide)
set_option maxRecDepth 100000 in
theorem look_58 {w : World} {b : Nat} (h : SgM w b) : (Instr.lookup 72 (.map (some b)) (.int .u8 58) false).run Tryd.prog w = .ok (fnv 57) w := look_is h 58 (by decide)
set_option maxRecDepth 100000 in
theorem look_36 {w : World} {b : Nat} (h : SgM w b) : (Instr.lookup 72 (.map (some b)) (.int .u8 36) false).run Tryd.prog w = .ok (fnv 59) w := look_is h 36 (by decide)
set_option maxRecDepth 100000 in
theorem look_42 {w : World} {b : Nat} (h : SgM w b) : (Instr.lookup 72 (.map (some b)) (.int .u8 42) false).run Tryd.prog w = .ok (fnv 60) w := look_is h 42 (by decide)

set_option maxRecDepth 100000 in
set_option maxHeartbeats 2000000 in
theorem first_none (s : ByteArray) (w : World) (h0 : s.size = 0) :
    Calls Tryd.prog 30 #[.string s] w fun x w' => YDecB (.err 8) s.size w.heap.size x w' ∧ Below w.heap.size w w' := by
  have hl : s.data.toList = [] := List.length_eq_zero_iff.1 (by rw [← Lib.size_eq]; exact h0)
  have hemp : s.toList.isEmpty = true := by rw [Lib.toList_data, hl]; rfl
  have HX := Lib.hid (Box.new w 25 z4)
  have HB := Lib.hid ((Below.refl w.heap.size w).alloc (Nat.le_refl _) (.cells z4 25))
  clear hl
  go_enter Tryd.func30, Tryd.ntmps30
  go_wp2_with (refine wpList_store_only rfl 25 _ _ rfl w.heap.size _ rfl rfl _ HX.out r_size rfl (by simp [Value.oneCell']) ?_)
  intro w2 p2 k2
  have P2 := Lib.hid p2
  have B2 := Lib.hid (k2.below HB.out (fun x hx => by simp at hx; omega) HB.out.size)
  clear p2 k2
  go_wp2_with fail
  refine ret_r3 Tryd.results30 rfl rfl rfl rfl P2.out ?_
  exact ⟨⟨none, 0, rfl, rd4z _⟩, B2.out⟩

set_option maxRecDepth 100000 in
set_option maxHeartbeats 8000000 in
theorem first_43 (s : ByteArray) (w : World) (hs : s.size ≤ 65000) (hT : Tb w) (h0 : 0 < s.size) (hc : s[0] = 43) (R : Rd Rep)
    (HSG : ∀ w1 pb, Rs w1 pb (bat (s.data.toList.drop 1)) 0 → Tb w1 → 3 ≤ pb → Calls Tryd.prog 53 #[.pointer (some ⟨pb, 0, none⟩)] w1 fun x w' => SgOut x w' pb w1.heap.size R ∧ Only [pb] w1 w')
    (hlen : ∀ v r, R = .ok v r → r.length < s.size) :
    Calls Tryd.prog 30 #[.string s] w fun x w' => YDecB R s.size w.heap.size x w' ∧ Below w.heap.size w w' := by
  have hemp : s.toList.isEmpty = false := by rw [Lib.toList_data, head_of s h0]; rfl
  have hz : (0 : Int) < (s.size : Int) := by omega
  have hz1 : (1 : Int) ≤ (s.size : Int) := by omega
  have hx := cut_from s 1 (by omega)
  generalize hdr : s.data.toList.drop 1 = L at hx HSG
  have HW := Lib.hid ((Below.refl w.heap.size w).alloc (Nat.le_refl _) (.cells z4 25))
  have HX := Lib.hid (Box.new w 25 z4)
  have HT := Lib.hid hT
  clear hT hdr
  have hnf := eqf_no 53
  have HS1 := Lib.hid HSG
  clear HSG
  go_enter Tryd.func30, Tryd.ntmps30
  go_wp2_with fail
  go_region_with (go_at_call 43; refine (signs_own _).mono ?_; rintro x w1 ⟨b, rfl, hm, hb1⟩; have k0 := look_43 hm; have k1 := look_43 (World.ownsMap.drew hm); have k2 := look_43 (World.ownsMap.drew (World.ownsMap.drew hm)))
  all_goals
    have HB1 : Hid (Below w.heap.size w w1) := Lib.hid (by first | exact HW.out.trans (hb1.mono HW.out.size) | exact (Below.drew HW.out).trans (hb1.mono HW.out.size))
    have X1 : Hid (Box w1 w.heap.size 25 z4) := Lib.hid (by first | exact Box.keep HX.out hb1 | exact Box.keep (Box.drew HX.out) hb1)
    have T1 := Lib.hid (HT.out.keep HB1.out)
    clear hm k0 k1 k2 hb1
    go_wp2_with fail
    refine (HS1.out _ w1.heap.size (Box.new w1 _ _) (T1.out.keep ((Below.refl _ w1).alloc (Nat.le_refl _) _)) T1.out.lt).mono ?_
    rintro x w2 ⟨⟨y, A, cap, rfl, hR⟩, hk2⟩
    have hne2 : w.heap.size ∉ [w1.heap.size] := by have := X1.out.lt; simp; omega
    have hB2 := hk2.below (HB1.out.alloc HB1.out.size (.cells #[.string (bat L), .int .i64 0] 75)) (fun x hx => by simp at hx; have := HB1.out.size; omega) (by have := HB1.out.size; simp; omega)
    have HB2 := Lib.hid hB2
    have X2 := Lib.hid (box_only (Box.alloc X1.out _) hk2 hne2)
    have hlt2 : w1.heap.size < w2.heap.size := by have := hk2.size; simp at this; omega
    have hn1 : ¬ (w1.heap.size = w.heap.size) := by have := X1.out.lt; omega
    have hn2 : ¬ (w.heap.size = w1.heap.size) := by have := X1.out.lt; omega
    have hn3 : ¬ (w2.heap.size = w.heap.size) := by have := X2.out.lt; omega
    have hn4 : ¬ (w.heap.size = w2.heap.size) := by have := X2.out.lt; omega
    clear hk2 hB2 X1
    go_wp2_with (refine wpList_store_only rfl 25 _ _ rfl w2.heap.size _ rfl rfl _ (Box.new w2 _ z4) r_size rfl (by simp [Value.oneCell']) ?_)
    intro w3 p3 k3
    have P3 := Lib.hid p3
    have hne3 : w.heap.size ∉ [w2.heap.size] := by have := X2.out.lt; simp; omega
    have hne4 : w1.heap.size ∉ [w2.heap.size] := by simp; omega
    have HB3 := Lib.hid (k3.below (HB2.out.alloc HB2.out.size (.cells z4 25)) (fun x hx => by simp at hx; have := HB2.out.size; omega) (by have := HB2.out.size; simp; omega))
    have X3 := Lib.hid (box_only (Box.alloc X2.out _) k3 hne3)
    have HK3 := Lib.hid k3
    clear p3 k3
    have r0 := X3.out.cell 0
    have r1 := X3.out.cell 1
    have r2 := X3.out.cell 2
    have r3 := X3.out.cell 3
    have z0 := X3.out.free 0
    have z1 := X3.out.free 1
    have z2 := X3.out.free 2
    have z3 := X3.out.free 3
    simp only [List.getElem?_toArray, List.getElem?_cons_zero, List.getElem?_cons_succ] at r0 r1 r2 r3
    cases R with
    | ok v r =>
      obtain ⟨rfl, hz, hrow⟩ := hR
      have hrl := hlen y r rfl
      obtain ⟨S, hS⟩ : ∃ S, S = bat r := ⟨_, rfl⟩
      rw [← hS] at hz
      have hSs : S.size = r.length := by rw [hS, bat_size]
      have HZ := Lib.hid ((Rs.keep hz ((Below.refl _ w2).alloc (Nat.le_refl _) (.cells z4 25))).only HK3.out hne4)
      have HR3 : Hid (SRow w3 w.heap.size (.slice A y.l.length cap) (y.l.map bat)) := Lib.hid (SRow.lower (row_only (SRow.alloc hrow _) HK3.out (fun x hx => by rw [List.mem_singleton] at hx; subst hx; exact row_box (SRow.alloc hrow _) (Box.new w2 25 z4) (by decide))) (by have := HB1.out.size; simp; omega))
      have e1 : ((s.size : Int) - (r.length : Int)) = ((s.size - r.length : Nat) : Int) := by omega
      clear hz hrow hlen hS
      have d0 := HZ.out.c0
      have d1 := HZ.out.c1
      have c0 := P3.out.cell 0
      have c1 := P3.out.cell 1
      have c2 := P3.out.cell 2
      have c3 := P3.out.cell 3
      simp only [List.getElem?_toArray, List.getElem?_cons_zero, List.getElem?_cons_succ] at c0 c1 c2 c3
      go_wp2_with fail
      go_region
      go_wp2_with fail
      refine ret_r3 Tryd.results30 rfl rfl rfl rfl (Box.drew ((((X3.out.set 0 _).set 1 _).set 2 _).set 3 _)) ?_
      have hon : Only [w.heap.size] w3 ((((((w3.setCell ⟨w.heap.size, 0, none⟩ (.int .i64 y.k)).setCell ⟨w.heap.size, 1, none⟩ (.string (bat y.t))).setCell ⟨w.heap.size, 2, none⟩ (.int .i64 y.n)).setCell ⟨w.heap.size, 3, none⟩ (.slice A y.l.length cap))).drew) :=
        (((((Only.refl [w.heap.size] w3).set (by simp) _).set (by simp) _).set (by simp) _).set (by simp) _).drewN 1
      refine ⟨⟨A, cap, (by first | rfl | (rw [← e1]; rfl)), row_only HR3.out hon (fun x hx => by rw [List.mem_singleton] at hx; subst hx; exact row_box HR3.out X3.out (by decide))⟩, ?_⟩
      · exact ((((HB3.out.setCell (by simp) _).setCell (by simp) _).setCell (by simp) _).setCell (by simp) _).drew
    | err k =>
      obtain ⟨hk0, s', hz⟩ := hR
      have HZ := Lib.hid ((Rs.keep hz ((Below.refl _ w2).alloc (Nat.le_refl _) (.cells z4 25))).only HK3.out hne4)
      have hkk : ((k : Int) != 0) = true := by simp; omega
      clear hz hlen
      have d1 := HZ.out.c1
      go_wp2_with fail
      go_region
      go_wp2_with fail
      refine ret_r3 Tryd.results30 rfl rfl rfl rfl (Box.drew ((((X3.out.set 0 _).set 1 _).set 2 _).set 3 _)) ?_
      exact ⟨⟨none, 0, rfl, rd4z _⟩, ((((HB3.out.setCell (by simp) _).setCell (by simp) _).setCell (by simp) _).setCell (by simp) _).drew⟩

set_option maxRecDepth 100000 in
set_option maxHeartbeats 8000000 in
theorem first_45 (s : ByteArray) (w : World) (hs : s.size ≤ 65000) (hT : Tb w) (h0 : 0 < s.size) (hc : s[0] = 45) (R : Rd Rep)
    (HSG : ∀ w1 pb, Rs w1 pb (bat (s.data.toList.drop 1)) 0 → Tb w1 → 3 ≤ pb → Calls Tryd.prog 56 #[.pointer (some ⟨pb, 0, none⟩)] w1 fun x w' => SgOut x w' pb w1.heap.size R ∧ Only [pb] w1 w')
    (hlen : ∀ v r, R = .ok v r → r.length < s.size) :
    Calls Tryd.prog 30 #[.string s] w fun x w' => YDecB R s.size w.heap.size x w' ∧ Below w.heap.size w w' := by
  have hemp : s.toList.isEmpty = false := by rw [Lib.toList_data, head_of s h0]; rfl
  have hz : (0 : Int) < (s.size : Int) := by omega
  have hz1 : (1 : Int) ≤ (s.size : Int) := by omega
  have hx := cut_from s 1 (by omega)
  generalize hdr : s.data.toList.drop 1 = L at hx HSG
  have HW := Lib.hid ((Below.refl w.heap.size w).alloc (Nat.le_refl _) (.cells z4 25))
  have HX := Lib.hid (Box.new w 25 z4)
  have HT := Lib.hid hT
  clear hT hdr
  have hnf := eqf_no 56
  have HS1 := Lib.hid HSG
  clear HSG
  go_enter Tryd.func30, Tryd.ntmps30
  go_wp2_with fail
  go_region_with (go_at_call 43; refine (signs_own _).mono ?_; rintro x w1 ⟨b, rfl, hm, hb1⟩; have k0 := look_45 hm; have k1 := look_45 (World.ownsMap.drew hm); have k2 := look_45 (World.ownsMap.drew (World.ownsMap.drew hm)))
  all_goals
    have HB1 : Hid (Below w.heap.size w w1) := Lib.hid (by first | exact HW.out.trans (hb1.mono HW.out.size) | exact (Below.drew HW.out).trans (hb1.mono HW.out.size))
    have X1 : Hid (Box w1 w.heap.size 25 z4) := Lib.hid (by first | exact Box.keep HX.out hb1 | exact Box.keep (Box.drew HX.out) hb1)
    have T1 := Lib.hid (HT.out.keep HB1.out)
    clear hm k0 k1 k2 hb1
    go_wp2_with fail
    refine (HS1.out _ w1.heap.size (Box.new w1 _ _) (T1.out.keep ((Below.refl _ w1).alloc (Nat.le_refl _) _)) T1.out.lt).mono ?_
    rintro x w2 ⟨⟨y, A, cap, rfl, hR⟩, hk2⟩
    have hne2 : w.heap.size ∉ [w1.heap.size] := by have := X1.out.lt; simp; omega
    have hB2 := hk2.below (HB1.out.alloc HB1.out.size (.cells #[.string (bat L), .int .i64 0] 75)) (fun x hx => by simp at hx; have := HB1.out.size; omega) (by have := HB1.out.size; simp; omega)
    have HB2 := Lib.hid hB2
    have X2 := Lib.hid (box_only (Box.alloc X1.out _) hk2 hne2)
    have hlt2 : w1.heap.size < w2.heap.size := by have := hk2.size; simp at this; omega
    have hn1 : ¬ (w1.heap.size = w.heap.size) := by have := X1.out.lt; omega
    have hn2 : ¬ (w.heap.size = w1.heap.size) := by have := X1.out.lt; omega
    have hn3 : ¬ (w2.heap.size = w.heap.size) := by have := X2.out.lt; omega
    have hn4 : ¬ (w.heap.size = w2.heap.size) := by have := X2.out.lt; omega
    clear hk2 hB2 X1
    go_wp2_with (refine wpList_store_only rfl 25 _ _ rfl w2.heap.size _ rfl rfl _ (Box.new w2 _ z4) r_size rfl (by simp [Value.oneCell']) ?_)
    intro w3 p3 k3
    have P3 := Lib.hid p3
    have hne3 : w.heap.size ∉ [w2.heap.size] := by have := X2.out.lt; simp; omega
    have hne4 : w1.heap.size ∉ [w2.heap.size] := by simp; omega
    have HB3 := Lib.hid (k3.below (HB2.out.alloc HB2.out.size (.cells z4 25)) (fun x hx => by simp at hx; have := HB2.out.size; omega) (by have := HB2.out.size; simp; omega))
    have X3 := Lib.hid (box_only (Box.alloc X2.out _) k3 hne3)
    have HK3 := Lib.hid k3
    clear p3 k3
    have r0 := X3.out.cell 0
    have r1 := X3.out.cell 1
    have r2 := X3.out.cell 2
    have r3 := X3.out.cell 3
    have z0 := X3.out.free 0
    have z1 := X3.out.free 1
    have z2 := X3.out.free 2
    have z3 := X3.out.free 3
    simp only [List.getElem?_toArray, List.getElem?_cons_zero, List.getElem?_cons_succ] at r0 r1 r2 r3
    cases R with
    | ok v r =>
      obtain ⟨rfl, hz, hrow⟩ := hR
      have hrl := hlen y r rfl
      obtain ⟨S, hS⟩ : ∃ S, S = bat r := ⟨_, rfl⟩
      rw [← hS] at hz
      have hSs : S.size = r.length := by rw [hS, bat_size]
      have HZ := Lib.hid ((Rs.keep hz ((Below.refl _ w2).alloc (Nat.le_refl _) (.cells z4 25))).only HK3.out hne4)
      have HR3 : Hid (SRow w3 w.heap.size (.slice A y.l.length cap) (y.l.map bat)) := Lib.hid (SRow.lower (row_only (SRow.alloc hrow _) HK3.out (fun x hx => by rw [List.mem_singleton] at hx; subst hx; exact row_box (SRow.alloc hrow _) (Box.new w2 25 z4) (by decide))) (by have := HB1.out.size; simp; omega))
      have e1 : ((s.size : Int) - (r.length : Int)) = ((s.size - r.length : Nat) : Int) := by omega
      clear hz hrow hlen hS
      have d0 := HZ.out.c0
      have d1 := HZ.out.c1
      have c0 := P3.out.cell 0
      have c1 := P3.out.cell 1
      have c2 := P3.out.cell 2
      have c3 := P3.out.cell 3
      simp only [List.getElem?_toArray, List.getElem?_cons_zero, List.getElem?_cons_succ] at c0 c1 c2 c3
      go_wp2_with fail
      go_region
      go_wp2_with fail
      refine ret_r3 Tryd.results30 rfl rfl rfl rfl (Box.drew ((((X3.out.set 0 _).set 1 _).set 2 _).set 3 _)) ?_
      have hon : Only [w.heap.size] w3 ((((((w3.setCell ⟨w.heap.size, 0, none⟩ (.int .i64 y.k)).setCell ⟨w.heap.size, 1, none⟩ (.string (bat y.t))).setCell ⟨w.heap.size, 2, none⟩ (.int .i64 y.n)).setCell ⟨w.heap.size, 3, none⟩ (.slice A y.l.length cap))).drew) :=
        (((((Only.refl [w.heap.size] w3).set (by simp) _).set (by simp) _).set (by simp) _).set (by simp) _).drewN 1
      refine ⟨⟨A, cap, (by first | rfl | (rw [← e1]; rfl)), row_only HR3.out hon (fun x hx => by rw [List.mem_singleton] at hx; subst hx; exact row_box HR3.out X3.out (by decide))⟩, ?_⟩
      · exact ((((HB3.out.setCell (by simp) _).setCell (by simp) _).setCell (by simp) _).setCell (by simp) _).drew
    | err k =>
      obtain ⟨hk0, s', hz⟩ := hR
      have HZ := Lib.hid ((Rs.keep hz ((Below.refl _ w2).alloc (Nat.le_refl _) (.cells z4 25))).only HK3.out hne4)
      have hkk : ((k : Int) != 0) = true := by simp; omega
      clear hz hlen
      have d1 := HZ.out.c1
      go_wp2_with fail
      go_region
      go_wp2_with fail
      refine ret_r3 Tryd.results30 rfl rfl rfl rfl (Box.drew ((((X3.out.set 0 _).set 1 _).set 2 _).set 3 _)) ?_
      exact ⟨⟨none, 0, rfl, rd4z _⟩, ((((HB3.out.setCell (by simp) _).setCell (by simp) _).setCell (by simp) _).setCell (by simp) _).drew⟩
end Ry
end Go.Proofs.YtflmolhkbpicbaaDoor
