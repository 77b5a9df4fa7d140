/-
  What the document's own Decode answers, on, in any world.
-/
import Derived.Test.YtflmolhkbpicbaaDoorKRpyDcT
namespace Go.Proofs.YtflmolhkbpicbaaDoor.Ry
open Go.RowKit

set_option maxHeartbeats 1000000 in
set_option maxRecDepth 100000 in
theorem decode_num (a : Addr) (cap : Nat) (c : UInt8) (l : Bytes) (w : World) (hA : Bts w (some a) (c :: l)) (hl : l.length ≤ 65000) (hcap : l.length + 1 ≤ cap) (hc : c = 58) :
    Calls Tryd.prog 20 #[.slice (some a) (l.length + 1) cap] w fun e w' => DecRes (decR (c :: l)) (l.length + 1) w.heap.size e w' ∧ Below w.heap.size w w' := by
  have hi : ∀ w', Bts w' (some a) (c :: l) → w'.cell? (a.add 0) = some (.int .u8 (c.toNat : Int)) := fun w' h => by
    obtain ⟨a', e, hc⟩ := h.at_ (i := 0) (by simp)
    injection e with e
    subst e
    exact hc
  have HA := Lib.hid hA
  have HI := Lib.hid hi
  have hi2 : ∀ w', Bts w' (some a) (c :: l) → w'.cell? a = some (.int .u8 (c.toNat : Int)) := fun w' h => by have := hi w' h; simpa [Addr.add] using this
  have HI2 := Lib.hid hi2
  clear hA hi hi2
  have j1 : ((l.length : Int) + 1 == 0) = false := by rw [beq_eq_false_iff_ne]; omega
  go_enter Tryd.func20, Tryd.ntmps20
  have hA1 := HA.out.keep ((Below.refl w.heap.size w).alloc (Nat.le_refl _) (.cells #[.int .i64 0, .string ⟨#[]⟩, .int .i64 0, .slice none 0 0] 25))
  have t43 : ((c.toNat : Int) == 43) = false := by subst hc; rfl
  have t45 : ((c.toNat : Int) == 45) = false := by subst hc; rfl
  have t58 : ((c.toNat : Int) == 58) = true := by subst hc; rfl
  by_cases hc1 : cap = 1
  · obtain rfl : l = [] := List.eq_nil_of_length_eq_zero (by omega)
    subst hc1
    have g0 : (convert 32 9 (.slice (some a) 0 0)).run Tryd.prog (w.alloc (.cells #[.int .i64 0, .string ⟨#[]⟩, .int .i64 0, .slice none 0 0] 25)) = .ok (.string (bat [])) (w.alloc (.cells #[.int .i64 0, .string ⟨#[]⟩, .int .i64 0, .slice none 0 0] 25)) := by
      have := conv_bts hA1 0 0 0 (by omega)
      simpa [Addr.add] using this
    clear hA1
    obtain ⟨hb, x1, x2, x3⟩ := three_boxes w 25 57 25 #[.int .i64 0, .string ⟨#[]⟩, .int .i64 0, .slice none 0 0] #[.string (bat []), .int .i64 0] #[.int .i64 0, .string ⟨#[]⟩, .int .i64 0, .slice none 0 0]
    have b1 := HI2.out _ (HA.out.keep hb)
    have HB := Lib.hid hb
    have X1 := Lib.hid x1
    have X2 := Lib.hid x2
    have X3 := Lib.hid x3
    clear hb x1 x2 x3
    have NC := fun w => number_calls (bat ([] : Bytes)) (-9223372036854775808) 9223372036854775807 w (by rw [bat_size]; first | omega | simp) (by omega) (by omega) (by omega) (by omega)
    rw [show (bat ([] : Bytes)).data.toList = ([] : Bytes) from rfl] at NC
    cases hq : numR (-9223372036854775808) 9223372036854775807 ([] : Bytes) with
    | err q =>
      rw [hq] at NC
      have HE : Hid (decR (c :: ([] : Bytes)) = .err q) := Lib.hid (by subst hc; simp [decR, mapR, hq])
      have hqq := num_k (by omega) (by omega) hq
      have HQQ := Lib.hid hqq
      have hq0 : (((q : Nat) : Int) != 0) = true := by rw [bne_iff_ne]; omega
      clear hq hqq
      go_wp2_with fail
      refine (NC _).mono ?_
      rintro e w1 ⟨⟨s3, c3, rfl⟩, hb1⟩
      have HB0 := Lib.hid (HB.out.trans (hb1.mono HB.out.size))
      have HB1 := Lib.hid (HB0.out.alloc HB0.out.size (.cells #[.string s3, .int .i64 (q : Nat)] 57))
      have Y1 := Lib.hid ((X1.out.keep hb1).alloc (.cells #[.string s3, .int .i64 (q : Nat)] 57))
      have Y2 := Lib.hid ((X2.out.keep hb1).alloc (.cells #[.string s3, .int .i64 (q : Nat)] 57))
      have Y3 := Lib.hid ((X3.out.keep hb1).alloc (.cells #[.string s3, .int .i64 (q : Nat)] 57))
      clear hb1 X1 X2 X3 HB HB0
      clear NC
      go_wp2_with (refine wpList_store_box rfl 57 _ _ rfl (w.heap.size + 1) _ rfl rfl _ Y2.out t_size rfl (by simp [Value.oneCell']) ?_)
      intro w2 p2
      have Z1 := Lib.hid (p2.far _ _ _ (by omega) Y1.out)
      have Z2 := Lib.hid p2.box
      have Z3 := Lib.hid (p2.far _ _ _ (by omega) Y3.out)
      have HB2 := Lib.hid (p2.below _ _ (by omega) HB1.out)
      clear p2 Y1 Y2 Y3 HB1
      go_wp2_with (refine wpList_store_box rfl 25 _ _ rfl (w.heap.size + 1 + 1) _ rfl rfl _ Z3.out r_size rfl (by simp [Value.oneCell']) ?_)
      intro w3 p3
      have X1 := Lib.hid (p3.far _ _ _ (by omega) Z1.out)
      have X2 := Lib.hid (p3.far _ _ _ (by omega) Z2.out)
      have X3 := Lib.hid p3.box
      have HB := Lib.hid (p3.below _ _ (by omega) HB2.out)
      clear p3 Z1 Z2 Z3 HB2
      have c0 := X2.out.cell 0
      have c1 := X2.out.cell 1
      have r0 := X1.out.cell 0
      have r1 := X1.out.cell 1
      have r2 := X1.out.cell 2
      have r3 := X1.out.cell 3
      have z0 := X1.out.free 0
      have z1 := X1.out.free 1
      have z2 := X1.out.free 2
      have z3 := X1.out.free 3
      simp only [List.getElem?_toArray, List.getElem?_cons_zero, List.getElem?_cons_succ] at c0 c1 r0 r1 r2 r3
      go_wp2_with fail
      go_region
      go_wp2_with fail
      refine ret_r3 Tryd.results20 rfl rfl rfl rfl (Box.drew ((((X1.out.set 0 _).set 1 _).set 2 _).set 3 _)) ?_
      rw [HE.out]
      exact ⟨rfl, ((((HB.out.setCell (by simp) _).setCell (by simp) _).setCell (by simp) _).setCell (by simp) _).drew⟩
    | ok n r =>
      have HE : Hid (decR (c :: ([] : Bytes)) = .ok ⟨3, [], n, []⟩ r) := Lib.hid (by subst hc; simp [decR, mapR, hq])
      rw [hq] at NC
      have hrl : r.length ≤ ([] : Bytes).length := by
        obtain ⟨e2, _⟩ := num_ok hq
        rw [e2, List.length_append]; omega
      obtain ⟨S, hS⟩ : ∃ S, S = bat r := ⟨_, rfl⟩
      have hSs : S.size = r.length := by rw [hS, bat_size]
      have TC2 : ∀ w, Calls Tryd.prog 32 #[tv (bat ([] : Bytes)) 0, .int .i64 (-9223372036854775808), .int .i64 9223372036854775807] w fun e w' => e = .returned (.tuple #[tv S 0, .int .i64 n]) ∧ Below w.heap.size w w' := fun w => by rw [hS]; exact NC w
      have e1 : (([] : Bytes).length : Int) + 1 - (S.size : Int) = ((([] : Bytes).length + 1 - r.length : Nat) : Int) := by omega
      clear NC hS hq
      go_wp2_with fail
      refine (TC2 _).mono ?_
      rintro e w1 ⟨rfl, hb1⟩
      have HB0 := Lib.hid (HB.out.trans (hb1.mono HB.out.size))
      have HB1 := Lib.hid (HB0.out.alloc HB0.out.size (.cells #[.string S, .int .i64 0] 57))
      have Y1 := Lib.hid ((X1.out.keep hb1).alloc (.cells #[.string S, .int .i64 0] 57))
      have Y2 := Lib.hid ((X2.out.keep hb1).alloc (.cells #[.string S, .int .i64 0] 57))
      have Y3 := Lib.hid ((X3.out.keep hb1).alloc (.cells #[.string S, .int .i64 0] 57))
      clear hb1 X1 X2 X3 HB HB0
      clear TC2
      go_wp2_with (refine wpList_store_box rfl 57 _ _ rfl (w.heap.size + 1) _ rfl rfl _ Y2.out t_size rfl (by simp [Value.oneCell']) ?_)
      intro w2 p2
      have Z1 := Lib.hid (p2.far _ _ _ (by omega) Y1.out)
      have Z2 := Lib.hid p2.box
      have Z3 := Lib.hid (p2.far _ _ _ (by omega) Y3.out)
      have HB2 := Lib.hid (p2.below _ _ (by omega) HB1.out)
      clear p2 Y1 Y2 Y3 HB1
      go_wp2_with (refine wpList_store_box rfl 25 _ _ rfl (w.heap.size + 1 + 1) _ rfl rfl _ Z3.out r_size rfl (by simp [Value.oneCell']) ?_)
      intro w3 p3
      have X1 := Lib.hid (p3.far _ _ _ (by omega) Z1.out)
      have X2 := Lib.hid (p3.far _ _ _ (by omega) Z2.out)
      have X3 := Lib.hid p3.box
      have HB := Lib.hid (p3.below _ _ (by omega) HB2.out)
      clear p3 Z1 Z2 Z3 HB2
      have c0 := X2.out.cell 0
      have c1 := X2.out.cell 1
      have r0 := X1.out.cell 0
      have r1 := X1.out.cell 1
      have r2 := X1.out.cell 2
      have r3 := X1.out.cell 3
      have z0 := X1.out.free 0
      have z1 := X1.out.free 1
      have z2 := X1.out.free 2
      have z3 := X1.out.free 3
      have d0 := X3.out.cell 0
      have d1 := X3.out.cell 1
      have d2 := X3.out.cell 2
      have d3 := X3.out.cell 3
      simp only [List.getElem?_toArray, List.getElem?_cons_zero, List.getElem?_cons_succ] at c0 c1 r0 r1 r2 r3 d0 d1 d2 d3
      go_wp2_with fail
      go_region
      go_wp2_with fail
      refine ret_r3 Tryd.results20 rfl rfl rfl rfl (Box.drew ((((X1.out.set 0 _).set 1 _).set 2 _).set 3 _)) ?_
      rw [HE.out]
      refine ⟨⟨none, 0, ?_, SRow.nil _ _⟩, ((((HB.out.setCell (by simp) _).setCell (by simp) _).setCell (by simp) _).setCell (by simp) _).drew⟩
      refine ret_num ?_
      first | omega | (simp only [List.length_nil] at hrl ⊢; omega)
  · have g0 : (convert 32 9 (.slice (some ⟨a.block, a.off + 1, none⟩) l.length (cap - 1))).run Tryd.prog (w.alloc (.cells #[.int .i64 0, .string ⟨#[]⟩, .int .i64 0, .slice none 0 0] 25)) = .ok (.string (bat l)) (w.alloc (.cells #[.int .i64 0, .string ⟨#[]⟩, .int .i64 0, .slice none 0 0] 25)) := by
      have := conv_bts hA1 1 l.length (cap - 1) (by simp; omega)
      rw [addS a 0] at this
      simpa using this
    have hc2 : ¬ cap ≤ 1 := by omega
    have hc3 : 1 < cap := by omega
    clear hA1 hc1
    obtain ⟨hb, x1, x2, x3⟩ := three_boxes w 25 57 25 #[.int .i64 0, .string ⟨#[]⟩, .int .i64 0, .slice none 0 0] #[.string (bat l), .int .i64 0] #[.int .i64 0, .string ⟨#[]⟩, .int .i64 0, .slice none 0 0]
    have b1 := HI2.out _ (HA.out.keep hb)
    have HB := Lib.hid hb
    have X1 := Lib.hid x1
    have X2 := Lib.hid x2
    have X3 := Lib.hid x3
    clear hb x1 x2 x3
    have NC := fun w => number_calls (bat l) (-9223372036854775808) 9223372036854775807 w (by rw [bat_size]; first | omega | simp) (by omega) (by omega) (by omega) (by omega)
    rw [show (bat l).data.toList = l from rfl] at NC
    cases hq : numR (-9223372036854775808) 9223372036854775807 l with
    | err q =>
      rw [hq] at NC
      have HE : Hid (decR (c :: l) = .err q) := Lib.hid (by subst hc; simp [decR, mapR, hq])
      have hqq := num_k (by omega) (by omega) hq
      have HQQ := Lib.hid hqq
      have hq0 : (((q : Nat) : Int) != 0) = true := by rw [bne_iff_ne]; omega
      clear hq hqq
      go_wp2_with fail
      refine (NC _).mono ?_
      rintro e w1 ⟨⟨s3, c3, rfl⟩, hb1⟩
      have HB0 := Lib.hid (HB.out.trans (hb1.mono HB.out.size))
      have HB1 := Lib.hid (HB0.out.alloc HB0.out.size (.cells #[.string s3, .int .i64 (q : Nat)] 57))
      have Y1 := Lib.hid ((X1.out.keep hb1).alloc (.cells #[.string s3, .int .i64 (q : Nat)] 57))
      have Y2 := Lib.hid ((X2.out.keep hb1).alloc (.cells #[.string s3, .int .i64 (q : Nat)] 57))
      have Y3 := Lib.hid ((X3.out.keep hb1).alloc (.cells #[.string s3, .int .i64 (q : Nat)] 57))
      clear hb1 X1 X2 X3 HB HB0
      clear NC
      go_wp2_with (refine wpList_store_box rfl 57 _ _ rfl (w.heap.size + 1) _ rfl rfl _ Y2.out t_size rfl (by simp [Value.oneCell']) ?_)
      intro w2 p2
      have Z1 := Lib.hid (p2.far _ _ _ (by omega) Y1.out)
      have Z2 := Lib.hid p2.box
      have Z3 := Lib.hid (p2.far _ _ _ (by omega) Y3.out)
      have HB2 := Lib.hid (p2.below _ _ (by omega) HB1.out)
      clear p2 Y1 Y2 Y3 HB1
      go_wp2_with (refine wpList_store_box rfl 25 _ _ rfl (w.heap.size + 1 + 1) _ rfl rfl _ Z3.out r_size rfl (by simp [Value.oneCell']) ?_)
      intro w3 p3
      have X1 := Lib.hid (p3.far _ _ _ (by omega) Z1.out)
      have X2 := Lib.hid (p3.far _ _ _ (by omega) Z2.out)
      have X3 := Lib.hid p3.box
      have HB := Lib.hid (p3.below _ _ (by omega) HB2.out)
      clear p3 Z1 Z2 Z3 HB2
      have c0 := X2.out.cell 0
      have c1 := X2.out.cell 1
      have r0 := X1.out.cell 0
      have r1 := X1.out.cell 1
      have r2 := X1.out.cell 2
      have r3 := X1.out.cell 3
      have z0 := X1.out.free 0
      have z1 := X1.out.free 1
      have z2 := X1.out.free 2
      have z3 := X1.out.free 3
      simp only [List.getElem?_toArray, List.getElem?_cons_zero, List.getElem?_cons_succ] at c0 c1 r0 r1 r2 r3
      go_wp2_with fail
      go_region
      go_wp2_with fail
      refine ret_r3 Tryd.results20 rfl rfl rfl rfl (Box.drew ((((X1.out.set 0 _).set 1 _).set 2 _).set 3 _)) ?_
      rw [HE.out]
      exact ⟨rfl, ((((HB.out.setCell (by simp) _).setCell (by simp) _).setCell (by simp) _).setCell (by simp) _).drew⟩
    | ok n r =>
      have HE : Hid (decR (c :: l) = .ok ⟨3, [], n, []⟩ r) := Lib.hid (by subst hc; simp [decR, mapR, hq])
      rw [hq] at NC
      have hrl : r.length ≤ l.length := by
        obtain ⟨e2, _⟩ := num_ok hq
        rw [e2, List.length_append]; omega
      obtain ⟨S, hS⟩ : ∃ S, S = bat r := ⟨_, rfl⟩
      have hSs : S.size = r.length := by rw [hS, bat_size]
      have TC2 : ∀ w, Calls Tryd.prog 32 #[tv (bat l) 0, .int .i64 (-9223372036854775808), .int .i64 9223372036854775807] w fun e w' => e = .returned (.tuple #[tv S 0, .int .i64 n]) ∧ Below w.heap.size w w' := fun w => by rw [hS]; exact NC w
      have e1 : (l.length : Int) + 1 - (S.size : Int) = ((l.length + 1 - r.length : Nat) : Int) := by omega
      clear NC hS hq
      go_wp2_with fail
      refine (TC2 _).mono ?_
      rintro e w1 ⟨rfl, hb1⟩
      have HB0 := Lib.hid (HB.out.trans (hb1.mono HB.out.size))
      have HB1 := Lib.hid (HB0.out.alloc HB0.out.size (.cells #[.string S, .int .i64 0] 57))
      have Y1 := Lib.hid ((X1.out.keep hb1).alloc (.cells #[.string S, .int .i64 0] 57))
      have Y2 := Lib.hid ((X2.out.keep hb1).alloc (.cells #[.string S, .int .i64 0] 57))
      have Y3 := Lib.hid ((X3.out.keep hb1).alloc (.cells #[.string S, .int .i64 0] 57))
      clear hb1 X1 X2 X3 HB HB0
      clear TC2
      go_wp2_with (refine wpList_store_box rfl 57 _ _ rfl (w.heap.size + 1) _ rfl rfl _ Y2.out t_size rfl (by simp [Value.oneCell']) ?_)
      intro w2 p2
      have Z1 := Lib.hid (p2.far _ _ _ (by omega) Y1.out)
      have Z2 := Lib.hid p2.box
      have Z3 := Lib.hid (p2.far _ _ _ (by omega) Y3.out)
      have HB2 := Lib.hid (p2.below _ _ (by omega) HB1.out)
      clear p2 Y1 Y2 Y3 HB1
      go_wp2_with (refine wpList_store_box rfl 25 _ _ rfl (w.heap.size + 1 + 1) _ rfl rfl _ Z3.out r_size rfl (by simp [Value.oneCell']) ?_)
      intro w3 p3
      have X1 := Lib.hid (p3.far _ _ _ (by omega) Z1.out)
      have X2 := Lib.hid (p3.far _ _ _ (by omega) Z2.out)
      have X3 := Lib.hid p3.box
      have HB := Lib.hid (p3.below _ _ (by omega) HB2.out)
      clear p3 Z1 Z2 Z3 HB2
      have c0 := X2.out.cell 0
      have c1 := X2.out.cell 1
      have r0 := X1.out.cell 0
      have r1 := X1.out.cell 1
      have r2 := X1.out.cell 2
      have r3 := X1.out.cell 3
      have z0 := X1.out.free 0
      have z1 := X1.out.free 1
      have z2 := X1.out.free 2
      have z3 := X1.out.free 3
      have d0 := X3.out.cell 0
      have d1 := X3.out.cell 1
      have d2 := X3.out.cell 2
      have d3 := X3.out.cell 3
      simp only [List.getElem?_toArray, List.getElem?_cons_zero, List.getElem?_cons_succ] at c0 c1 r0 r1 r2 r3 d0 d1 d2 d3
      go_wp2_with fail
      go_region
      go_wp2_with fail
      refine ret_r3 Tryd.results20 rfl rfl rfl rfl (Box.drew ((((X1.out.set 0 _).set 1 _).set 2 _).set 3 _)) ?_
      rw [HE.out]
      refine ⟨⟨none, 0, ?_, SRow.nil _ _⟩, ((((HB.out.setCell (by simp) _).setCell (by simp) _).setCell (by simp) _).setCell (by simp) _).drew⟩
      refine ret_num ?_
      first | omega | (simp only [List.length_nil] at hrl ⊢; omega)
end Go.Proofs.YtflmolhkbpicbaaDoor.Ry
