/-
  reply.Plain and reply.Right.
-/
import Derived.Test.YtflmolhkbpicbaaDoorKRpySmo
import Derived.Test.YtflmolhkbpicbaaDoorKRpyChg
namespace Go.Proofs.YtflmolhkbpicbaaDoor.Ry
open Go.RowKit

set_option maxRecDepth 100000 in
theorem rd4_row {w : World} {B : Nat} {x : Rep} {A : Option Addr} {c : Nat} (hT : x.k = 1 ∨ x.k = 2 → Tb w) (h : SRow w B (.slice A x.l.length c) (x.l.map bat)) : Rd4 w x A c := by
  obtain ⟨_, h1, h2⟩ := row_cap h
  rw [List.length_map] at h1
  exact ⟨(SRow.texts h).2, h1, h2, hT⟩

set_option maxRecDepth 100000 in
set_option maxHeartbeats 8000000 in
theorem plain_own (x : Rep) (A : Option Addr) (cap : Nat) (w : World) (hA : Rd4 w x A cap) (hl : longR x ≤ 3000) :
    Calls Tryd.prog 13 #[rv x A cap] w fun e w' => (∃ A' c', e = .returned (rv (plain x) A' c') ∧ SRow w' w.heap.size (.slice A' (plain x).l.length c') ((plain x).l.map bat)) ∧ Below w.heap.size w w' := by
  obtain ⟨k, t, n, l⟩ := x
  have ht : t.length ≤ 3000 := by unfold longR at hl; simp only at hl; omega
  have hll : l.length ≤ 3000 := by unfold longR at hl; have := txL_len l; simp only at hl; omega
  have HA := Lib.hid hA
  clear hA hl
  unfold rv
  have hb0 : Below w.heap.size w ((w.alloc (.cells #[.int .i64 k, .string (bat t), .int .i64 n, .slice A l.length cap] 25)).alloc (.cells z4 25)) := ((Below.refl _ w).alloc (Nat.le_refl _) _).alloc (by simp) _
  have X1 : Hid (Box ((w.alloc (.cells #[.int .i64 k, .string (bat t), .int .i64 n, .slice A l.length cap] 25)).alloc (.cells z4 25)) w.heap.size 25 #[.int .i64 k, .string (bat t), .int .i64 n, .slice A l.length cap]) := Lib.hid (Box.alloc (Box.new w _ _) _)
  have X2 : Hid (Box ((w.alloc (.cells #[.int .i64 k, .string (bat t), .int .i64 n, .slice A l.length cap] 25)).alloc (.cells z4 25)) (w.heap.size + 1) 25 z4) := Lib.hid (Box.new1 w _ _ _)
  have HB := Lib.hid hb0
  clear hb0
  by_cases h1 : k = 1
  · subst h1
    go_enter Tryd.func13, Tryd.ntmps13
    go_wp2_with fail
    generalize ((w.alloc (.cells #[.int .i64 1, .string (bat t), .int .i64 n, .slice A l.length cap] 25)).alloc (.cells z4 25)) = W at HB X1 X2 ⊢
    have HO := Lib.hid (fun w' (hb : Below W.heap.size W w') => oneline_calls (bat t) w' (by rw [bat_size]; omega) ((HA.out.tab (by simp) |>.keep HB.out).keep hb))
    rw [show (bat t).data.toList = t from rfl] at HO
    have q0 : W.cell? ⟨w.heap.size, 0, none⟩ = some (.int .i64 1) := X1.out.cell 0
    have q1 : W.cell? ⟨w.heap.size, 1, none⟩ = some (.string (bat t)) := X1.out.cell 1
    go_region_with (go_at_call 25; refine (HO.out _ (by first | exact Below.refl _ _ | exact Below.drew (Below.refl _ _) | exact Below.drew (Below.drew (Below.refl _ _)))).mono ?_; rintro x w1 ⟨rfl, hb1⟩; have K1 : Hid (Box w1 w.heap.size 25 #[.int .i64 1, .string (bat t), .int .i64 n, .slice A l.length cap]) := Lib.hid (by first | exact Box.keep X1.out hb1 | exact Box.keep (Box.drew X1.out) hb1); have K2 : Hid (Box w1 (w.heap.size + 1) 25 z4) := Lib.hid (by first | exact Box.keep X2.out hb1 | exact Box.keep (Box.drew X2.out) hb1); have KB : Hid (Below w.heap.size w w1) := Lib.hid (by first | exact HB.out.trans (hb1.mono HB.out.size) | exact (Below.drew HB.out).trans (hb1.mono HB.out.size)); have r0 : w1.cell? ⟨w.heap.size, 0, none⟩ = some (.int .i64 1) := K1.out.cell 0; have s0 : w1.cell? ⟨w.heap.size + 1, 0, none⟩ = some (.int .i64 0) := K2.out.cell 0; have s1 : w1.cell? ⟨w.heap.size + 1, 1, none⟩ = some (.string ⟨#[]⟩) := K2.out.cell 1; have s2 : w1.cell? ⟨w.heap.size + 1, 2, none⟩ = some (.int .i64 0) := K2.out.cell 2; have s3 : w1.cell? ⟨w.heap.size + 1, 3, none⟩ = some (.slice none 0 0) := K2.out.cell 3; have z0 := K2.out.free 0; have z1 := K2.out.free 1; have z2 := K2.out.free 2; have z3 := K2.out.free 3)
    all_goals
      go_wp2_with fail
      refine ret_r1 Tryd.results13 rfl rfl (by first | exact Box.drew ((((K2.out.set 0 _).set 1 _).set 2 _).set 3 _) | exact ((((K2.out.set 0 _).set 1 _).set 2 _).set 3 _)) ?_
      refine ⟨⟨none, 0, by simp [plain], by simp only [plain]; exact SRow.nil _ _⟩, ?_⟩
      first
        | exact ((((KB.out.setCell (by simp) _).setCell (by simp) _).setCell (by simp) _).setCell (by simp) _).drew
        | exact (((KB.out.setCell (by simp) _).setCell (by simp) _).setCell (by simp) _).setCell (by simp) _
  have b1 : (k == (1 : Int)) = false := by rw [beq_eq_false_iff_ne]; exact h1
  by_cases h2 : k = 2
  · subst h2
    go_enter Tryd.func13, Tryd.ntmps13
    go_wp2_with fail
    generalize ((w.alloc (.cells #[.int .i64 2, .string (bat t), .int .i64 n, .slice A l.length cap] 25)).alloc (.cells z4 25)) = W at HB X1 X2 ⊢
    have HO := Lib.hid (fun w' (hb : Below W.heap.size W w') => oneline_calls (bat t) w' (by rw [bat_size]; omega) ((HA.out.tab (by simp) |>.keep HB.out).keep hb))
    rw [show (bat t).data.toList = t from rfl] at HO
    have q0 : W.cell? ⟨w.heap.size, 0, none⟩ = some (.int .i64 2) := X1.out.cell 0
    have q1 : W.cell? ⟨w.heap.size, 1, none⟩ = some (.string (bat t)) := X1.out.cell 1
    go_region_with (go_at_call 25; refine (HO.out _ (by first | exact Below.refl _ _ | exact Below.drew (Below.refl _ _) | exact Below.drew (Below.drew (Below.refl _ _)))).mono ?_; rintro x w1 ⟨rfl, hb1⟩; have K1 : Hid (Box w1 w.heap.size 25 #[.int .i64 2, .string (bat t), .int .i64 n, .slice A l.length cap]) := Lib.hid (by first | exact Box.keep X1.out hb1 | exact Box.keep (Box.drew X1.out) hb1); have K2 : Hid (Box w1 (w.heap.size + 1) 25 z4) := Lib.hid (by first | exact Box.keep X2.out hb1 | exact Box.keep (Box.drew X2.out) hb1); have KB : Hid (Below w.heap.size w w1) := Lib.hid (by first | exact HB.out.trans (hb1.mono HB.out.size) | exact (Below.drew HB.out).trans (hb1.mono HB.out.size)); have r0 : w1.cell? ⟨w.heap.size, 0, none⟩ = some (.int .i64 2) := K1.out.cell 0; have s0 : w1.cell? ⟨w.heap.size + 1, 0, none⟩ = some (.int .i64 0) := K2.out.cell 0; have s1 : w1.cell? ⟨w.heap.size + 1, 1, none⟩ = some (.string ⟨#[]⟩) := K2.out.cell 1; have s2 : w1.cell? ⟨w.heap.size + 1, 2, none⟩ = some (.int .i64 0) := K2.out.cell 2; have s3 : w1.cell? ⟨w.heap.size + 1, 3, none⟩ = some (.slice none 0 0) := K2.out.cell 3; have z0 := K2.out.free 0; have z1 := K2.out.free 1; have z2 := K2.out.free 2; have z3 := K2.out.free 3)
    all_goals
      go_wp2_with fail
      refine ret_r1 Tryd.results13 rfl rfl (by first | exact Box.drew ((((K2.out.set 0 _).set 1 _).set 2 _).set 3 _) | exact ((((K2.out.set 0 _).set 1 _).set 2 _).set 3 _)) ?_
      refine ⟨⟨none, 0, by simp [plain], by simp only [plain]; exact SRow.nil _ _⟩, ?_⟩
      first
        | exact ((((KB.out.setCell (by simp) _).setCell (by simp) _).setCell (by simp) _).setCell (by simp) _).drew
        | exact (((KB.out.setCell (by simp) _).setCell (by simp) _).setCell (by simp) _).setCell (by simp) _
  have b2 : (k == (2 : Int)) = false := by rw [beq_eq_false_iff_ne]; exact h2
  by_cases h3 : k = 3
  · subst h3
    go_enter Tryd.func13, Tryd.ntmps13
    go_wp2_with (refine wpList_store_only rfl 25 _ _ rfl (w.heap.size + 1) _ rfl rfl _ X2.out r_size rfl (by simp [Value.oneCell']) ?_)
    intro w2 p2 k2
    have P2 := Lib.hid p2
    have B2 := Lib.hid (k2.below HB.out (fun x hx => by simp at hx; omega) HB.out.size)
    clear p2 k2
    go_wp2_with fail
    refine ret_r1 Tryd.results13 rfl rfl P2.out ?_
    exact ⟨⟨none, 0, by simp [plain], by simp only [plain]; exact SRow.nil _ _⟩, B2.out⟩
  have b3 : (k == (3 : Int)) = false := by rw [beq_eq_false_iff_ne]; exact h3
  by_cases h4 : k = 4
  · subst h4
    go_enter Tryd.func13, Tryd.ntmps13
    go_wp2_with (refine wpList_store_only rfl 25 _ _ rfl (w.heap.size + 1) _ rfl rfl _ X2.out r_size rfl (by simp [Value.oneCell']) ?_)
    intro w2 p2 k2
    have P2 := Lib.hid p2
    have B2 := Lib.hid (k2.below HB.out (fun x hx => by simp at hx; omega) HB.out.size)
    clear p2 k2
    go_wp2_with fail
    refine ret_r1 Tryd.results13 rfl rfl P2.out ?_
    exact ⟨⟨none, 0, by simp [plain], by simp only [plain]; exact SRow.nil _ _⟩, B2.out⟩
  have b4 : (k == (4 : Int)) = false := by rw [beq_eq_false_iff_ne]; exact h4
  by_cases h6 : k = 6
  · subst h6
    have HC := Lib.hid (fun w' (hb : Below w.heap.size w w') => clone_calls A cap (l.map bat) w' (HA.out.txs.keep hb) (by rw [List.length_map]; exact HA.out.le) HA.out.nil (by rw [List.length_map]; omega))
    rw [List.length_map] at HC
    go_enter Tryd.func13, Tryd.ntmps13
    go_wp2_with fail
    refine (HC.out _ HB.out).mono ?_
    rintro x w1 ⟨A', c', rfl, hrow, hb1⟩
    have K2 := Lib.hid (Box.keep X2.out hb1)
    have KB := Lib.hid (HB.out.trans (hb1.mono HB.out.size))
    have HR := Lib.hid hrow
    clear hb1 hrow
    go_wp2_with (refine wpList_store_only rfl 25 _ _ rfl (w.heap.size + 1) _ rfl rfl _ K2.out r_size rfl (by simp [Value.oneCell']) ?_)
    intro w2 p2 k2
    have P2 := Lib.hid p2
    have B2 := Lib.hid (k2.below KB.out (fun x hx => by simp at hx; omega) KB.out.size)
    have R2 := Lib.hid (row_only HR.out k2 (fun x hx => by rw [List.mem_singleton] at hx; subst hx; exact row_box HR.out K2.out (by decide)))
    clear p2 k2
    go_wp2_with fail
    refine ret_r1 Tryd.results13 rfl rfl P2.out ?_
    have hp : plain ⟨6, t, n, l⟩ = ⟨6, [], 0, l⟩ := by simp [plain]
    rw [hp]
    exact ⟨⟨A', c', rfl, SRow.lower R2.out HB.out.size⟩, B2.out⟩
  have b6 : (k == (6 : Int)) = false := by rw [beq_eq_false_iff_ne]; exact h6
  have hp : plain ⟨k, t, n, l⟩ = ⟨5, [], 0, []⟩ := by simp [plain, h1, h2, h3, h4, h6]
  rw [hp]
  clear h1 h2 h3 h4 h6 hp
  go_enter Tryd.func13, Tryd.ntmps13
  go_wp2_with (refine wpList_store_only rfl 25 _ _ rfl (w.heap.size + 1) _ rfl rfl _ X2.out r_size rfl (by simp [Value.oneCell']) ?_)
  intro w2 p2 k2
  have P2 := Lib.hid p2
  have B2 := Lib.hid (k2.below HB.out (fun x hx => by simp at hx; omega) HB.out.size)
  clear p2 k2
  go_wp2_with fail
  refine ret_r1 Tryd.results13 rfl rfl P2.out ?_
  exact ⟨⟨none, 0, rfl, SRow.nil _ _⟩, B2.out⟩
end Go.Proofs.YtflmolhkbpicbaaDoor.Ry
