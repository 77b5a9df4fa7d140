/-
  What the document's own logged answers, in any world.
-/
import Derived.Test.YtljaemiggeeghaaWinRfD
namespace Go.Proofs.Ytljaemiggeeghaa
open Go.RowKit
attribute [local go_sem ↓] Go.wp_at_zero Go.wp_at_succ
namespace Wn

theorem wpList_append_src2 {w : World} {ops : Array Oper} {rest : List Oper} {o : Oper} {a : Act} {Q : Exit → Act → World → Prop} (hgd : o.guard = none) (s x : Operand)
    (ho : o.op = .call { callee := .builtin .append, args := #[s, x], argTypes := #[30, 30] })
    (hs : a.eval s = .slice none 0 0) (B base : Nat) (v : Value) (k : List (Int × Int)) (e : Int × Int) (hx : a.eval x = v) (hown : Own w B v (k ++ [e])) (hn : (k ++ [e]).length ≤ 1000) (hbase : base ≤ w.heap.size)
    (h : ∀ g cap w', Own w' base (.slice (some ⟨g, 0, none⟩) (k.length + 1) cap) (k ++ [e]) → Below w.heap.size w w' → wpList Try.prog ops Q rest (a.put o.dst (.slice (some ⟨g, 0, none⟩) (k.length + 1) cap)) w') : wpList Try.prog ops Q (o :: rest) a w := by
  refine wpList_append_src hgd s x ho hs B base v (k ++ [e]) hx hown hn hbase fun v' w' h2 h3 => ?_
  obtain ⟨g, cap, rfl, _⟩ := h2.last
  exact h g cap w' h2 h3
theorem Own.drew {w : World} {B : Nat} {v : Value} {l : List (Int × Int)} (h : Own w B v l) : Own w.drew B v l := h.keep (Below.refl _ _).drew
theorem has_put {w : World} {B r : Nat} {tm hd : Int} {v : Value} {l : List (Int × Int)} (h : Own w B v l) (hr : r < B) (cs : Array Value) (C : Nat) (hC : C ≤ B) : Has (w.setRow r cs) C (.agg (scells tm 0 hd v)) ⟨tm, 0, hd, l⟩ := ⟨_, rfl, (h.setRow hr cs).mono hC⟩

set_option maxHeartbeats 8000000 in
theorem rlogged_nil (p : Pol) (tm lv hd : Int) (v : Value) (cost : Int) (B : Nat) (w : World) (ho : Own w B v []) :
    Calls Try.prog 38 #[p.val, .agg (scells tm lv hd v), .int .i64 cost] w fun e w' => ∃ v', e = .returned v' ∧ Has w' w.heap.size v' ⟨tm, 0, hd, put p tm [] cost⟩ ∧ Below w.heap.size w w' := by
  obtain ⟨A, cap, rfl, -⟩ := ho.ents
  have HO := Lib.hid ho
  have HB3 := Lib.hid (below_three w p.box (.cells (scells tm lv hd (.slice A 0 cap)) 32) (.cells (scells 0 0 0 (.slice none 0 0)) 32))
  have HSZ := Lib.hid (show w.heap.size + 1 + 1 + 1 ≤ (((w.alloc p.box).alloc (.cells (scells tm lv hd (.slice A 0 cap)) 32)).alloc (.cells (scells 0 0 0 (.slice none 0 0)) 32)).heap.size by simp)
  clear ho
  unfold Pol.val
  simp only [List.length_nil] at HO HB3 HSZ ⊢
  go_enter Try.func38, Try.ntmps38
  go_wp2_with (at_builtin; refine wpList_append_src rfl _ _ rfl rfl B (w.heap.size + 1 + 1 + 1) _ [] rfl (HO.out.keep HB3.out) (by simp) HSZ.out ?_)
  intro v1 w4 ho4 hb4
  have hb4 := hb4.mono (show (((w.alloc p.box).alloc (.cells (scells tm lv hd (.slice A 0 cap)) 32)).alloc (.cells (scells 0 0 0 (.slice none 0 0)) 32)).heap.size ≤ w.heap.size + 1 + 1 + 1 by simp)
  have BP := Lib.hid (Box.keep (Box.alloc (Box.alloc (Box.new w 23 (pcells p)) (.cells (scells tm lv hd (.slice A 0 cap)) 32)) (.cells (scells 0 0 0 (.slice none 0 0)) 32)) hb4)
  have BS := Lib.hid (Box.keep (Box.alloc (Box.new1 w 32 (scells tm lv hd (.slice A 0 cap)) p.box) (.cells (scells 0 0 0 (.slice none 0 0)) 32)) hb4)
  have BZ := Lib.hid (show Box w4 (w.heap.size + 1 + 1) 32 (scells 0 0 0 (.slice none 0 0)) from by unfold Box; rw [hb4.block _ (by simp)]; exact heap_alloc3_new _ _ _ _)
  have HO4 := Lib.hid ho4
  have HB4 := Lib.hid (HB3.out.trans (hb4.mono (by simp; omega)))
  have z4 : w.heap.size + 1 + 1 < w4.heap.size := BZ.out.lt
  clear hb4 ho4
  have e4 : w4.cell? ⟨w.heap.size, 4, none⟩ = some (.int .i64 p.cap) := BP.out.cell 4
  have d0 : w4.cell? ⟨w.heap.size + 1, 0, none⟩ = some (.int .i64 tm) := BS.out.cell 0
  have d2 : w4.cell? ⟨w.heap.size + 1, 2, none⟩ = some (.int .i64 hd) := BS.out.cell 2
  have zz0 : w.heap.size < w4.heap.size := by omega
  have zz1 : w.heap.size + 1 < w4.heap.size := by omega
  go_wp2_with fail
  go_quiet (fail)
  go_wp2_with (at_builtin; refine wpList_append_ent2 rfl _ _ rfl (w.heap.size + 1 + 1 + 1) v1 [] rfl ((HO4.out.drewN nq).alloc _) w4.heap.size tm cost rfl (heap_alloc_new (w4.drewN nq) _) (by simp) (by simp; omega) ?_)
  intro g6 cap6 w6 ho6 hgr6
  have BS6 := Lib.hid (((BS.out.drewN nq).alloc _).grownOwn ((HO4.out.drewN nq).alloc _) (by omega) hgr6)
  have BZ6 := Lib.hid (((BZ.out.drewN nq).alloc _).grownOwn ((HO4.out.drewN nq).alloc _) (by omega) hgr6)
  have HB6 := Lib.hid (((below_drewN HB4.out nq).alloc (by simp; omega) _).grown hgr6 (by simp; omega) (fun q hq => by have := (World.ownsRow.lt ((HO4.out.drewN nq).alloc (.cells #[.int .i64 tm, .int .i64 cost] 62)) q hq).1; omega))
  have HO6 := Lib.hid ho6
  have f0 : w6.cell? ⟨w.heap.size + 1, 0, none⟩ = some (.int .i64 tm) := BS6.out.cell 0
  have f2 : w6.cell? ⟨w.heap.size + 1, 2, none⟩ = some (.int .i64 hd) := BS6.out.cell 2
  clear hgr6 ho6 e4 d0 d2
  go_upto_region 8 with (fail)
  go_wp2_with (refine wpList_store_row rfl 32 _ _ rfl (w.heap.size + 1 + 1) (scells tm 0 hd (.slice (some ⟨g6, 0, none⟩) (0 + 1) cap6)) rfl rfl 32 _ BZ6.out st_size rfl (scells_one _ _ _ _ (slice_one _ _ _)) ?_)
  refine bodyPost_ret (v := .agg (scells tm 0 hd (.slice (some ⟨g6, 0, none⟩) (0 + 1) cap6))) (results_cell_row (p := 6) (ty := 32) Try.results38 _ _ (w.heap.size + 1 + 1) 32 _ (0, 0) _ rfl (setRow_heap _ _ _ _ _ _ BZ6.out) Try.underlying32 rfl st_size) rfl ⟨_, rfl, ?_, ?_⟩
  · exact has_put HO6.out (by omega) _ _ (by omega)
  · exact below_setRow HB6.out (by omega) _

set_option maxHeartbeats 8000000 in
theorem rlogged_in (p : Pol) (tm lv hd : Int) (v : Value) (k : List (Int × Int)) (e : Int × Int) (cost : Int) (B : Nat) (w : World) (ho : Own w B v (k ++ [e])) (hn : k.length < 1000) (h : e.1 = tm) (b1 : 0 ≤ e.2 ∧ e.2 ≤ 1048576) (b2 : 0 ≤ cost ∧ cost ≤ 1048576) :
    Calls Try.prog 38 #[p.val, .agg (scells tm lv hd v), .int .i64 cost] w fun e' w' => ∃ v', e' = .returned v' ∧ Has w' w.heap.size v' ⟨tm, 0, hd, put p tm (k ++ [e]) cost⟩ ∧ Below w.heap.size w w' := by
  obtain ⟨g, cap, rfl, hBg, hgw, hcap, -, -, -⟩ := ho.last
  have HO := Lib.hid ho
  have t1 : (e.1 == tm) = true := by simpa using h
  have H := Lib.hid (show e.1 = tm ∨ ((k.length : Int) + 1) = p.cap from .inl h)
  clear h
  have HB3 := Lib.hid (below_three w p.box (.cells (scells tm lv hd (.slice (some ⟨g, 0, none⟩) (k.length + 1) cap)) 32) (.cells (scells 0 0 0 (.slice none 0 0)) 32))
  have HSZ := Lib.hid (show w.heap.size + 1 + 1 + 1 ≤ (((w.alloc p.box).alloc (.cells (scells tm lv hd (.slice (some ⟨g, 0, none⟩) (k.length + 1) cap)) 32)).alloc (.cells (scells 0 0 0 (.slice none 0 0)) 32)).heap.size by simp)
  clear ho hBg hgw hcap
  unfold Pol.val
  go_enter Try.func38, Try.ntmps38
  go_wp2_with (at_builtin; refine wpList_append_src2 rfl _ _ rfl rfl B (w.heap.size + 1 + 1 + 1) _ k e rfl (HO.out.keep HB3.out) (by simp; omega) HSZ.out ?_)
  intro g4 cap4 w4 ho4 hb4
  have hb4 := hb4.mono (show (((w.alloc p.box).alloc (.cells (scells tm lv hd (.slice (some ⟨g, 0, none⟩) (k.length + 1) cap)) 32)).alloc (.cells (scells 0 0 0 (.slice none 0 0)) 32)).heap.size ≤ w.heap.size + 1 + 1 + 1 by simp)
  have BP := Lib.hid (Box.keep (Box.alloc (Box.alloc (Box.new w 23 (pcells p)) (.cells (scells tm lv hd (.slice (some ⟨g, 0, none⟩) (k.length + 1) cap)) 32)) (.cells (scells 0 0 0 (.slice none 0 0)) 32)) hb4)
  have BS := Lib.hid (Box.keep (Box.alloc (Box.new1 w 32 (scells tm lv hd (.slice (some ⟨g, 0, none⟩) (k.length + 1) cap)) p.box) (.cells (scells 0 0 0 (.slice none 0 0)) 32)) hb4)
  have BZ := Lib.hid (show Box w4 (w.heap.size + 1 + 1) 32 (scells 0 0 0 (.slice none 0 0)) from by unfold Box; rw [hb4.block _ (by simp)]; exact heap_alloc3_new _ _ _ _)
  have HO4 := Lib.hid ho4
  have HB4 := Lib.hid (HB3.out.trans (hb4.mono (by simp; omega)))
  have z4 : w.heap.size + 1 + 1 < w4.heap.size := BZ.out.lt
  obtain ⟨g', cap', hv', hBg4, hgw4, hcap4, c1, c2, c3⟩ := ho4.last
  injection hv' with hv1 hv2 hv3
  injection hv1 with hv1
  injection hv1 with hv1
  subst hv1
  subst hv3
  clear hv2 hb4 ho4
  have e4 : w4.cell? ⟨w.heap.size, 4, none⟩ = some (.int .i64 p.cap) := BP.out.cell 4
  have d0 : w4.cell? ⟨w.heap.size + 1, 0, none⟩ = some (.int .i64 tm) := BS.out.cell 0
  have d2 : w4.cell? ⟨w.heap.size + 1, 2, none⟩ = some (.int .i64 hd) := BS.out.cell 2
  have zz0 : w.heap.size < w4.heap.size := by omega
  have zz1 : w.heap.size + 1 < w4.heap.size := by omega
  have zn0 : ¬ (w.heap.size = g4) := by omega
  have zn1 : ¬ (w.heap.size + 1 = g4) := by omega
  have c3a := c3 (k.length * 2)
  have c3b := c3 (k.length * 2 + 1)
  clear c3
  have HZ6 := Lib.hid (show ∀ n x y, Box (((w4.drewN n).setCell ⟨g4, k.length * 2, none⟩ x).setCell ⟨g4, k.length * 2 + 1, none⟩ y) (w.heap.size + 1 + 1) 32 (scells 0 0 0 (.slice none 0 0)) from fun n x y => ((BZ.out.drewN n).far1 (by omega) _ _).far1 (by omega) _ _)
  go_wp2_with fail
  go_quiet (fail)
  go_upto_region 8 with (fail)
  go_wp2_with (refine wpList_store_row rfl 32 _ _ rfl (w.heap.size + 1 + 1) (scells tm 0 hd (.slice (some ⟨g4, 0, none⟩) (k.length + 1) cap4)) rfl rfl 32 _ (HZ6.out _ _ _) st_size rfl (scells_one _ _ _ _ (slice_one _ _ _)) ?_)
  refine bodyPost_ret (v := .agg (scells tm 0 hd (.slice (some ⟨g4, 0, none⟩) (k.length + 1) cap4))) (results_cell_row (p := 6) (ty := 32) Try.results38 _ _ (w.heap.size + 1 + 1) 32 _ (0, 0) _ rfl (setRow_heap _ _ _ _ _ _ (HZ6.out _ _ _)) Try.underlying32 rfl st_size) rfl ⟨_, rfl, ?_, ?_⟩
  · rw [put_in H.out]
    exact has_put ((HO4.out.drewN nq).set2 _ _) (by omega) _ _ (by omega)
  · exact below_setRow (((below_drewN HB4.out nq).setCell (by show w.heap.size ≤ g4; omega) _).setCell (by show w.heap.size ≤ g4; omega) _) (by omega) _

set_option maxHeartbeats 8000000 in
theorem rlogged_full (p : Pol) (tm lv hd : Int) (v : Value) (k : List (Int × Int)) (e : Int × Int) (cost : Int) (B : Nat) (w : World) (ho : Own w B v (k ++ [e])) (hn : k.length < 1000) (h : ¬ e.1 = tm) (h2 : (k.length : Int) + 1 = p.cap) (b1 : 0 ≤ e.2 ∧ e.2 ≤ 1048576) (b2 : 0 ≤ cost ∧ cost ≤ 1048576) :
    Calls Try.prog 38 #[p.val, .agg (scells tm lv hd v), .int .i64 cost] w fun e' w' => ∃ v', e' = .returned v' ∧ Has w' w.heap.size v' ⟨tm, 0, hd, put p tm (k ++ [e]) cost⟩ ∧ Below w.heap.size w w' := by
  obtain ⟨g, cap, rfl, hBg, hgw, hcap, -, -, -⟩ := ho.last
  have HO := Lib.hid ho
  have t1 : (e.1 == tm) = false := by simpa using h
  have t2 : ((k.length : Int) + 1 == p.cap) = true := by simpa using h2
  have H := Lib.hid (show e.1 = tm ∨ ((k.length : Int) + 1) = p.cap from .inr h2)
  clear h h2
  have HB3 := Lib.hid (below_three w p.box (.cells (scells tm lv hd (.slice (some ⟨g, 0, none⟩) (k.length + 1) cap)) 32) (.cells (scells 0 0 0 (.slice none 0 0)) 32))
  have HSZ := Lib.hid (show w.heap.size + 1 + 1 + 1 ≤ (((w.alloc p.box).alloc (.cells (scells tm lv hd (.slice (some ⟨g, 0, none⟩) (k.length + 1) cap)) 32)).alloc (.cells (scells 0 0 0 (.slice none 0 0)) 32)).heap.size by simp)
  clear ho hBg hgw hcap
  unfold Pol.val
  go_enter Try.func38, Try.ntmps38
  go_wp2_with (at_builtin; refine wpList_append_src2 rfl _ _ rfl rfl B (w.heap.size + 1 + 1 + 1) _ k e rfl (HO.out.keep HB3.out) (by simp; omega) HSZ.out ?_)
  intro g4 cap4 w4 ho4 hb4
  have hb4 := hb4.mono (show (((w.alloc p.box).alloc (.cells (scells tm lv hd (.slice (some ⟨g, 0, none⟩) (k.length + 1) cap)) 32)).alloc (.cells (scells 0 0 0 (.slice none 0 0)) 32)).heap.size ≤ w.heap.size + 1 + 1 + 1 by simp)
  have BP := Lib.hid (Box.keep (Box.alloc (Box.alloc (Box.new w 23 (pcells p)) (.cells (scells tm lv hd (.slice (some ⟨g, 0, none⟩) (k.length + 1) cap)) 32)) (.cells (scells 0 0 0 (.slice none 0 0)) 32)) hb4)
  have BS := Lib.hid (Box.keep (Box.alloc (Box.new1 w 32 (scells tm lv hd (.slice (some ⟨g, 0, none⟩) (k.length + 1) cap)) p.box) (.cells (scells 0 0 0 (.slice none 0 0)) 32)) hb4)
  have BZ := Lib.hid (show Box w4 (w.heap.size + 1 + 1) 32 (scells 0 0 0 (.slice none 0 0)) from by unfold Box; rw [hb4.block _ (by simp)]; exact heap_alloc3_new _ _ _ _)
  have HO4 := Lib.hid ho4
  have HB4 := Lib.hid (HB3.out.trans (hb4.mono (by simp; omega)))
  have z4 : w.heap.size + 1 + 1 < w4.heap.size := BZ.out.lt
  obtain ⟨g', cap', hv', hBg4, hgw4, hcap4, c1, c2, c3⟩ := ho4.last
  injection hv' with hv1 hv2 hv3
  injection hv1 with hv1
  injection hv1 with hv1
  subst hv1
  subst hv3
  clear hv2 hb4 ho4
  have e4 : w4.cell? ⟨w.heap.size, 4, none⟩ = some (.int .i64 p.cap) := BP.out.cell 4
  have d0 : w4.cell? ⟨w.heap.size + 1, 0, none⟩ = some (.int .i64 tm) := BS.out.cell 0
  have d2 : w4.cell? ⟨w.heap.size + 1, 2, none⟩ = some (.int .i64 hd) := BS.out.cell 2
  have zz0 : w.heap.size < w4.heap.size := by omega
  have zz1 : w.heap.size + 1 < w4.heap.size := by omega
  have zn0 : ¬ (w.heap.size = g4) := by omega
  have zn1 : ¬ (w.heap.size + 1 = g4) := by omega
  have c3a := c3 (k.length * 2)
  have c3b := c3 (k.length * 2 + 1)
  clear c3
  have HZ6 := Lib.hid (show ∀ n x y, Box (((w4.drewN n).setCell ⟨g4, k.length * 2, none⟩ x).setCell ⟨g4, k.length * 2 + 1, none⟩ y) (w.heap.size + 1 + 1) 32 (scells 0 0 0 (.slice none 0 0)) from fun n x y => ((BZ.out.drewN n).far1 (by omega) _ _).far1 (by omega) _ _)
  go_wp2_with fail
  go_quiet (fail)
  go_upto_region 8 with (fail)
  go_wp2_with (refine wpList_store_row rfl 32 _ _ rfl (w.heap.size + 1 + 1) (scells tm 0 hd (.slice (some ⟨g4, 0, none⟩) (k.length + 1) cap4)) rfl rfl 32 _ (HZ6.out _ _ _) st_size rfl (scells_one _ _ _ _ (slice_one _ _ _)) ?_)
  refine bodyPost_ret (v := .agg (scells tm 0 hd (.slice (some ⟨g4, 0, none⟩) (k.length + 1) cap4))) (results_cell_row (p := 6) (ty := 32) Try.results38 _ _ (w.heap.size + 1 + 1) 32 _ (0, 0) _ rfl (setRow_heap _ _ _ _ _ _ (HZ6.out _ _ _)) Try.underlying32 rfl st_size) rfl ⟨_, rfl, ?_, ?_⟩
  · rw [put_in H.out]
    exact has_put ((HO4.out.drewN nq).set2 _ _) (by omega) _ _ (by omega)
  · exact below_setRow (((below_drewN HB4.out nq).setCell (by show w.heap.size ≤ g4; omega) _).setCell (by show w.heap.size ≤ g4; omega) _) (by omega) _

set_option maxHeartbeats 8000000 in
theorem rlogged_new (p : Pol) (tm lv hd : Int) (v : Value) (k : List (Int × Int)) (e : Int × Int) (cost : Int) (B : Nat) (w : World) (ho : Own w B v (k ++ [e])) (hn : k.length < 1000) (h : ¬ e.1 = tm) (h2 : ¬ (k.length : Int) + 1 = p.cap) :
    Calls Try.prog 38 #[p.val, .agg (scells tm lv hd v), .int .i64 cost] w fun e' w' => ∃ v', e' = .returned v' ∧ Has w' w.heap.size v' ⟨tm, 0, hd, put p tm (k ++ [e]) cost⟩ ∧ Below w.heap.size w w' := by
  obtain ⟨g, cap, rfl, hBg, hgw, hcap, -, -, -⟩ := ho.last
  have HO := Lib.hid ho
  have t1 : (e.1 == tm) = false := by simpa using h
  have t2 : ((k.length : Int) + 1 == p.cap) = false := by simpa using h2
  have H := Lib.hid (put_new (p := p) (tm := tm) (cost := cost) (l := k) (e := e) (fun x => x.elim h h2))
  clear h h2
  have HB3 := Lib.hid (below_three w p.box (.cells (scells tm lv hd (.slice (some ⟨g, 0, none⟩) (k.length + 1) cap)) 32) (.cells (scells 0 0 0 (.slice none 0 0)) 32))
  have HSZ := Lib.hid (show w.heap.size + 1 + 1 + 1 ≤ (((w.alloc p.box).alloc (.cells (scells tm lv hd (.slice (some ⟨g, 0, none⟩) (k.length + 1) cap)) 32)).alloc (.cells (scells 0 0 0 (.slice none 0 0)) 32)).heap.size by simp)
  clear ho hBg hgw hcap
  unfold Pol.val
  go_enter Try.func38, Try.ntmps38
  go_wp2_with (at_builtin; refine wpList_append_src2 rfl _ _ rfl rfl B (w.heap.size + 1 + 1 + 1) _ k e rfl (HO.out.keep HB3.out) (by simp; omega) HSZ.out ?_)
  intro g4 cap4 w4 ho4 hb4
  have hb4 := hb4.mono (show (((w.alloc p.box).alloc (.cells (scells tm lv hd (.slice (some ⟨g, 0, none⟩) (k.length + 1) cap)) 32)).alloc (.cells (scells 0 0 0 (.slice none 0 0)) 32)).heap.size ≤ w.heap.size + 1 + 1 + 1 by simp)
  have BP := Lib.hid (Box.keep (Box.alloc (Box.alloc (Box.new w 23 (pcells p)) (.cells (scells tm lv hd (.slice (some ⟨g, 0, none⟩) (k.length + 1) cap)) 32)) (.cells (scells 0 0 0 (.slice none 0 0)) 32)) hb4)
  have BS := Lib.hid (Box.keep (Box.alloc (Box.new1 w 32 (scells tm lv hd (.slice (some ⟨g, 0, none⟩) (k.length + 1) cap)) p.box) (.cells (scells 0 0 0 (.slice none 0 0)) 32)) hb4)
  have BZ := Lib.hid (show Box w4 (w.heap.size + 1 + 1) 32 (scells 0 0 0 (.slice none 0 0)) from by unfold Box; rw [hb4.block _ (by simp)]; exact heap_alloc3_new _ _ _ _)
  have HO4 := Lib.hid ho4
  have HB4 := Lib.hid (HB3.out.trans (hb4.mono (by simp; omega)))
  have z4 : w.heap.size + 1 + 1 < w4.heap.size := BZ.out.lt
  obtain ⟨g', cap', hv', hBg4, hgw4, hcap4, c1, c2, c3⟩ := ho4.last
  injection hv' with hv1 hv2 hv3
  injection hv1 with hv1
  injection hv1 with hv1
  subst hv1
  subst hv3
  clear hv2 hb4 ho4
  have e4 : w4.cell? ⟨w.heap.size, 4, none⟩ = some (.int .i64 p.cap) := BP.out.cell 4
  have d0 : w4.cell? ⟨w.heap.size + 1, 0, none⟩ = some (.int .i64 tm) := BS.out.cell 0
  have d2 : w4.cell? ⟨w.heap.size + 1, 2, none⟩ = some (.int .i64 hd) := BS.out.cell 2
  have zz0 : w.heap.size < w4.heap.size := by omega
  have zz1 : w.heap.size + 1 < w4.heap.size := by omega
  have zn0 : ¬ (w.heap.size = g4) := by omega
  have zn1 : ¬ (w.heap.size + 1 = g4) := by omega
  have c3a := c3 (k.length * 2)
  have c3b := c3 (k.length * 2 + 1)
  clear c3
  go_wp2_with fail
  go_quiet (fail)
  go_wp2_with (at_builtin; refine wpList_append_ent2 rfl _ _ rfl (w.heap.size + 1 + 1 + 1) _ (k ++ [e]) rfl ((HO4.out.drewN nq).alloc _) w4.heap.size tm cost rfl (heap_alloc_new (w4.drewN nq) _) (by simp; omega) (by simp; omega) ?_)
  intro g6 cap6 w6 ho6 hgr6
  have BS6 := Lib.hid (((BS.out.drewN nq).alloc _).grownOwn ((HO4.out.drewN nq).alloc _) (by omega) hgr6)
  have BZ6 := Lib.hid (((BZ.out.drewN nq).alloc _).grownOwn ((HO4.out.drewN nq).alloc _) (by omega) hgr6)
  have HB6 := Lib.hid (((below_drewN HB4.out nq).alloc (by simp; omega) _).grown hgr6 (by simp; omega) (fun q hq => by have := (World.ownsRow.lt ((HO4.out.drewN nq).alloc (.cells #[.int .i64 tm, .int .i64 cost] 62)) q hq).1; omega))
  have HO6 := Lib.hid (show Own w6 (w.heap.size + 1 + 1 + 1) (.slice (some ⟨g6, 0, none⟩) (k.length + 1 + 1) cap6) (k ++ [e] ++ [(tm, cost)]) from by first | exact ho6 | simpa using ho6)
  have f0 : w6.cell? ⟨w.heap.size + 1, 0, none⟩ = some (.int .i64 tm) := BS6.out.cell 0
  have f2 : w6.cell? ⟨w.heap.size + 1, 2, none⟩ = some (.int .i64 hd) := BS6.out.cell 2
  clear hgr6 ho6 e4 d0 d2 c1 c2 c3a c3b
  go_upto_region 8 with (fail)
  go_wp2_with (refine wpList_store_row rfl 32 _ _ rfl (w.heap.size + 1 + 1) (scells tm 0 hd (.slice (some ⟨g6, 0, none⟩) (k.length + 1 + 1) cap6)) rfl rfl 32 _ BZ6.out st_size rfl (scells_one _ _ _ _ (slice_one _ _ _)) ?_)
  refine bodyPost_ret (v := .agg (scells tm 0 hd (.slice (some ⟨g6, 0, none⟩) (k.length + 1 + 1) cap6))) (results_cell_row (p := 6) (ty := 32) Try.results38 _ _ (w.heap.size + 1 + 1) 32 _ (0, 0) _ rfl (setRow_heap _ _ _ _ _ _ BZ6.out) Try.underlying32 rfl st_size) rfl ⟨_, rfl, ?_, ?_⟩
  · rw [H.out]
    exact has_put HO6.out (by omega) _ _ (by omega)
  · exact below_setRow HB6.out (by omega) _

theorem rlogged_calls (p : Pol) (s : St) (v : Value) (cost : Int) (B : Nat) (w : World) (ho : Own w B v s.log) (hn : s.log.length ≤ 1000) (hc : ∀ e ∈ s.log, 0 ≤ e.2 ∧ e.2 ≤ 1048576) (b2 : 0 ≤ cost ∧ cost ≤ 1048576) :
    Calls Try.prog 38 #[p.val, .agg (scells s.tm s.level s.held v), .int .i64 cost] w fun e' w' => ∃ v', e' = .returned v' ∧ Has w' w.heap.size v' ⟨s.tm, 0, s.held, put p s.tm s.log cost⟩ ∧ Below w.heap.size w w' := by
  rcases List.eq_nil_or_concat s.log with h | ⟨k, e, h⟩
  · rw [h] at ho ⊢; exact rlogged_nil p s.tm s.level s.held v cost B w ho
  · rw [List.concat_eq_append] at h
    rw [h] at ho hn hc ⊢
    rw [List.length_append, List.length_singleton] at hn
    have he := hc e (by simp)
    by_cases h1 : e.1 = s.tm
    · exact rlogged_in p s.tm s.level s.held v k e cost B w ho (by omega) h1 he b2
    · by_cases h2 : (k.length : Int) + 1 = p.cap
      · exact rlogged_full p s.tm s.level s.held v k e cost B w ho (by omega) h1 h2 he b2
      · exact rlogged_new p s.tm s.level s.held v k e cost B w ho (by omega) h1 h2
end Wn
end Go.Proofs.Ytljaemiggeeghaa
