/-
  Keys, Oldest.
-/
import Derived.Test.YtdnaecmihgcelaaTabM
import Derived.Test.YtdnaecmihgcelaaTabSame
import Derived.RangeFuncBox
namespace Go.Proofs.Ytdnaecmihgcelaa.Tb
open Go.RowKit Go.Shelf
attribute [local go_sem] Oper.semAt_some

theorem all_calls (ob : Nat) (w : World) : Calls Try.prog 36 #[.pointer (some ⟨ob, 0, none⟩)] w fun e w' => e = .returned (.func (.func 42) #[] #[.pointer (some ⟨w.heap.size, 0, none⟩)]) ∧ w' = w.alloc (.cells #[.pointer (some ⟨ob, 0, none⟩)] 60) := by
  go_enter Try.func36, Try.ntmps36
  go_wp2_with fail
  go_ret
  exact ⟨rfl, rfl⟩

theorem all_stops (n : Nat) (hn : 1 ≤ n) (Bn n0 : Nat) {L : Lay} {S : Sm} {ids : List Nat} (g : Good S ids) (hl : ∀ x ∈ L.own, x < n0) (w : World) (hB : Bn < w.heap.size) (hc : w.cell? ⟨Bn, 0, none⟩ = some (.pointer (some ⟨L.ob, 0, none⟩))) (h : At w L S) :
    SeqStopsK Fence.wide n Try.prog 42 #[.pointer (some ⟨Bn, 0, none⟩)] encs (KpT n0 Bn) (fun ys => ys = pairs S ids) (fun pre => pre <+: pairs S ids) ids.length w := fun l J Jx W hW hJ _ hY h0 =>
  all1_in n hn l Bn n0 g hl J Jx hJ hY W ((hW.cell (p := ⟨Bn, 0, none⟩) hB).trans hc) (h.below hW) h0

theorem str_parts : ∃ i, Try.prog.info? 9 = some i ∧ i.zero = some (.string ⟨#[]⟩) ∧ i.size = 1 ∧ i.bytes = 16 := by
  have h : (Try.prog.info? 9).map (fun i => (i.zero, i.size, i.bytes)) = some (some (.string ⟨#[]⟩), 1, 16) := by kernel_rfl
  obtain ⟨i, h, a, b, c⟩ := info_parts h
  exact ⟨i, h, a, b, c⟩
theorem make_strs (w : World) (n : Nat) (hn : n ≤ 10000) : (Instr.makeSlice 43 (.int .i64 0) (.int .i64 (n : Int))).run Try.prog w = .ok (.slice (some ⟨w.heap.size, 0, none⟩) 0 n) (w.alloc (.cells (madeCells #[.string ⟨#[]⟩] n) 9)) := by
  obtain ⟨i0, hi, hz0, hz1, hz2⟩ := str_parts
  have := run_make (P := Try.prog) w 43 9 i0 _ Try.underlying43 hi hz0 .i64 .i64 0 (n : Int) (by omega) (by omega) (by rw [hz2]; omega) (by omega)
  rw [hz1, Nat.mul_one] at this
  exact this

set_option maxRecDepth 100000 in
set_option maxHeartbeats 2000000 in
theorem Keys_calls {w : World} {own : List Nat} {t room : Nat} {l : PL} (h : Tbl w own t room l) :
    Calls Try.prog 20 #[.pointer (some ⟨t, 0, none⟩)] w fun e w' => ∃ v, e = .returned v ∧ w'.ownsRow w.heap.size 9 1 v l.length (l.map fun x => .string x.1) ∧ Below w.heap.size w w' := by
  obtain ⟨L, S, ids, a, g, s, rfl, rfl, rfl, ht, hn⟩ := h.ex
  have c1 : w.cell? ⟨t, 0, none⟩ = some (.pointer (some ⟨L.ob, 0, none⟩)) := by rw [cell_of_row _ _ _ _ _ _ ht]; rfl
  have zt : t < w.heap.size := (Array.getElem?_eq_some_iff.1 ht).1
  have hlen := g.len
  have nn := a.nn
  have hown : ∀ x ∈ L.own, x < w.heap.size := fun x hx => h.lt x (List.mem_cons_of_mem _ hx)
  have H := Lib.hid h
  have HA := Lib.hid a
  have hmk := fun W => make_strs W S.n nn
  obtain ⟨i0, hi, hz0, hz1, hz2⟩ := str_parts
  refine (callsIn_wide (n := 4)).1 ?_
  refine callsIn_of_wp_marks Try.func20 rfl trivial ?_ rfl
  simp only [Try.ntmps20, List.size_toArray, List.length_cons, List.length_nil, Nat.reduceAdd, Nat.reduceSub, Array.replicate_succ, Array.replicate_zero, List.push_toArray, List.append_toArray, List.nil_append, List.cons_append]
  gi_wp2_with (first | (refine ⟨trivial, ?_⟩; gi_at_call 32; refine (callsIn_wide.2 (made_calls H.out)).mono ?_; rintro e w1 ⟨rfl, rfl⟩) | (refine ⟨trivial, ?_⟩; gi_at_call 35; refine (callsIn_wide.2 (count_calls HA.out)).mono ?_; rintro e w1 ⟨rfl, rfl⟩) | (refine ⟨trivial, ?_⟩; gi_at_call 36; refine (callsIn_wide.2 (all_calls L.ob _)).mono ?_; rintro e w1 ⟨rfl, rfl⟩))
  have bR := heap3 w (.cells (madeCells #[.string ⟨#[]⟩] S.n) 9) (.cells #[.slice (some ⟨w.heap.size, 0, none⟩) 0 S.n] 43) (.cells #[.pointer (some ⟨L.ob, 0, none⟩)] 60)
  have hB0 : Below w.heap.size w (((w.alloc (.cells (madeCells #[.string ⟨#[]⟩] S.n) 9)).alloc (.cells #[.slice (some ⟨w.heap.size, 0, none⟩) 0 S.n] 43)).alloc (.cells #[.pointer (some ⟨L.ob, 0, none⟩)] 60)) := (((Below.refl _ _).alloc (Nat.le_refl _) _).alloc (by simp) _).alloc (by simp; omega) _
  have hsz : (((w.alloc (.cells (madeCells #[.string ⟨#[]⟩] S.n) 9)).alloc (.cells #[.slice (some ⟨w.heap.size, 0, none⟩) 0 S.n] 43)).alloc (.cells #[.pointer (some ⟨L.ob, 0, none⟩)] 60)).heap.size = w.heap.size + 3 := by simp
  generalize (((w.alloc (.cells (madeCells #[.string ⟨#[]⟩] S.n) 9)).alloc (.cells #[.slice (some ⟨w.heap.size, 0, none⟩) 0 S.n] 43)).alloc (.cells #[.pointer (some ⟨L.ob, 0, none⟩)] 60)) = W1 at bR hB0 hsz ⊢
  have bO : Boxed W1 (w.heap.size + 1) 43 (.slice (some ⟨w.heap.size, 0, none⟩) 0 S.n) := bR.2.1
  have bN : Boxed W1 (w.heap.size + 1 + 1) 60 (.pointer (some ⟨L.ob, 0, none⟩)) := bR.2.2
  have hrow0 : W1.ownsRow w.heap.size 9 1 (.slice (some ⟨w.heap.size, 0, none⟩) 0 S.n) 0 [] := ⟨rfl, .inr ⟨w.heap.size, S.n, _, rfl, Nat.le_refl _, bR.1, Nat.zero_le _, by unfold maxLen; omega, by rw [size_madeCells]; omega, by simp⟩⟩
  refine wpIn_rangeFunc_ownG rfl (by omega) (gf := 42) (lb := #[.pointer (some ⟨w.heap.size + 1 + 1, 0, none⟩)]) rfl trivial (enters_of Try.func42 (by kernel_rfl) rfl)
    (all_stops 3 (by omega) (w.heap.size + 1 + 1) w.heap.size g hown W1 (by omega) bN.cell (a.below hB0)) KpT.t
    (fun W l o o' hl ho hc hw => ⟨belowK_b (w := w) (Nat.le_refl _) W l o o' (by omega) ho hc hw, World.putObj_heap_other (by omega)⟩) (Below.refl _ _) (fun _ => rfl)
    (fun pre W => ((∃ v, Boxed W (w.heap.size + 1) 43 v ∧ W.ownsRow w.heap.size 9 1 v pre.length (pre.map fun x => .string x.1) ∧ True) ∧ Boxed W (w.heap.size + 1 + 1) 60 (.pointer (some ⟨L.ob, 0, none⟩))) ∧ Below w.heap.size w W)
    (fun _ _ _ => False)
    (OwnFrom.and (OwnFrom.and (Own.from (holdsRow_own w.heap.size (w.heap.size + 1) 43 9 1 (fun pre : List (ByteArray × Int) => pre.length) (fun pre => pre.map fun x => .string x.1) (fun _ _ => True)) _) (Own.from (boxed_own (w.heap.size + 1 + 1) 60 (fun _ => .pointer (some ⟨L.ob, 0, none⟩))) _)) (ownFrom_below (Nat.le_refl _) (by omega)))
    (fun _ _ _ _ _ hs _ _ => hs)
    ⟨⟨⟨_, bO, hrow0, trivial⟩, bN⟩, hB0⟩
    (fun x => { tmps := #[.pointer (some ⟨t, 0, none⟩), undef, .slice none 0 0, .pointer (some ⟨w.heap.size + 1, 0, none⟩), .string x.1, .pointer (some ⟨t, 0, none⟩), .bool true, .bool false, .pointer (some ⟨t, 0, none⟩), .pointer (some ⟨t, 0, none⟩), .pointer (some ⟨t, 0, none⟩), .pointer (some ⟨L.ob, 0, none⟩), .int .i64 (S.n : Nat), .slice (some ⟨w.heap.size, 0, none⟩) 0 S.n, .pointer (some ⟨t, 0, none⟩), .pointer (some ⟨t, 0, none⟩), .pointer (some ⟨t, 0, none⟩), .pointer (some ⟨L.ob, 0, none⟩), .func (.func 42) #[] #[.pointer (some ⟨w.heap.size + 1 + 1, 0, none⟩)], .string x.1, .int .i64 x.2, undef, undef, undef, undef, undef], defers := [] }) ?assign ?body ?done ?stop
  case assign =>
    intro l x W K hK
    gi_wp2
    exact hK
  case body =>
    rintro l pre x W ⟨⟨⟨v, hv, hrow, _⟩, hN⟩, hB⟩ hlt
    have hc := hv.cell
    have hBs := hB.size
    gi_wp2_with (gi_at_builtin; refine wpListIn_append_own _ rfl _ _ 43 rfl w.heap.size 9 i0 (.string ⟨#[]⟩) 1 16 Try.underlying43 hi hz0 hz1 hz2 rfl (by decide) _ _ _ rfl (hrow.alloc _) ⟨W.heap.size, 0, none⟩ 1 1 [.string x.1] rfl rfl (cell_one_new _ _ _) (by simp [Value.oneCell']) (by unfold maxLen; omega) (by omega) (by simp; omega) ?_; intro v' w1 hown' hgrow _; obtain ⟨g', cap', rfl⟩ := ownsRow_succ hown'; obtain ⟨hv1, hv2, hr2, hk2, hb2⟩ := hv.appended (by decide) hrow hB.size (by omega) hown' hgrow; have hc1 := hv1.cell; have hf1 := hv1.frozen; have hN2 := (hN.alloc _).kept hgrow (hN.not_row (by decide) hrow))
    exact ⟨hk2.from _, ⟨hb2, ((hN2.other (by omega) _).trans hN.symm)⟩, ⟨⟨_, hv2, by simpa using hr2, trivial⟩, hN2.other (by omega) _⟩, hB.trans hb2⟩
  case done =>
    rintro D ys W hD rfl ⟨⟨⟨v, hv, hrow, _⟩, hN⟩, hB⟩ hK
    have hc := hv.cell
    gi_wp2
    refine ⟨by simp, .inl ⟨_, _, rfl, run_takeDeferred hK, ?_⟩⟩
    exact ⟨_, results_tmp rfl _ _ _, v, rfl, ownsRow_putObj hrow _ hK rfl, hB.trans (belowK_b (w := w) (Nat.le_refl _) W D _ _ (by omega) hK rfl rfl)⟩
  case stop =>
    rintro D c pre W _ _ h _
    exact h.elim

end Go.Proofs.Ytdnaecmihgcelaa.Tb
