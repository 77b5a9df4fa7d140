/-
  Oldest.
-/
import Derived.Test.YtdnaecmihgcelaaTabN
namespace Go.Proofs.Ytdnaecmihgcelaa.Tb
open Go.RowKit Go.Shelf
attribute [local go_sem] Oper.semAt_some

def oldest : PL → ByteArray × Int × Bool
  | [] => (⟨#[]⟩, 0, false)
  | x :: _ => (x.1, x.2, true)

theorem Boxed.put {W : World} {B : Nat} {t : TypeId} {v : Value} (h : Boxed W B t v) {l : Nat} {o : Obj} (o' : Obj) (hl : W.heap[l]? = some o) (ho : o.isCells = false) : Boxed (W.putObj l o') B t v :=
  h.kept (grownBy_putObj' W l o') (fun e => by
    have e2 : B = l := Option.some.inj e
    subst e2
    rw [show W.heap[B]? = _ from h] at hl
    cases hl
    cases ho)

theorem heap4 (w : World) (A B C D : Obj) : ((((w.alloc A).alloc B).alloc C).alloc D).heap[w.heap.size]? = some A ∧ ((((w.alloc A).alloc B).alloc C).alloc D).heap[w.heap.size + 1]? = some B ∧ ((((w.alloc A).alloc B).alloc C).alloc D).heap[w.heap.size + 1 + 1]? = some C ∧ ((((w.alloc A).alloc B).alloc C).alloc D).heap[w.heap.size + 1 + 1 + 1]? = some D := by
  have h := heap3 w A B C
  refine ⟨?_, ?_, ?_, ?_⟩
  · rw [heap_alloc_old _ _ (by simp; omega)]; exact h.1
  · rw [heap_alloc_old _ _ (by simp)]; exact h.2.1
  · rw [heap_alloc_old _ _ (by simp)]; exact h.2.2
  · have := heap_alloc_new (((w.alloc A).alloc B).alloc C) D
    rw [World.size_alloc, World.size_alloc, World.size_alloc] at this
    exact this

set_option maxRecDepth 100000 in
set_option maxHeartbeats 2000000 in
theorem Oldest_calls {w : World} {own : List Nat} {t room : Nat} {l : PL} (h : Tbl w own t room l) :
    Calls Try.prog 23 #[.pointer (some ⟨t, 0, none⟩)] w fun e w' => e = .returned (.tuple #[.string (oldest l).1, .int .i64 (oldest l).2.1, .bool (oldest l).2.2]) ∧ Below w.heap.size w w' := by
  obtain ⟨L, S, ids, a, g, s, rfl, rfl, rfl, ht, hn⟩ := h.ex
  have c1 : w.cell? ⟨t, 0, none⟩ = some (.pointer (some ⟨L.ob, 0, none⟩)) := by rw [cell_of_row _ _ _ _ _ _ ht]; rfl
  have zt : t < w.heap.size := (Array.getElem?_eq_some_iff.1 ht).1
  have hown : ∀ x ∈ L.own, x < w.heap.size := fun x hx => h.lt x (List.mem_cons_of_mem _ hx)
  have H := Lib.hid h
  have HA := Lib.hid a
  have c1b := Boxed.cell (((Boxed.alloc (show Boxed w t 63 (.pointer (some ⟨L.ob, 0, none⟩)) from ht) (.cells #[.string ⟨#[]⟩] 9)).alloc (.cells #[.int .i64 0] 3)).alloc (.cells #[.bool false] 4))
  refine (callsIn_wide (n := 4)).1 ?_
  refine callsIn_of_wp_marks Try.func23 rfl trivial ?_ rfl
  simp only [Try.ntmps23, List.size_toArray, List.length_cons, List.length_nil, Nat.reduceAdd, Nat.reduceSub, Array.replicate_succ, Array.replicate_zero, List.push_toArray, List.append_toArray, List.nil_append, List.cons_append]
  gi_wp2_with (first | (refine ⟨trivial, ?_⟩; gi_at_call 32; refine (callsIn_wide.2 (made_calls ((((H.out.alloc _).alloc _).alloc _)))).mono ?_; rintro e w1 ⟨rfl, rfl⟩) | (refine ⟨trivial, ?_⟩; gi_at_call 36; refine (callsIn_wide.2 (all_calls L.ob _)).mono ?_; rintro e w1 ⟨rfl, rfl⟩))
  have bR := heap4 w (.cells #[.string ⟨#[]⟩] 9) (.cells #[.int .i64 0] 3) (.cells #[.bool false] 4) (.cells #[.pointer (some ⟨L.ob, 0, none⟩)] 60)
  have hB0 : Below w.heap.size w ((((w.alloc (.cells #[.string ⟨#[]⟩] 9)).alloc (.cells #[.int .i64 0] 3)).alloc (.cells #[.bool false] 4)).alloc (.cells #[.pointer (some ⟨L.ob, 0, none⟩)] 60)) := ((((Below.refl _ _).alloc (Nat.le_refl _) _).alloc (by simp) _).alloc (by simp; omega) _).alloc (by simp; omega) _
  have hsz : ((((w.alloc (.cells #[.string ⟨#[]⟩] 9)).alloc (.cells #[.int .i64 0] 3)).alloc (.cells #[.bool false] 4)).alloc (.cells #[.pointer (some ⟨L.ob, 0, none⟩)] 60)).heap.size = w.heap.size + 4 := by simp
  generalize ((((w.alloc (.cells #[.string ⟨#[]⟩] 9)).alloc (.cells #[.int .i64 0] 3)).alloc (.cells #[.bool false] 4)).alloc (.cells #[.pointer (some ⟨L.ob, 0, none⟩)] 60)) = W1 at bR hB0 hsz ⊢
  have b0 : Boxed W1 w.heap.size 9 (.string ⟨#[]⟩) := bR.1
  have b1 : Boxed W1 (w.heap.size + 1) 3 (.int .i64 0) := bR.2.1
  have b2 : Boxed W1 (w.heap.size + 1 + 1) 4 (.bool false) := bR.2.2.1
  have bN : Boxed W1 (w.heap.size + 1 + 1 + 1) 60 (.pointer (some ⟨L.ob, 0, none⟩)) := bR.2.2.2
  refine wpIn_rangeFunc_ownG rfl (by omega) (gf := 42) (lb := #[.pointer (some ⟨w.heap.size + 1 + 1 + 1, 0, none⟩)]) rfl trivial (enters_of Try.func42 (by kernel_rfl) rfl)
    (all_stops 3 (by omega) (w.heap.size + 1 + 1 + 1) w.heap.size g hown W1 (by omega) bN.cell (a.below hB0)) KpT.t
    (fun W l o o' hl ho hc hw => ⟨belowK_b (w := w) (Nat.le_refl _) W l o o' (by omega) ho hc hw, World.putObj_heap_other (by omega)⟩) (Below.refl _ _) (fun _ => rfl)
    (fun pre W => (((pre = [] ∧ Boxed W w.heap.size 9 (.string ⟨#[]⟩)) ∧ Boxed W (w.heap.size + 1) 3 (.int .i64 0)) ∧ Boxed W (w.heap.size + 1 + 1) 4 (.bool false)) ∧ Below w.heap.size w W)
    (fun c pre W => (((c = .ret ∧ Boxed W w.heap.size 9 (.string (oldest pre).1)) ∧ Boxed W (w.heap.size + 1) 3 (.int .i64 (oldest pre).2.1)) ∧ Boxed W (w.heap.size + 1 + 1) 4 (.bool (oldest pre).2.2) ∧ pre ≠ []) ∧ Below w.heap.size w W)
    (OwnFrom.and (Own.from (fun s A B row hs hg hr => ⟨⟨⟨hs.1.1.1, boxed_own w.heap.size 9 (fun _ : Unit => .string ⟨#[]⟩) () A B row hs.1.1.2 hg hr⟩, boxed_own (w.heap.size + 1) 3 (fun _ : Unit => .int .i64 0) () A B row hs.1.2 hg hr⟩, boxed_own (w.heap.size + 1 + 1) 4 (fun _ : Unit => .bool false) () A B row hs.2 hg hr⟩) _) (ownFrom_below (Nat.le_refl _) (by omega)))
    (fun c => OwnFrom.and (Own.from (fun s A B row hs hg hr => ⟨⟨⟨hs.1.1.1, boxed_own w.heap.size 9 (fun _ : Unit => .string (oldest s).1) () A B row hs.1.1.2 hg hr⟩, boxed_own (w.heap.size + 1) 3 (fun _ : Unit => .int .i64 (oldest s).2.1) () A B row hs.1.2 hg hr⟩, boxed_own (w.heap.size + 1 + 1) 4 (fun _ : Unit => .bool (oldest s).2.2) () A B row hs.2.1 hg hr, hs.2.2⟩) _) (ownFrom_below (Nat.le_refl _) (by omega)))
    ⟨⟨⟨⟨rfl, b0⟩, b1⟩, b2⟩, hB0⟩
    (fun x => { tmps := #[.pointer (some ⟨t, 0, none⟩), undef, .pointer (some ⟨w.heap.size, 0, none⟩), .pointer (some ⟨w.heap.size + 1, 0, none⟩), .pointer (some ⟨w.heap.size + 1 + 1, 0, none⟩), .string x.1, .int .i64 x.2, .pointer (some ⟨t, 0, none⟩), .bool true, .bool false, .pointer (some ⟨t, 0, none⟩), .pointer (some ⟨t, 0, none⟩), .pointer (some ⟨t, 0, none⟩), .pointer (some ⟨L.ob, 0, none⟩), .func (.func 42) #[] #[.pointer (some ⟨w.heap.size + 1 + 1 + 1, 0, none⟩)], .string x.1, .int .i64 x.2, undef, undef], defers := [] }) ?assign ?body ?done ?stop
  case assign =>
    intro l x W K hK
    gi_wp2
    exact hK
  case body =>
    rintro l pre x W ⟨⟨⟨⟨rfl, hv0⟩, hv1⟩, hv2⟩, hB⟩ hlt
    have hc0 := hv0.cell
    have hc1 := hv1.cell
    have hc2 := hv2.cell
    have hf0 := hv0.frozen
    have hf1 := hv1.frozen
    have hf2 := hv2.frozen
    have hBs := hB.size
    gi_wp2
    exact ⟨(((KeepsOthers.setCell W _ _).trans (KeepsOthers.setCell _ _ _)).trans (KeepsOthers.setCell _ _ _)).from _, ⟨⟨⟨rfl, ((hv0.set _).other (by omega) _).other (by omega) _⟩, ((hv1.other (by omega) _).set _).other (by omega) _⟩, ((hv2.other (by omega) _).other (by omega) _).set _, by simp⟩,
      ((hB.setCell (p := ⟨w.heap.size, 0, none⟩) (Nat.le_refl _) _).setCell (p := ⟨w.heap.size + 1, 0, none⟩) (by simp) _).setCell (p := ⟨w.heap.size + 1 + 1, 0, none⟩) (by simp; omega) _⟩
  case done =>
    rintro D ys W hD rfl ⟨⟨⟨⟨hnil, hv0⟩, hv1⟩, hv2⟩, hB⟩ hK
    have hc0 := hv0.cell
    have hc1 := hv1.cell
    have hc2 := hv2.cell
    have hf0 := hv0.frozen
    have hf1 := hv1.frozen
    have hf2 := hv2.frozen
    gi_wp2
    have hK2 := (((KeepsOthers.setCell W ⟨w.heap.size, 0, none⟩ (.string ⟨#[]⟩)).trans (KeepsOthers.setCell _ ⟨w.heap.size + 1, 0, none⟩ (.int .i64 0))).trans (KeepsOthers.setCell _ ⟨w.heap.size + 1 + 1, 0, none⟩ (.bool false))).same D _ hK rfl
    refine ⟨by simp, .inl ⟨_, _, rfl, run_takeDeferred hK2, ?_⟩⟩
    have p0 := (Boxed.put (((hv0.set (.string ⟨#[]⟩)).other (B' := w.heap.size + 1) (by omega) (.int .i64 0)).other (B' := w.heap.size + 1 + 1) (by omega) (.bool false)) (.deferred none) hK2 rfl).cell
    have p1 := (Boxed.put (((hv1.other (B' := w.heap.size) (by omega) (.string ⟨#[]⟩)).set (.int .i64 0)).other (B' := w.heap.size + 1 + 1) (by omega) (.bool false)) (.deferred none) hK2 rfl).cell
    have p2 := (Boxed.put (((hv2.other (B' := w.heap.size) (by omega) (.string ⟨#[]⟩)).other (B' := w.heap.size + 1) (by omega) (.int .i64 0)).set (.bool false)) (.deferred none) hK2 rfl).cell
    refine ⟨.tuple #[.string ⟨#[]⟩, .int .i64 0, .bool false], ?_, by rw [hnil]; rfl, (((hB.setCell (p := ⟨w.heap.size, 0, none⟩) (Nat.le_refl _) _).setCell (p := ⟨w.heap.size + 1, 0, none⟩) (by simp) _).setCell (p := ⟨w.heap.size + 1 + 1, 0, none⟩) (by simp; omega) _).trans (belowK_b (w := w) (Nat.le_refl _) _ D _ _ (by omega) hK2 rfl rfl)⟩
    simp [results, Try.results23, go_sem, p0, p1, p2]
  case stop =>
    rintro D c pre W hD hpre ⟨⟨⟨⟨rfl, hv0⟩, hv1⟩, hv2, hne⟩, hB⟩ hK
    gi_wp2
    refine ⟨by simp, .inl ⟨_, _, rfl, run_takeDeferred hK, ?_⟩⟩
    have p0 := (Boxed.put hv0 (.deferred none) hK rfl).cell
    have p1 := (Boxed.put hv1 (.deferred none) hK rfl).cell
    have p2 := (Boxed.put hv2 (.deferred none) hK rfl).cell
    have e : oldest (pairs S ids) = oldest pre := by
      obtain ⟨r, hr⟩ := hpre
      cases pre with
      | nil => exact absurd rfl hne
      | cons x pre => rw [← hr]; rfl
    refine ⟨.tuple #[.string (oldest pre).1, .int .i64 (oldest pre).2.1, .bool (oldest pre).2.2], ?_, by rw [e], hB.trans (belowK_b (w := w) (Nat.le_refl _) W D _ _ (by omega) hK rfl rfl)⟩
    simp [results, Try.results23, go_sem, p0, p1, p2]

end Go.Proofs.Ytdnaecmihgcelaa.Tb
