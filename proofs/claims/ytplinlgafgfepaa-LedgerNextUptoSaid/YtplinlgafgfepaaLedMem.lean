/-
  Limits copied into a block of their own: what ledger.copied hands out, in any world.
-/
import Derived.Test.YtplinlgafgfepaaLedLc
import Derived.Test.YtplinlgafgfepaaLedRfB
import Derived.Laws.CopyOwn
import Derived.Laws.MakeOwn
import Derived.Laws.OwnMore
namespace Go.Proofs.Ytplinlgafgfepaa.Ld
open Go.RowKit Pr

/-- a block of its own that holds limits, and nothing else -/
def LBlk (w : World) (g : Nat) (l : List Lim) : Prop := ∃ cur : Array Value, w.heap[g]? = some (.cells cur 58 (0, 0)) ∧ cur.toList = lc l
theorem LBlk.of {w w' : World} {g : Nat} {l : List Lim} (h : LBlk w g l) (e : w'.heap[g]? = w.heap[g]?) : LBlk w' g l := by
  obtain ⟨cur, h1, h2⟩ := h
  exact ⟨cur, e.trans h1, h2⟩
theorem LBlk.lt {w : World} {g : Nat} {l : List Lim} (h : LBlk w g l) : g < w.heap.size := by
  obtain ⟨cur, h1, h2⟩ := h
  exact (Array.getElem?_eq_some_iff.1 h1).1
theorem LBlk.ro {w : World} {g : Nat} {l : List Lim} (h : LBlk w g l) : Ro w g := by
  obtain ⟨cur, h1, _⟩ := h
  exact ⟨cur, _, h1⟩
theorem LBlk.below {w w' : World} {g : Nat} {l : List Lim} (h : LBlk w g l) (hb : Below w.heap.size w w') : LBlk w' g l := h.of (hb.block g h.lt)
/-- the address of as many limits -/
def la (g n : Nat) : Option Addr := if n = 0 then none else some ⟨g, 0, none⟩
theorem LBlk.lims {w : World} {g : Nat} {l : List Lim} {S : Nat → Prop} (h : l ≠ [] → S g ∧ LBlk w g l) : Lims S w (la g l.length) l := by
  by_cases h0 : l = []
  · subst h0; exact Lims.nil _ _ _
  · obtain ⟨hs, cur, h1, h2⟩ := h h0
    have : la g l.length = some ⟨g, 0, none⟩ := by
      unfold la
      rw [if_neg (by cases l <;> simp_all)]
    rw [this]
    refine Lims.of_cells hs fun j v hv => ?_
    have hc := cell_of_row w g j cur _ _ h1
    rw [← h2, Array.getElem?_toList] at hv
    have : (⟨g, 0, none⟩ : Addr).add j = ⟨g, j, none⟩ := by
      unfold Addr.add
      by_cases hj : j = 0
      · subst hj; rfl
      · simp [hj]
    rw [this, hc]; exact hv
theorem LBlk.lnew {w : World} {g B : Nat} {l : List Lim} (h : l ≠ [] → B ≤ g ∧ LBlk w g l) : LNew B w (la g l.length) l := by
  by_cases h0 : l = []
  · exact .inl h0
  · obtain ⟨hs, cur, h1, h2⟩ := h h0
    refine .inr ⟨g, cur, ?_, hs, h1, fun i hi j v hv => ?_⟩
    · unfold la
      rw [if_neg (by cases l <;> simp_all)]
    · have := lc_at l i hi j (lcells_lt hv)
      rw [← Array.getElem?_toList, h2, this]; exact hv

theorem lim_size : (Try.prog.info? 58).map (·.size) = some 8 := by kernel_rfl
abbrev limz : Array Value := #[.string ⟨#[]⟩, .int .i64 0, .int .i64 0, .int .i64 0, .int .i64 0, .int .i64 0, .bool false, .int .i64 0]
/-- make of as many limits -/
theorem make_lims (n : Nat) (w : World) (hn : n ≤ 1048576) : (Instr.makeSlice 32 (.int .i64 (n : Int)) (.int .i64 (n : Int))).run Try.prog w = .ok (.slice (some ⟨w.heap.size, 0, none⟩) n n) (w.alloc (.cells (madeCells limz (n * 8)) 58)) := by
  obtain ⟨i0, hi, hz0, hz1, hz2⟩ := lim_parts
  have h := run_make (P := Try.prog) w 32 58 i0 _ Try.underlying32 hi hz0 .i64 .i64 n n (by omega) (Int.le_refl _) (by rw [hz2]; omega) (by omega)
  simp only [Int.toNat_natCast, hz1] at h
  exact h

/-- copy of as many limits (the equation goes as the library's for elements of one cell) -/
theorem copy_lims (w : World) (g : Nat) (l : List Lim) (cd sd : Nat) (ad : Addr) (cur : Array Value) (hg : w.heap[g]? = some (.cells cur 58 (0, 0))) (hsz : cur.size = l.length * 8) (hsrc : ∀ j v, (lc l)[j]? = some v → w.cell? (ad.add j) = some v) :
    ∃ w', (Builtin.copy_ #[32, 32] 3 #[.slice (some ⟨g, 0, none⟩) l.length cd, .slice (some ad) l.length sd]).run Try.prog w = .ok (goInt l.length) w' ∧ LBlk w' g l ∧ w.grownBy w' (some g) := by
  have hl := run_loadCells_list (P := Try.prog) w ad (lc l) hsrc
  have hst := run_storeCells_at Try.prog g 0 58 (lc l) 0 cur w hg (by rw [lc_length, hsz]; omega) (lc_one l)
  rw [lc_length] at hl
  refine ⟨w.setRow g (cur.toList.take 0 ++ lc l ++ cur.toList.drop (0 + (lc l).length)).toArray, ?_, ⟨_, setRow_heap _ _ _ _ _ _ hg, by simp [lc_length, ← hsz]⟩, ⟨rfl, rfl, rfl, by simp [World.setRow], fun k hk hn => setRow_other w g k _ (fun e => hn (by rw [e]))⟩⟩
  cases hq : Try.prog.info? 58 with
  | none => have := lim_size; rw [hq] at this; cases this
  | some i =>
    have hi : i.size = 8 := by have := lim_size; rw [hq] at this; simpa using this
    simp [Builtin.copy_, run_underlying Try.underlying32, Builtin.lenOf, Builtin.firstCells, sizeOf, typeInfo, hq, hi, hl, hst]
theorem la_pos {g n : Nat} (h : 0 < n) : la g n = some ⟨g, 0, none⟩ := if_neg (by omega)
theorem ret_d1 {fn : Func} {q : Tmp} {Q : Ending → World → Prop} {a : Go.Act} {w : World} {g : Nat} {x y z : Value} {fr : Nat × Nat} (h : fn.results = #[.cell q 38]) (hp : a.tmps.getD q undef = .pointer (some ⟨g, 0, none⟩)) (hd : a.defers = []) (hg : w.heap[g]? = some (.cells #[x, y, z] 38 fr))
    (hQ : Q (.returned (.agg #[x, y, z])) w) : bodyPost Try.prog fn Q .ret a w :=
  bodyPost_ret (results_cell_row h _ _ g 38 _ fr _ hp hg Try.underlying38 rfl d_size) hd hQ
set_option maxRecDepth 100000 in
set_option maxHeartbeats 2000000 in
theorem copied_calls {S : Nat → Prop} (id till : Int) (A : Option Addr) (cap : Nat) (l : List Lim) (w : World) (hA : Lims S w A l) (hn : l.length ≤ 1048576) :
    Calls Try.prog 31 #[.agg #[.int .i64 id, .int .i64 till, .slice A l.length cap]] w fun e w' => ∃ g, e = .returned (.agg #[.int .i64 id, .int .i64 till, .slice (la g l.length) l.length l.length]) ∧ (l ≠ [] → w.heap.size ≤ g ∧ LBlk w' g l) ∧ Below w.heap.size w w' := by
  by_cases h0 : l = []
  · subst h0
    go_enter Try.func31, Try.ntmps31
    go_wp2_with fail
    refine ret_d1 (x := .int .i64 id) (y := .int .i64 till) (z := .slice none 0 0) (fr := (0, 0)) Try.results31 rfl rfl ?_ ?_
    · have := (two_boxes w (.cells #[.int .i64 id, .int .i64 till, .slice none 0 0] 38) 38 #[.int .i64 id, .int .i64 till, .slice none 0 0]).2
      exact this
    · exact ⟨0, rfl, fun h => absurd rfl h, (two_boxes w _ _ _).1⟩
  · have h1 : 0 < l.length := by cases l <;> simp_all
    have h2 : decide ((l.length : Int) > 0) = true := by simp; omega
    have h3 : decide (0 < (l.length : Int)) = true := by simp; omega
    obtain ⟨a, rfl, -⟩ := hA 0 h1
    have HA := Lib.hid hA.cells
    have hmk := fun w => make_lims l.length w hn
    have hz : (madeCells limz (l.length * 8)).size = l.length * 8 := size_madeCells _ _
    obtain ⟨W3, hW3⟩ : ∃ W3, W3 = ((w.alloc (.cells #[.int .i64 id, .int .i64 till, .slice (some ⟨w.heap.size + 1 + 1, 0, none⟩) l.length l.length] 38)).alloc (.cells #[.int .i64 0, .int .i64 0, .slice none 0 0] 38)).alloc (.cells (madeCells limz (l.length * 8)) 58) := ⟨_, rfl⟩
    have hb3 : Below w.heap.size w W3 := by rw [hW3]; exact (((Below.refl _ _).alloc (Nat.le_refl _) _).alloc (by simp) _).alloc (by simp; omega) _
    have x1 : Box W3 w.heap.size 38 #[.int .i64 id, .int .i64 till, .slice (some ⟨w.heap.size + 1 + 1, 0, none⟩) l.length l.length] := by rw [hW3]; exact ((Box.new w _ _).alloc _).alloc _
    have x2 : Box W3 (w.heap.size + 1) 38 #[.int .i64 0, .int .i64 0, .slice none 0 0] := by rw [hW3]; exact (Box.new1 w _ _ _).alloc _
    have x3 : W3.heap[w.heap.size + 1 + 1]? = some (.cells (madeCells limz (l.length * 8)) 58 (0, 0)) := by
      rw [hW3]
      have := heap_alloc_new ((w.alloc (.cells #[.int .i64 id, .int .i64 till, .slice (some ⟨w.heap.size + 1 + 1, 0, none⟩) l.length l.length] 38)).alloc (.cells #[.int .i64 0, .int .i64 0, .slice none 0 0] 38)) (.cells (madeCells limz (l.length * 8)) 58)
      rwa [World.size_alloc, World.size_alloc] at this
    obtain ⟨w4, hcp, hlb, hgr⟩ := copy_lims W3 (w.heap.size + 1 + 1) l l.length cap a _ x3 hz (fun j v hv => by
      have hc := HA.out j v hv
      rw [hb3.cell (World.block_lt_of_cell? w _ hc)]; exact hc)
    have y1 : Box w4 w.heap.size 38 #[.int .i64 id, .int .i64 till, .slice (some ⟨w.heap.size + 1 + 1, 0, none⟩) l.length l.length] := (hgr.block _ x1.lt (by simp; omega)).trans x1
    have y2 : Box w4 (w.heap.size + 1) 38 #[.int .i64 0, .int .i64 0, .slice none 0 0] := (hgr.block _ x2.lt (by simp)).trans x2
    have hb4 : Below w.heap.size w w4 := hb3.grown hgr hb3.size (fun k e => by cases e; omega)
    have c0 := y1.cell 0
    have c1 := y1.cell 1
    have c2 := y1.cell 2
    have d0 := y2.cell 0
    have d1 := y2.cell 1
    have d2 := y2.cell 2
    have f0 := y2.free 0
    have f1 := y2.free 1
    have f2 := y2.free 2
    simp only [List.getElem?_toArray, List.getElem?_cons_zero, List.getElem?_cons_succ] at c0 c1 c2 d0 d1 d2
    have Y2 := Lib.hid y2
    have LB := Lib.hid hlb
    have B4 := Lib.hid hb4
    rw [hW3] at hcp
    have LP := Lib.hid (la_pos (g := w.heap.size + 1 + 1) h1)
    clear h0 hA x1 x2 x3 y1 y2 hb3 hgr hlb hb4 hz HA hW3
    go_enter Try.func31, Try.ntmps31
    go_wp2_with fail
    refine ret_d1 Try.results31 rfl rfl (Box.set3 Y2.out _ _ _) ?_
    refine ⟨w.heap.size + 1 + 1, by rw [LP.out], fun _ => ⟨by omega, LB.out.of ?_⟩, below_set3 B4.out (by omega) _ _ _⟩
    rw [Below.heap_setCell _ _ _ _ (by simp), Below.heap_setCell _ _ _ _ (by simp), Below.heap_setCell _ _ _ _ (by simp)]
end Go.Proofs.Ytplinlgafgfepaa.Ld
