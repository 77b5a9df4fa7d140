/-
  hash.sums from its entry to behind its makes, beside leavers.
-/
import Derived.Test.YtjehmdhcccmihaaKPoolCb
import Derived.Test.YtjehmdhcccmihaaKPoolLong
import Derived.Test.YtjehmdhcccmihaaKGMac
import Derived.OwnWalk
import Derived.Laws.MakeOwn
import Derived.Laws.NewBlocks
namespace Go.Proofs.Ytjehmdhcccmihaa.Pool
open Go.Conc Go.ConcN Go.RowKit Go.Conc.Lib Go.ConcX.Gen Hs
open Go.ConcR (KK wgBlock WgAt stA smA rd wr mk Payload Aside2)
section
variable {A : Option Addr} {cap : Nat} {ps : List ByteArray} {Shun : Loc → Prop} {W w : World} {Y : List Frame}
noncomputable def bodyS : Code := Try.f16.body.getD .skip
theorem info33 : (Try.prog.info? 33).map (fun i => (i.zero, i.size, i.bytes)) = some (some (.int .u64 0), 1, 8) := by kernel_rfl
theorem info3 : (Try.prog.info? 3).map (fun i => (i.zero, i.size, i.bytes)) = some (some (.int .i64 0), 1, 8) := by kernel_rfl
theorem info51 : (Try.prog.info? 51).map (fun i => (i.zero, i.size, i.bytes)) = some (some (.agg #[]), 0, 0) := by kernel_rfl

/-- the world behind the makes -/
def w8 (W : World) (A : Option Addr) (cap : Nat) (ps : List ByteArray) : World :=
  (((((((W.alloc (.cells #[.slice A ps.length cap] 22)).alloc (.cells (madeCells #[.int .u64 0] ps.length) 33)).alloc (.cells #[.slice (some ⟨W.heap.size + 1, 0, none⟩) ps.length ps.length] 37)).alloc (.chan 0 #[] false 0 0 false)).alloc
    (.cells #[.chan (some (W.heap.size + 3))] 49)).alloc (.chan 0 #[] false 0 0 false)).alloc (.cells #[.chan (some (W.heap.size + 5))] 50)).alloc (.cells #[.int .u64 0, .int .u32 0] 59)
/-- behind the makes -/
structure Beg (M : Nat) (A : Option Addr) (cap : Nat) (ps : List ByteArray) (W w : World) : Prop where
  ch : CH M A cap ps W w
  made : ∃ arr, w.heap[M + 1]? = some (.cells arr 33) ∧ arr.size = ps.length
  wg : WgAt 59 (M + 7) w 0 0
  cp : OpenAt (M + 3) w
  cd : OpenAt (M + 5) w
theorem heap_old (w : World) (o : Obj) (k : Nat) (h : k < w.heap.size) : (w.alloc o).heap[k]? = w.heap[k]? := Below.heap_alloc _ _ _ h
theorem w8_size : (w8 W A cap ps).heap.size = W.heap.size + 8 := by simp [w8]
theorem w8_low (k : Nat) (h : k < W.heap.size) : (w8 W A cap ps).heap[k]? = W.heap[k]? := by
  unfold w8
  repeat rw [heap_old _ _ _ (by first | omega | (simp only [World.size_alloc]; omega))]
theorem w8_at (j : Nat) (o : Obj) (h : (#[Obj.cells #[.slice A ps.length cap] 22, .cells (madeCells #[.int .u64 0] ps.length) 33, .cells #[.slice (some ⟨W.heap.size + 1, 0, none⟩) ps.length ps.length] 37, .chan 0 #[] false 0 0 false, .cells #[.chan (some (W.heap.size + 3))] 49, .chan 0 #[] false 0 0 false, .cells #[.chan (some (W.heap.size + 5))] 50, .cells #[.int .u64 0, .int .u32 0] 59])[j]? = some o) : (w8 W A cap ps).heap[W.heap.size + j]? = some o := by
  have e : (w8 W A cap ps).heap = W.heap ++ #[Obj.cells #[.slice A ps.length cap] 22, .cells (madeCells #[.int .u64 0] ps.length) 33, .cells #[.slice (some ⟨W.heap.size + 1, 0, none⟩) ps.length ps.length] 37, .chan 0 #[] false 0 0 false, .cells #[.chan (some (W.heap.size + 3))] 49, .chan 0 #[] false 0 0 false, .cells #[.chan (some (W.heap.size + 5))] 50, .cells #[.int .u64 0, .int .u32 0] 59] := by
    apply Array.ext'
    simp only [w8, World.alloc, Array.toList_push, Array.toList_append, List.append_assoc, List.cons_append, List.nil_append]
  rw [e, Array.getElem?_append_right (by omega), Nat.add_sub_cancel_left]
  exact h
theorem w8_beg (hA : ∀ a, A = some a → a.block < W.heap.size) (hT : Texts W A ps) (d : Nat) : Beg W.heap.size A cap ps W ((w8 W A cap ps).at d) := by
  have h0 := w8_at (W := W) (A := A) (cap := cap) (ps := ps) 0 _ rfl
  have h1 := w8_at (W := W) (A := A) (cap := cap) (ps := ps) 1 _ rfl
  have h2 := w8_at (W := W) (A := A) (cap := cap) (ps := ps) 2 _ rfl
  have h3 := w8_at (W := W) (A := A) (cap := cap) (ps := ps) 3 _ rfl
  have h4 := w8_at (W := W) (A := A) (cap := cap) (ps := ps) 4 _ rfl
  have h5 := w8_at (W := W) (A := A) (cap := cap) (ps := ps) 5 _ rfl
  have h6 := w8_at (W := W) (A := A) (cap := cap) (ps := ps) 6 _ rfl
  have h7 := w8_at (W := W) (A := A) (cap := cap) (ps := ps) 7 _ rfl
  have one : ∀ (b : Nat) (v : Value) (t : TypeId), (w8 W A cap ps).heap[b]? = some (.cells #[v] t) → ((w8 W A cap ps).at d).cell? ⟨b, 0, none⟩ = some v := fun b v t h => by
    have h' : ((w8 W A cap ps).at d).heap[b]? = some (.cells #[v] t) := h
    simp [World.cell?, h']
  refine ⟨⟨⟨one _ _ _ h0, one _ _ _ h2, one _ _ _ h4, one _ _ _ h6, ⟨0, 0, h7⟩, fun i hi => ?_⟩, ⟨rfl, rfl, rfl, ?_, fun k hk => w8_low k hk⟩, w8_size⟩, ⟨_, h1, size_madeCells _ _⟩, h7, ⟨0, 0, h3⟩, ⟨0, 0, h5⟩⟩
  · obtain ⟨a, e, hc⟩ := hT i hi
    exact ⟨a, e, by rw [World.cell?_of_block (w := W) (by rw [add_blk]; exact w8_low _ (hA a e))]; exact hc⟩
  · show W.heap.size ≤ (w8 W A cap ps).heap.size
    rw [w8_size]; omega

set_option maxRecDepth 100000 in
set_option maxHeartbeats 4000000 in
theorem sums_pre (hA : ∀ a, A = some a → a.block < W.heap.size) (hT : Texts W A ps) (hS : ∀ a : Addr, W.heap.size ≤ a.block → ¬ Shun (.cell a)) (hl : ps.length ≤ 1048576) :
    Goes Try.prog true AtRel (DB Shun (W.heap.size + 8) (W.heap.size + 1) (W.heap.size + 7)) (fun g w => ∃ v8 v9 v10 v11 v12, g = gA W.heap.size A cap ps Y v8 v9 v10 v11 v12 ∧ Beg W.heap.size A cap ps W w) 40
      (G ((base 16).at ⟨#[.slice A ps.length cap, undef, undef, undef, undef, undef, undef, undef, undef, undef, undef, undef, undef, undef, undef, undef, undef, undef, undef, undef, undef, undef, undef, undef, undef, undef, undef, undef, undef, undef, undef, undef], []⟩ [.code bodyS]) Y) W := by
  obtain ⟨i0, hi, hz0, hz1, hz2⟩ := info_parts info33
  obtain ⟨i1, hi1, hy0, hy1, hy2⟩ := info_parts info3
  obtain ⟨i2, hi2, hx0, hx1, hx2⟩ := info_parts info51
  have hmk := fun w => run_make (P := Try.prog) w 37 33 i0 (.int .u64 0) Try.underlying37 hi hz0 .i64 .i64 ps.length ps.length (by omega) (by omega) (by rw [hz2]; omega) (by omega)
  have hme := fun w es => events_make (P := Try.prog) w 37 33 i0 (.int .u64 0) Try.underlying37 hi hz0 .i64 .i64 ps.length ps.length (by omega) (by omega) (by rw [hz2]; omega) (by omega) (by rw [hz2]; simp; omega) es
  have hc1 : ∀ w : World, (Instr.makeChan 49 (.int .i64 0)).run Try.prog w = .ok (.chan (some w.heap.size)) (w.alloc (.chan 0 #[] false 0 0 false)) := fun w => run_makeChan (P := Try.prog) (w := w) Try.underlying49 hi1 .i64 0 (by omega) (by omega)
  have hc2 : ∀ w : World, (Instr.makeChan 50 (.int .i64 0)).run Try.prog w = .ok (.chan (some w.heap.size)) (w.alloc (.chan 0 #[] false 0 0 false)) := fun w => run_makeChan (P := Try.prog) (w := w) Try.underlying50 hi2 .i64 0 (by omega) (by omega)
  have hd1 : ∀ (w : World) es, (Instr.makeChan 49 (.int .i64 0)).events Try.prog w es = es := fun w es => events_makeChan (P := Try.prog) (w := w) Try.underlying49 hi1 .i64 0 (by omega) (by omega) es
  have hd2 : ∀ (w : World) es, (Instr.makeChan 50 (.int .i64 0)).events Try.prog w es = es := fun w es => events_makeChan (P := Try.prog) (w := w) Try.underlying50 hi2 .i64 0 (by omega) (by omega) es
  simp only [bodyS, Try.f16, Option.getD_some]
  l_c stepG_seq
  l_reg
  l_in
  refine goes_oper_k rfl rfl (by decide) (fun K hK => ?_)
  go_simp
  refine hK _ _ ⟨fun e he => ?_, ?_⟩
  · have hm := mem_listed he
    simp [go_sem, storedEv, *] at hm
    try (subst hm; exact evX_cell _ _ (hS _ (by simp <;> omega)) (by simp <;> omega) (by simp <;> omega) (by simp <;> omega))
  clear hK K
  l_op
  l_c stepG_region_end
  l_c stepG_seq
  l_reg
  l_in
  refine goes_oper_k rfl rfl (by decide) (fun K hK => ?_)
  go_simp
  refine hK _ _ ⟨fun e he => ?_, ?_⟩
  · have hm := mem_listed he
    simp [go_sem, storedEv, *] at hm
    try (subst hm; exact evX_cell _ _ (hS _ (by simp <;> omega)) (by simp <;> omega) (by simp <;> omega) (by simp <;> omega))
  clear hK K
  l_op
  l_in
  refine goes_oper_k rfl rfl (by decide) (fun K hK => ?_)
  go_simp
  refine hK _ _ ⟨fun e he => ?_, ?_⟩
  · have hm := mem_listed he
    simp [go_sem, storedEv, *] at hm
    try (subst hm; exact evX_cell _ _ (hS _ (by simp <;> omega)) (by simp <;> omega) (by simp <;> omega) (by simp <;> omega))
  clear hK K
  l_in
  refine goes_oper_k rfl rfl (by decide) (fun K hK => ?_)
  go_simp
  refine hK _ _ ⟨fun e he => ?_, ?_⟩
  · have hm := mem_listed he
    simp [go_sem, storedEv, *] at hm
    try (subst hm; exact evX_cell _ _ (hS _ (by simp <;> omega)) (by simp <;> omega) (by simp <;> omega) (by simp <;> omega))
  clear hK K
  l_in
  refine goes_oper_k rfl rfl (by decide) (fun K hK => ?_)
  go_simp
  refine hK _ _ ⟨fun e he => ?_, ?_⟩
  · have hm := mem_listed he
    simp [go_sem, storedEv, *] at hm
    try (subst hm; exact evX_cell _ _ (hS _ (by simp <;> omega)) (by simp <;> omega) (by simp <;> omega) (by simp <;> omega))
  clear hK K
  l_c stepG_region_end
  l_c stepG_seq
  l_reg
  l_in
  refine goes_oper_k rfl rfl (by decide) (fun K hK => ?_)
  go_simp
  refine hK _ _ ⟨fun e he => ?_, ?_⟩
  · have hm := mem_listed he
    simp [go_sem, storedEv, *] at hm
    try (subst hm; exact evX_cell _ _ (hS _ (by simp <;> omega)) (by simp <;> omega) (by simp <;> omega) (by simp <;> omega))
  clear hK K
  l_in
  refine goes_oper_k rfl rfl (by decide) (fun K hK => ?_)
  go_simp
  refine hK _ _ ⟨fun e he => ?_, ?_⟩
  · have hm := mem_listed he
    simp [go_sem, storedEv, *] at hm
    try (subst hm; exact evX_cell _ _ (hS _ (by simp <;> omega)) (by simp <;> omega) (by simp <;> omega) (by simp <;> omega))
  clear hK K
  l_in
  refine goes_oper_k rfl rfl (by decide) (fun K hK => ?_)
  go_simp
  refine hK _ _ ⟨fun e he => ?_, ?_⟩
  · have hm := mem_listed he
    simp [go_sem, storedEv, *] at hm
    try (subst hm; exact evX_cell _ _ (hS _ (by simp <;> omega)) (by simp <;> omega) (by simp <;> omega) (by simp <;> omega))
  clear hK K
  l_c stepG_region_end
  l_c stepG_seq
  l_reg
  l_in
  refine goes_oper_k rfl rfl (by decide) (fun K hK => ?_)
  go_simp
  refine hK _ _ ⟨fun e he => ?_, ?_⟩
  · have hm := mem_listed he
    simp [go_sem, storedEv, *] at hm
    try (subst hm; exact evX_cell _ _ (hS _ (by simp <;> omega)) (by simp <;> omega) (by simp <;> omega) (by simp <;> omega))
  clear hK K
  l_in
  refine goes_oper_k rfl rfl (by decide) (fun K hK => ?_)
  go_simp
  refine hK _ _ ⟨fun e he => ?_, ?_⟩
  · have hm := mem_listed he
    simp [go_sem, storedEv, *] at hm
    try (subst hm; exact evX_cell _ _ (hS _ (by simp <;> omega)) (by simp <;> omega) (by simp <;> omega) (by simp <;> omega))
  clear hK K
  l_in
  refine goes_oper_k rfl rfl (by decide) (fun K hK => ?_)
  go_simp
  refine hK _ _ ⟨fun e he => ?_, ?_⟩
  · have hm := mem_listed he
    simp [go_sem, storedEv, *] at hm
    try (subst hm; exact evX_cell _ _ (hS _ (by simp <;> omega)) (by simp <;> omega) (by simp <;> omega) (by simp <;> omega))
  clear hK K
  l_c stepG_region_end
  l_c stepG_seq
  l_reg
  l_in
  refine goes_oper_k rfl rfl (by decide) (fun K hK => ?_)
  go_simp
  refine hK _ _ ⟨fun e he => ?_, ?_⟩
  · have hm := mem_listed he
    simp [go_sem, storedEv, *] at hm
    try (subst hm; exact evX_cell _ _ (hS _ (by simp <;> omega)) (by simp <;> omega) (by simp <;> omega) (by simp <;> omega))
  clear hK K
  l_c stepG_region_end
  refine Goes.stop (fun w₁ h₁ => ?_)
  obtain ⟨d, hd⟩ := h₁
  subst hd
  simp only [alloc_at, setCell_at, at_at]
  exact ⟨_, _, _, _, _, rfl, w8_beg hA hT d⟩
end
end Go.Proofs.Ytjehmdhcccmihaa.Pool
