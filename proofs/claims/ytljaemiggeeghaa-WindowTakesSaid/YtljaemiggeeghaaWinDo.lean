/-
  What window.Do answers, in any world.
-/
import Derived.Test.YtljaemiggeeghaaWinDone
import Derived.Test.YtljaemiggeeghaaWinUse
namespace Go.Proofs.Ytljaemiggeeghaa
open Go.RowKit
attribute [local go_sem ↓] Go.wp_at_zero Go.wp_at_succ
namespace Wn

def act (p : Pol) (s : St) (k now cost : Int) : St × Bool := if right p s then (if wi cost 1 (grt p (adv p s now) k) then (dn p (adv p s now) k cost, true) else (s, false)) else (zero, false)

/-- two results, the first of which is a state that was stored -/
theorem results_two {P : Program} {fn : Func} {p q : Tmp} {ty : TypeId} (h : fn.results = #[.cell p ty, .tmp q]) (tmps : Array Value) (w : World) (g : Nat) (t : TypeId) (cs : Array Value) (fr : Nat × Nat) (d : TypeDesc) (x : Value)
    (hp : tmps.getD p undef = .pointer (some ⟨g, 0, none⟩)) (hq : tmps.getD q undef = x) (hg : w.heap[g]? = some (.cells cs t fr))
    (hu : P.underlying ty = some d) (hd : (match d with | .struct _ | .array _ _ => true | _ => false) = true) (hi : (P.info? ty).map (·.size) = some cs.size) :
    (results fn tmps).run P w = .ok (.tuple #[.agg cs, x]) w := by
  have hp' : tmps[p]?.getD undef = .pointer (some ⟨g, 0, none⟩) := by simpa using hp
  have hq' : tmps[q]?.getD undef = x := by simpa using hq
  simp [results, h, hp', hq', asAddr, run_loadVar_row w g t ty cs fr d hg hu hd hi]
theorem ret_st2 {fn : Func} {q r : Tmp} {Q : Ending → World → Prop} {a : Act} {w : World} {g : Nat} {x y z u b : Value} {fr : Nat × Nat} (h : fn.results = #[.cell q 32, .tmp r]) (hp : a.tmps.getD q undef = .pointer (some ⟨g, 0, none⟩)) (hr : a.tmps.getD r undef = b) (hd : a.defers = []) (hg : w.heap[g]? = some (.cells #[x, y, z, u] 32 fr))
    (hQ : Q (.returned (.tuple #[.agg #[x, y, z, u], b])) w) : bodyPost Try.prog fn Q .ret a w :=
  bodyPost_ret (results_two h _ _ g 32 _ fr _ _ hp hr hg Try.underlying32 rfl st_size) hd hQ

theorem grt_kind {p : Pol} {s : St} {k cost : Int} (h : wi cost 1 (grt p s k) = true) : k = 1 ∨ k = 2 ∨ k = 3 ∨ k = 4 := by
  have := wi_yes h
  unfold grt at this
  split at this
  · omega
  · split at this
    · omega
    · omega
theorem grt_le {p : Pol} {s : St} (h : Ok p s) (k : Int) : grt p s k ≤ p.limit := by
  have := h.sum; have := h.tot0; have := h.held0; have := h.held1; have := h.lim
  unfold grt room
  split
  · omega
  · split <;> omega

set_option maxHeartbeats 16000000 in
theorem do_calls (p : Pol) (s : St) (A : Option Addr) (cap : Nat) (k now cost : Int) (w : World) (hA : Ents w A s.log) (hcap : s.log.length ≤ cap) :
    Calls Try.prog 18 #[p.val, s.val A s.log.length cap, .agg (acells k now cost)] w fun e w' => ∃ v, e = .returned (.tuple #[v, .bool (act p s k now cost).2]) ∧ Has w' w.heap.size v (act p s k now cost).1 ∧ Below w.heap.size w w' := by
  have HA := Lib.hid hA
  clear hA
  have HB4 := Lib.hid (below_four w p.box (s.box A s.log.length cap) (.cells (acells k now cost) 38) (.cells (scells 0 0 0 (.slice none 0 0)) 32))
  unfold Pol.val St.val
  cases h0 : right p s with
  | false =>
    have E := Lib.hid (show act p s k now cost = (zero, false) by simp [act, h0])
    have H0 := Lib.hid h0
    clear h0
    go_enter Try.func18, Try.ntmps18
    go_wp2_with fail
    refine (right_no H0.out A cap _ (HA.out.keep HB4.out)).mono ?_
    rintro e w1 ⟨rfl, hb1⟩
    have hg : w1.heap[w.heap.size + 1 + 1 + 1]? = some (.cells (scells 0 0 0 (.slice none 0 0)) 32 (0, 0)) := by rw [hb1.block _ (by simp)]; exact (heap_alloc4 _ _ _ _ _).1
    have HB1 := Lib.hid hb1
    clear hb1
    go_wp2_with (refine wpList_store_row rfl 32 _ _ rfl (w.heap.size + 1 + 1 + 1) (scells 0 0 0 (.slice none 0 0)) rfl rfl 32 _ hg st_size rfl (scells_one _ _ _ _ (slice_one _ _ _)) ?_)
    refine ret_st2 Try.results18 rfl rfl rfl (setRow_heap _ _ _ _ _ _ hg) ⟨_, by rw [E.out]; rfl, ?_, ?_⟩
    · rw [E.out]; exact has_zero _ _
    · exact below_setRow (HB4.out.trans (HB1.out.mono (by simp <;> omega))) (by omega) _
  | true =>
    have H0 := Lib.hid h0
    have HO := Lib.hid ((right_ok h0).adv now)
    have l1 := HO.out.lim
    have l2 := HO.out.tot1
    have l3 := HO.out.held0
    have l4 := HO.out.held1
    have l5 := HO.out.n
    have l6 := (right_ok h0).n
    have l7 := grt_le HO.out k
    have z1 : ∀ w1 : World, Below ((((w.alloc p.box).alloc (s.box A s.log.length cap)).alloc (.cells (acells k now cost) 38)).alloc (.cells (scells 0 0 0 (.slice none 0 0)) 32)).heap.size ((((w.alloc p.box).alloc (s.box A s.log.length cap)).alloc (.cells (acells k now cost) 38)).alloc (.cells (scells 0 0 0 (.slice none 0 0)) 32)) w1 → w.heap.size + 1 + 1 + 1 < w1.heap.size := fun w1 h => by have := h.size; simp at this; omega
    cases hh : wi cost 1 (grt p (adv p s now) k) with
    | false =>
      have E := Lib.hid (show act p s k now cost = (s, false) by simp [act, h0, hh])
      have HH := Lib.hid hh
      clear h0 hh
      go_enter Try.func18, Try.ntmps18
      go_wp2_with fail
      refine (right_yes H0.out A cap _ (HA.out.keep HB4.out)).mono ?_
      rintro e w1 ⟨rfl, hb1⟩
      have hg1 : w1.heap[w.heap.size + 1 + 1 + 1]? = some (.cells (scells 0 0 0 (.slice none 0 0)) 32 (0, 0)) := by rw [hb1.block _ (by simp)]; exact (heap_alloc4 _ _ _ _ _).1
      have dp0 : w1.cell? ⟨w.heap.size, 0, none⟩ = some (.int .i64 p.kind) := by rw [hb1.cell (by simp <;> omega)]; simp [go_sem]
      have dp1 : w1.cell? ⟨w.heap.size, 1, none⟩ = some (.int .i64 p.limit) := by rw [hb1.cell (by simp <;> omega)]; simp [go_sem]
      have dp2 : w1.cell? ⟨w.heap.size, 2, none⟩ = some (.int .i64 p.period) := by rw [hb1.cell (by simp <;> omega)]; simp [go_sem]
      have dp3 : w1.cell? ⟨w.heap.size, 3, none⟩ = some (.int .i64 p.burst) := by rw [hb1.cell (by simp <;> omega)]; simp [go_sem]
      have dp4 : w1.cell? ⟨w.heap.size, 4, none⟩ = some (.int .i64 p.cap) := by rw [hb1.cell (by simp <;> omega)]; simp [go_sem]
      have dp5 : w1.cell? ⟨w.heap.size, 5, none⟩ = some (.bool p.opn) := by rw [hb1.cell (by simp <;> omega)]; simp [go_sem]
      have ds0 : w1.cell? ⟨w.heap.size + 1, 0, none⟩ = some (.int .i64 s.tm) := by rw [hb1.cell (by simp <;> omega)]; simp [go_sem]
      have ds1 : w1.cell? ⟨w.heap.size + 1, 1, none⟩ = some (.int .i64 s.level) := by rw [hb1.cell (by simp <;> omega)]; simp [go_sem]
      have ds2 : w1.cell? ⟨w.heap.size + 1, 2, none⟩ = some (.int .i64 s.held) := by rw [hb1.cell (by simp <;> omega)]; simp [go_sem]
      have ds3 : w1.cell? ⟨w.heap.size + 1, 3, none⟩ = some (.slice A s.log.length cap) := by rw [hb1.cell (by simp <;> omega)]; simp [go_sem]
      have da0 : w1.cell? ⟨w.heap.size + 1 + 1, 0, none⟩ = some (.int .i64 k) := by rw [hb1.cell (by simp <;> omega)]; simp [go_sem]
      have da1 : w1.cell? ⟨w.heap.size + 1 + 1, 1, none⟩ = some (.int .i64 now) := by rw [hb1.cell (by simp <;> omega)]; simp [go_sem]
      have da2 : w1.cell? ⟨w.heap.size + 1 + 1, 2, none⟩ = some (.int .i64 cost) := by rw [hb1.cell (by simp <;> omega)]; simp [go_sem]
      have hs1 : w1.heap[w.heap.size + 1]? = some (.cells (scells s.tm s.level s.held (.slice A s.log.length cap)) 32 (0, 0)) := by rw [hb1.block _ (by simp <;> omega)]; exact (heap_alloc4 _ _ _ _ _).2
      have z := z1 w1 hb1
      have HE := Lib.hid ((HA.out.keep HB4.out).keep hb1)
      have HB1 := Lib.hid (HB4.out.trans (hb1.mono (by simp <;> omega)))
      clear hb1 z1
      go_wp2_with fail
      refine (advance_calls p s A cap now _ HE.out hcap).mono ?_
      rintro e w2 ⟨v, rfl, ⟨u, rfl, ho⟩, hb2⟩
      obtain ⟨A', c', rfl, hE'⟩ := ho.ents
      have fp0 : w2.cell? ⟨w.heap.size, 0, none⟩ = some (.int .i64 p.kind) := by rw [hb2.cell (by simp <;> omega)]; exact dp0
      have fp1 : w2.cell? ⟨w.heap.size, 1, none⟩ = some (.int .i64 p.limit) := by rw [hb2.cell (by simp <;> omega)]; exact dp1
      have fp2 : w2.cell? ⟨w.heap.size, 2, none⟩ = some (.int .i64 p.period) := by rw [hb2.cell (by simp <;> omega)]; exact dp2
      have fp3 : w2.cell? ⟨w.heap.size, 3, none⟩ = some (.int .i64 p.burst) := by rw [hb2.cell (by simp <;> omega)]; exact dp3
      have fp4 : w2.cell? ⟨w.heap.size, 4, none⟩ = some (.int .i64 p.cap) := by rw [hb2.cell (by simp <;> omega)]; exact dp4
      have fp5 : w2.cell? ⟨w.heap.size, 5, none⟩ = some (.bool p.opn) := by rw [hb2.cell (by simp <;> omega)]; exact dp5
      have fs0 : w2.cell? ⟨w.heap.size + 1, 0, none⟩ = some (.int .i64 s.tm) := by rw [hb2.cell (by simp <;> omega)]; exact ds0
      have fs1 : w2.cell? ⟨w.heap.size + 1, 1, none⟩ = some (.int .i64 s.level) := by rw [hb2.cell (by simp <;> omega)]; exact ds1
      have fs2 : w2.cell? ⟨w.heap.size + 1, 2, none⟩ = some (.int .i64 s.held) := by rw [hb2.cell (by simp <;> omega)]; exact ds2
      have fs3 : w2.cell? ⟨w.heap.size + 1, 3, none⟩ = some (.slice A s.log.length cap) := by rw [hb2.cell (by simp <;> omega)]; exact ds3
      have fa0 : w2.cell? ⟨w.heap.size + 1 + 1, 0, none⟩ = some (.int .i64 k) := by rw [hb2.cell (by simp <;> omega)]; exact da0
      have fa1 : w2.cell? ⟨w.heap.size + 1 + 1, 1, none⟩ = some (.int .i64 now) := by rw [hb2.cell (by simp <;> omega)]; exact da1
      have fa2 : w2.cell? ⟨w.heap.size + 1 + 1, 2, none⟩ = some (.int .i64 cost) := by rw [hb2.cell (by simp <;> omega)]; exact da2
      have hg2 : w2.heap[w.heap.size + 1 + 1 + 1]? = some (.cells (scells 0 0 0 (.slice none 0 0)) 32 (0, 0)) := by rw [hb2.block _ z]; exact hg1
      have hs2 : w2.heap[w.heap.size + 1]? = some (.cells (scells s.tm s.level s.held (.slice A s.log.length cap)) 32 (0, 0)) := by rw [hb2.block _ (by omega)]; exact hs1
      have z2 : w1.heap.size ≤ w2.heap.size := hb2.size
      have HEE := Lib.hid (hE'.alloc (.cells (scells (adv p s now).tm (adv p s now).level (adv p s now).held (.slice A' (adv p s now).log.length c')) 32))
      have HOW := Lib.hid ho
      have HB2 := Lib.hid (HB1.out.trans (hb2.mono (by omega)))
      have HE2 := Lib.hid (HE.out.keep hb2)
      have zn1 : ¬ (w.heap.size = w2.heap.size) := by omega
      have zn2 : ¬ (w.heap.size + 1 = w2.heap.size) := by omega
      have zn3 : ¬ (w.heap.size + 1 + 1 = w2.heap.size) := by omega
      have zl1 : w.heap.size < w2.heap.size := by omega
      have zl2 : w.heap.size + 1 < w2.heap.size := by omega
      have zl3 : w.heap.size + 1 + 1 < w2.heap.size := by omega
      clear ho hb2 hE' dp0 dp1 dp2 dp3 dp4 dp5 ds0 ds1 ds2 ds3 da0 da1 da2
      go_wp2_with fail
      go_region_held3 (fun w' => w'.cell? ⟨w.heap.size, 0, none⟩ = some (.int .i64 p.kind) ∧ w'.cell? ⟨w.heap.size, 1, none⟩ = some (.int .i64 p.limit) ∧ w'.cell? ⟨w.heap.size, 2, none⟩ = some (.int .i64 p.period) ∧ w'.cell? ⟨w.heap.size, 3, none⟩ = some (.int .i64 p.burst) ∧ w'.cell? ⟨w.heap.size, 4, none⟩ = some (.int .i64 p.cap) ∧ w'.cell? ⟨w.heap.size, 5, none⟩ = some (.bool p.opn) ∧ w'.cell? ⟨w.heap.size + 1 + 1, 0, none⟩ = some (.int .i64 k) ∧ w'.cell? ⟨w.heap.size + 1 + 1, 1, none⟩ = some (.int .i64 now) ∧ w'.cell? ⟨w.heap.size + 1 + 1, 2, none⟩ = some (.int .i64 cost) ∧ w'.cell? ⟨w2.heap.size, 0, none⟩ = some (.int .i64 (adv p s now).tm) ∧ w'.cell? ⟨w2.heap.size, 1, none⟩ = some (.int .i64 (adv p s now).level) ∧ w'.cell? ⟨w2.heap.size, 2, none⟩ = some (.int .i64 (adv p s now).held) ∧ w'.cell? ⟨w2.heap.size, 3, none⟩ = some (.slice A' (adv p s now).log.length c')) (go_keep) (first | (go_at_call 35; refine (greatest_calls p (adv p s now) A' c' k _ (HEE.out.keep (Below.refl _ _).drew) HO.out.costs l2 (by omega) (by omega) l3 (by omega) (by omega)).mono ?_; rintro e w4 ⟨rfl, hb4⟩; have gp0 := hb4.cell (p := ⟨w.heap.size, 0, none⟩) (by simp <;> omega); have gp1 := hb4.cell (p := ⟨w.heap.size, 1, none⟩) (by simp <;> omega); have gp2 := hb4.cell (p := ⟨w.heap.size, 2, none⟩) (by simp <;> omega); have gp3 := hb4.cell (p := ⟨w.heap.size, 3, none⟩) (by simp <;> omega); have gp4 := hb4.cell (p := ⟨w.heap.size, 4, none⟩) (by simp <;> omega); have gp5 := hb4.cell (p := ⟨w.heap.size, 5, none⟩) (by simp <;> omega); have ga0 := hb4.cell (p := ⟨w.heap.size + 1 + 1, 0, none⟩) (by simp <;> omega); have ga1 := hb4.cell (p := ⟨w.heap.size + 1 + 1, 1, none⟩) (by simp <;> omega); have ga2 := hb4.cell (p := ⟨w.heap.size + 1 + 1, 2, none⟩) (by simp <;> omega); have gt0 := hb4.cell (p := ⟨w2.heap.size, 0, none⟩) (by simp <;> omega); have gt1 := hb4.cell (p := ⟨w2.heap.size, 1, none⟩) (by simp <;> omega); have gt2 := hb4.cell (p := ⟨w2.heap.size, 2, none⟩) (by simp <;> omega); have gt3 := hb4.cell (p := ⟨w2.heap.size, 3, none⟩) (by simp <;> omega)) | (go_at_call 27; refine (within_is HH.out _).mono ?_; rintro e w' ⟨rfl, rfl⟩))
      have z4 : w2.heap.size < w4.heap.size := by have := hb4.size; simp at this; omega
      have hs4 : w4.heap[w.heap.size + 1]? = some (.cells (scells s.tm s.level s.held (.slice A s.log.length cap)) 32 (0, 0)) := by rw [hb4.block _ (by simp <;> omega)]; exact (heap_alloc_old _ _ (by omega)).trans hs2
      have hg4 : w4.heap[w.heap.size + 1 + 1 + 1]? = some (.cells (scells 0 0 0 (.slice none 0 0)) 32 (0, 0)) := by rw [hb4.block _ (by simp <;> omega)]; exact (heap_alloc_old _ _ (by omega)).trans hg2
      have HB4' := Lib.hid (HB2.out.trans (((((Below.refl _ _).alloc (Nat.le_refl _) _).drew.trans (hb4.mono (by simp <;> omega))).mono (show w.heap.size ≤ w2.heap.size by omega))))
      have s0 : w4.cell? ⟨w.heap.size + 1, 0, none⟩ = some (.int .i64 s.tm) := by rw [cell_of_row _ _ _ _ _ _ hs4]; rfl
      have s1 : w4.cell? ⟨w.heap.size + 1, 1, none⟩ = some (.int .i64 s.level) := by rw [cell_of_row _ _ _ _ _ _ hs4]; rfl
      have s2 : w4.cell? ⟨w.heap.size + 1, 2, none⟩ = some (.int .i64 s.held) := by rw [cell_of_row _ _ _ _ _ _ hs4]; rfl
      have s3 : w4.cell? ⟨w.heap.size + 1, 3, none⟩ = some (.slice A s.log.length cap) := by rw [cell_of_row _ _ _ _ _ _ hs4]; rfl
      have sf : ∀ j, w4.frozen? ⟨w.heap.size + 1, j, none⟩ = false := fun j => frozen_of_row _ _ _ _ _ hs4
      have HE4 := Lib.hid (((HE2.out.alloc (.cells (scells (adv p s now).tm (adv p s now).level (adv p s now).held (.slice A' (adv p s now).log.length c')) 32)).keep (Below.refl _ _).drew).keep hb4)
      go_wp2_with fail
      refine (copied_calls A cap s.log _ HE4.out (by omega)).mono ?_
      rintro e w5 ⟨v, rfl, ho5, hb5⟩
      obtain ⟨A5, c5, rfl, -⟩ := ho5.ents
      have hs5 : w5.heap[w.heap.size + 1]? = some (.cells (scells s.tm s.level s.held (.slice A s.log.length cap)) 32 (0, 0)) := by rw [hb5.block _ (by omega)]; exact hs4
      have hg5 : w5.heap[w.heap.size + 1 + 1 + 1]? = some (.cells (scells 0 0 0 (.slice none 0 0)) 32 (0, 0)) := by rw [hb5.block _ (by omega)]; exact hg4
      have q0 : w5.cell? ⟨w.heap.size + 1, 0, none⟩ = some (.int .i64 s.tm) := by rw [cell_of_row _ _ _ _ _ _ hs5]; rfl
      have q1 : w5.cell? ⟨w.heap.size + 1, 1, none⟩ = some (.int .i64 s.level) := by rw [cell_of_row _ _ _ _ _ _ hs5]; rfl
      have q2 : w5.cell? ⟨w.heap.size + 1, 2, none⟩ = some (.int .i64 s.held) := by rw [cell_of_row _ _ _ _ _ _ hs5]; rfl
      have q3 : w5.cell? ⟨w.heap.size + 1, 3, none⟩ = some (.slice A s.log.length cap) := by rw [cell_of_row _ _ _ _ _ _ hs5]; rfl
      have qf : ∀ j, w5.frozen? ⟨w.heap.size + 1, j, none⟩ = false := fun j => frozen_of_row _ _ _ _ _ hs5
      have r0 : w5.cell? ⟨w.heap.size + 1 + 1 + 1, 0, none⟩ = some (.int .i64 0) := by rw [cell_of_row _ _ _ _ _ _ hg5]; rfl
      have r1 : w5.cell? ⟨w.heap.size + 1 + 1 + 1, 1, none⟩ = some (.int .i64 0) := by rw [cell_of_row _ _ _ _ _ _ hg5]; rfl
      have r2 : w5.cell? ⟨w.heap.size + 1 + 1 + 1, 2, none⟩ = some (.int .i64 0) := by rw [cell_of_row _ _ _ _ _ _ hg5]; rfl
      have r3 : w5.cell? ⟨w.heap.size + 1 + 1 + 1, 3, none⟩ = some (.slice none 0 0) := by rw [cell_of_row _ _ _ _ _ _ hg5]; rfl
      have rf : ∀ j, w5.frozen? ⟨w.heap.size + 1 + 1 + 1, j, none⟩ = false := fun j => frozen_of_row _ _ _ _ _ hg5
      have zb := hb5.size
      have HO5 := Lib.hid ho5
      have HB5 := Lib.hid (HB4'.out.trans (hb5.mono (by omega)))
      have HS5 := Lib.hid hs5
      have HG5 := Lib.hid hg5
      have zn4 : ¬ (w.heap.size + 1 = w.heap.size + 1 + 1 + 1) := by omega
      clear ho5 hb5 hs5 hg5
      go_wp2_with fail
      have r3' : (w5.setCell ⟨w.heap.size + 1, 3, none⟩ (.slice A5 s.log.length c5)).heap[w.heap.size + 1 + 1 + 1]? = some (.cells (scells 0 0 0 (.slice none 0 0)) 32 (0, 0)) := by rw [Below.heap_setCell _ _ _ _ (by simp <;> omega)]; exact HG5.out
      refine ret_st2 Try.results18 rfl rfl rfl (set4_heap r3' _ _ _ _) ⟨_, by rw [E.out]; rfl, ?_, ?_⟩
      · rw [E.out]; exact ⟨_, rfl, ((HO5.out.setOther HS5.out 3 _).setOther4 r3' _ _ _ _).mono (by omega)⟩
      · exact below_set4 (HB5.out.setCell (by show w.heap.size ≤ w.heap.size + 1; omega) _) (by omega) _ _ _ _
    | true =>
      have E := Lib.hid (show act p s k now cost = (dn p (adv p s now) k cost, true) by simp [act, h0, hh])
      have hk := grt_kind hh
      have hw := wi_yes hh
      have HH := Lib.hid hh
      clear h0 hh
      go_enter Try.func18, Try.ntmps18
      go_wp2_with fail
      refine (right_yes H0.out A cap _ (HA.out.keep HB4.out)).mono ?_
      rintro e w1 ⟨rfl, hb1⟩
      have hg1 : w1.heap[w.heap.size + 1 + 1 + 1]? = some (.cells (scells 0 0 0 (.slice none 0 0)) 32 (0, 0)) := by rw [hb1.block _ (by simp)]; exact (heap_alloc4 _ _ _ _ _).1
      have dp0 : w1.cell? ⟨w.heap.size, 0, none⟩ = some (.int .i64 p.kind) := by rw [hb1.cell (by simp <;> omega)]; simp [go_sem]
      have dp1 : w1.cell? ⟨w.heap.size, 1, none⟩ = some (.int .i64 p.limit) := by rw [hb1.cell (by simp <;> omega)]; simp [go_sem]
      have dp2 : w1.cell? ⟨w.heap.size, 2, none⟩ = some (.int .i64 p.period) := by rw [hb1.cell (by simp <;> omega)]; simp [go_sem]
      have dp3 : w1.cell? ⟨w.heap.size, 3, none⟩ = some (.int .i64 p.burst) := by rw [hb1.cell (by simp <;> omega)]; simp [go_sem]
      have dp4 : w1.cell? ⟨w.heap.size, 4, none⟩ = some (.int .i64 p.cap) := by rw [hb1.cell (by simp <;> omega)]; simp [go_sem]
      have dp5 : w1.cell? ⟨w.heap.size, 5, none⟩ = some (.bool p.opn) := by rw [hb1.cell (by simp <;> omega)]; simp [go_sem]
      have ds0 : w1.cell? ⟨w.heap.size + 1, 0, none⟩ = some (.int .i64 s.tm) := by rw [hb1.cell (by simp <;> omega)]; simp [go_sem]
      have ds1 : w1.cell? ⟨w.heap.size + 1, 1, none⟩ = some (.int .i64 s.level) := by rw [hb1.cell (by simp <;> omega)]; simp [go_sem]
      have ds2 : w1.cell? ⟨w.heap.size + 1, 2, none⟩ = some (.int .i64 s.held) := by rw [hb1.cell (by simp <;> omega)]; simp [go_sem]
      have ds3 : w1.cell? ⟨w.heap.size + 1, 3, none⟩ = some (.slice A s.log.length cap) := by rw [hb1.cell (by simp <;> omega)]; simp [go_sem]
      have da0 : w1.cell? ⟨w.heap.size + 1 + 1, 0, none⟩ = some (.int .i64 k) := by rw [hb1.cell (by simp <;> omega)]; simp [go_sem]
      have da1 : w1.cell? ⟨w.heap.size + 1 + 1, 1, none⟩ = some (.int .i64 now) := by rw [hb1.cell (by simp <;> omega)]; simp [go_sem]
      have da2 : w1.cell? ⟨w.heap.size + 1 + 1, 2, none⟩ = some (.int .i64 cost) := by rw [hb1.cell (by simp <;> omega)]; simp [go_sem]
      have hs1 : w1.heap[w.heap.size + 1]? = some (.cells (scells s.tm s.level s.held (.slice A s.log.length cap)) 32 (0, 0)) := by rw [hb1.block _ (by simp <;> omega)]; exact (heap_alloc4 _ _ _ _ _).2
      have z := z1 w1 hb1
      have HE := Lib.hid ((HA.out.keep HB4.out).keep hb1)
      have HB1 := Lib.hid (HB4.out.trans (hb1.mono (by simp <;> omega)))
      clear hb1 z1
      go_wp2_with fail
      refine (advance_calls p s A cap now _ HE.out hcap).mono ?_
      rintro e w2 ⟨v, rfl, ⟨u, rfl, ho⟩, hb2⟩
      obtain ⟨A', c', rfl, hE'⟩ := ho.ents
      have fp0 : w2.cell? ⟨w.heap.size, 0, none⟩ = some (.int .i64 p.kind) := by rw [hb2.cell (by simp <;> omega)]; exact dp0
      have fp1 : w2.cell? ⟨w.heap.size, 1, none⟩ = some (.int .i64 p.limit) := by rw [hb2.cell (by simp <;> omega)]; exact dp1
      have fp2 : w2.cell? ⟨w.heap.size, 2, none⟩ = some (.int .i64 p.period) := by rw [hb2.cell (by simp <;> omega)]; exact dp2
      have fp3 : w2.cell? ⟨w.heap.size, 3, none⟩ = some (.int .i64 p.burst) := by rw [hb2.cell (by simp <;> omega)]; exact dp3
      have fp4 : w2.cell? ⟨w.heap.size, 4, none⟩ = some (.int .i64 p.cap) := by rw [hb2.cell (by simp <;> omega)]; exact dp4
      have fp5 : w2.cell? ⟨w.heap.size, 5, none⟩ = some (.bool p.opn) := by rw [hb2.cell (by simp <;> omega)]; exact dp5
      have fs0 : w2.cell? ⟨w.heap.size + 1, 0, none⟩ = some (.int .i64 s.tm) := by rw [hb2.cell (by simp <;> omega)]; exact ds0
      have fs1 : w2.cell? ⟨w.heap.size + 1, 1, none⟩ = some (.int .i64 s.level) := by rw [hb2.cell (by simp <;> omega)]; exact ds1
      have fs2 : w2.cell? ⟨w.heap.size + 1, 2, none⟩ = some (.int .i64 s.held) := by rw [hb2.cell (by simp <;> omega)]; exact ds2
      have fs3 : w2.cell? ⟨w.heap.size + 1, 3, none⟩ = some (.slice A s.log.length cap) := by rw [hb2.cell (by simp <;> omega)]; exact ds3
      have fa0 : w2.cell? ⟨w.heap.size + 1 + 1, 0, none⟩ = some (.int .i64 k) := by rw [hb2.cell (by simp <;> omega)]; exact da0
      have fa1 : w2.cell? ⟨w.heap.size + 1 + 1, 1, none⟩ = some (.int .i64 now) := by rw [hb2.cell (by simp <;> omega)]; exact da1
      have fa2 : w2.cell? ⟨w.heap.size + 1 + 1, 2, none⟩ = some (.int .i64 cost) := by rw [hb2.cell (by simp <;> omega)]; exact da2
      have hg2 : w2.heap[w.heap.size + 1 + 1 + 1]? = some (.cells (scells 0 0 0 (.slice none 0 0)) 32 (0, 0)) := by rw [hb2.block _ z]; exact hg1
      have hs2 : w2.heap[w.heap.size + 1]? = some (.cells (scells s.tm s.level s.held (.slice A s.log.length cap)) 32 (0, 0)) := by rw [hb2.block _ (by omega)]; exact hs1
      have z2 : w1.heap.size ≤ w2.heap.size := hb2.size
      have HEE := Lib.hid (hE'.alloc (.cells (scells (adv p s now).tm (adv p s now).level (adv p s now).held (.slice A' (adv p s now).log.length c')) 32))
      have HOW := Lib.hid ho
      have HB2 := Lib.hid (HB1.out.trans (hb2.mono (by omega)))
      have HE2 := Lib.hid (HE.out.keep hb2)
      have zn1 : ¬ (w.heap.size = w2.heap.size) := by omega
      have zn2 : ¬ (w.heap.size + 1 = w2.heap.size) := by omega
      have zn3 : ¬ (w.heap.size + 1 + 1 = w2.heap.size) := by omega
      have zl1 : w.heap.size < w2.heap.size := by omega
      have zl2 : w.heap.size + 1 < w2.heap.size := by omega
      have zl3 : w.heap.size + 1 + 1 < w2.heap.size := by omega
      clear ho hb2 hE' dp0 dp1 dp2 dp3 dp4 dp5 ds0 ds1 ds2 ds3 da0 da1 da2
      go_wp2_with fail
      go_region_held3 (fun w' => w'.cell? ⟨w.heap.size, 0, none⟩ = some (.int .i64 p.kind) ∧ w'.cell? ⟨w.heap.size, 1, none⟩ = some (.int .i64 p.limit) ∧ w'.cell? ⟨w.heap.size, 2, none⟩ = some (.int .i64 p.period) ∧ w'.cell? ⟨w.heap.size, 3, none⟩ = some (.int .i64 p.burst) ∧ w'.cell? ⟨w.heap.size, 4, none⟩ = some (.int .i64 p.cap) ∧ w'.cell? ⟨w.heap.size, 5, none⟩ = some (.bool p.opn) ∧ w'.cell? ⟨w.heap.size + 1 + 1, 0, none⟩ = some (.int .i64 k) ∧ w'.cell? ⟨w.heap.size + 1 + 1, 1, none⟩ = some (.int .i64 now) ∧ w'.cell? ⟨w.heap.size + 1 + 1, 2, none⟩ = some (.int .i64 cost) ∧ w'.cell? ⟨w2.heap.size, 0, none⟩ = some (.int .i64 (adv p s now).tm) ∧ w'.cell? ⟨w2.heap.size, 1, none⟩ = some (.int .i64 (adv p s now).level) ∧ w'.cell? ⟨w2.heap.size, 2, none⟩ = some (.int .i64 (adv p s now).held) ∧ w'.cell? ⟨w2.heap.size, 3, none⟩ = some (.slice A' (adv p s now).log.length c')) (go_keep) (first | (go_at_call 35; refine (greatest_calls p (adv p s now) A' c' k _ (HEE.out.keep (Below.refl _ _).drew) HO.out.costs l2 (by omega) (by omega) l3 (by omega) (by omega)).mono ?_; rintro e w4 ⟨rfl, hb4⟩; have gp0 := hb4.cell (p := ⟨w.heap.size, 0, none⟩) (by simp <;> omega); have gp1 := hb4.cell (p := ⟨w.heap.size, 1, none⟩) (by simp <;> omega); have gp2 := hb4.cell (p := ⟨w.heap.size, 2, none⟩) (by simp <;> omega); have gp3 := hb4.cell (p := ⟨w.heap.size, 3, none⟩) (by simp <;> omega); have gp4 := hb4.cell (p := ⟨w.heap.size, 4, none⟩) (by simp <;> omega); have gp5 := hb4.cell (p := ⟨w.heap.size, 5, none⟩) (by simp <;> omega); have ga0 := hb4.cell (p := ⟨w.heap.size + 1 + 1, 0, none⟩) (by simp <;> omega); have ga1 := hb4.cell (p := ⟨w.heap.size + 1 + 1, 1, none⟩) (by simp <;> omega); have ga2 := hb4.cell (p := ⟨w.heap.size + 1 + 1, 2, none⟩) (by simp <;> omega); have gt0 := hb4.cell (p := ⟨w2.heap.size, 0, none⟩) (by simp <;> omega); have gt1 := hb4.cell (p := ⟨w2.heap.size, 1, none⟩) (by simp <;> omega); have gt2 := hb4.cell (p := ⟨w2.heap.size, 2, none⟩) (by simp <;> omega); have gt3 := hb4.cell (p := ⟨w2.heap.size, 3, none⟩) (by simp <;> omega)) | (go_at_call 27; refine (within_is HH.out _).mono ?_; rintro e w' ⟨rfl, rfl⟩))
      have z4 : w2.heap.size < w4.heap.size := by have := hb4.size; simp at this; omega
      have hs4 : w4.heap[w.heap.size + 1]? = some (.cells (scells s.tm s.level s.held (.slice A s.log.length cap)) 32 (0, 0)) := by rw [hb4.block _ (by simp <;> omega)]; exact (heap_alloc_old _ _ (by omega)).trans hs2
      have hg4 : w4.heap[w.heap.size + 1 + 1 + 1]? = some (.cells (scells 0 0 0 (.slice none 0 0)) 32 (0, 0)) := by rw [hb4.block _ (by simp <;> omega)]; exact (heap_alloc_old _ _ (by omega)).trans hg2
      have HB4' := Lib.hid (HB2.out.trans (((((Below.refl _ _).alloc (Nat.le_refl _) _).drew.trans (hb4.mono (by simp <;> omega))).mono (show w.heap.size ≤ w2.heap.size by omega))))
      have HO4 := Lib.hid (((HOW.out.alloc (.cells (scells (adv p s now).tm (adv p s now).level (adv p s now).held (.slice A' (adv p s now).log.length c')) 32)).keep (Below.refl _ _).drew).keep hb4)
      go_wp2_with fail
      refine (done_calls p (adv p s now) _ k now cost w1.heap.size _ HO4.out (by omega) (by omega) (fun e he => by have := HO.out.ent e he; omega) (by omega) (by omega) hk).mono ?_
      rintro e w5 ⟨v5, rfl, ⟨u5, rfl, ho5⟩, hb5⟩
      obtain ⟨A5, c5, rfl, -⟩ := ho5.ents
      have hg5 : w5.heap[w.heap.size + 1 + 1 + 1]? = some (.cells (scells 0 0 0 (.slice none 0 0)) 32 (0, 0)) := by rw [hb5.block _ z]; exact hg4
      have r0 : w5.cell? ⟨w.heap.size + 1 + 1 + 1, 0, none⟩ = some (.int .i64 0) := by rw [cell_of_row _ _ _ _ _ _ hg5]; rfl
      have r1 : w5.cell? ⟨w.heap.size + 1 + 1 + 1, 1, none⟩ = some (.int .i64 0) := by rw [cell_of_row _ _ _ _ _ _ hg5]; rfl
      have r2 : w5.cell? ⟨w.heap.size + 1 + 1 + 1, 2, none⟩ = some (.int .i64 0) := by rw [cell_of_row _ _ _ _ _ _ hg5]; rfl
      have r3 : w5.cell? ⟨w.heap.size + 1 + 1 + 1, 3, none⟩ = some (.slice none 0 0) := by rw [cell_of_row _ _ _ _ _ _ hg5]; rfl
      have rf : ∀ j, w5.frozen? ⟨w.heap.size + 1 + 1 + 1, j, none⟩ = false := fun j => frozen_of_row _ _ _ _ _ hg5
      have HO5 := Lib.hid ho5
      have HB5 := Lib.hid (HB4'.out.trans (hb5.mono (by omega)))
      have HG5 := Lib.hid hg5
      clear ho5 hb5 hg5
      go_wp2_with fail
      refine ret_st2 Try.results18 rfl rfl rfl (set4_heap HG5.out _ _ _ _) ⟨_, by rw [E.out]; rfl, ?_, ?_⟩
      · rw [E.out]; exact ⟨_, rfl, (HO5.out.setOther4 HG5.out _ _ _ _).mono (by omega)⟩
      · exact below_set4 HB5.out (by omega) _ _ _ _

end Wn
end Go.Proofs.Ytljaemiggeeghaa
