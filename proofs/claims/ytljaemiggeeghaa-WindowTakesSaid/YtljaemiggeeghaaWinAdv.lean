/-
  What window.Advance answers, in any world; what a state that is right has.
-/
import Derived.Test.YtljaemiggeeghaaWinGrt
import Derived.Test.YtljaemiggeeghaaWinRem
import Derived.StillTailTactics
namespace Go.Proofs.Ytljaemiggeeghaa
open Go.RowKit
attribute [local go_sem ↓] Go.wp_at_zero Go.wp_at_succ
namespace Wn

/-- what a state that is right has -/
structure Ok (p : Pol) (s : St) : Prop where
  chk : chk p = true
  tm0 : 0 ≤ s.tm
  tm1 : s.tm ≤ 9007199254740992
  held0 : 0 ≤ s.held
  held1 : s.held ≤ p.limit
  level : s.level = 0
  len : (s.log.length : Int) ≤ p.cap
  ent : ∀ e ∈ s.log, 0 ≤ e.1 ∧ e.1 ≤ s.tm ∧ 1 ≤ e.2 ∧ e.2 ≤ p.limit
  sum : s.held + tot s.log ≤ p.limit
  sorted : s.log.Pairwise fun a b => a.1 ≤ b.1

theorem ordl_spec {lim tm : Int} {l : List (Int × Int)} : ∀ {b n : Int}, ordl lim tm b n l = true → (∀ e ∈ l, b ≤ e.1 ∧ e.1 ≤ tm ∧ 1 ≤ e.2 ∧ e.2 ≤ lim) ∧ (n ≤ lim → n + tot l ≤ lim) ∧ l.Pairwise fun a b => a.1 ≤ b.1 := by
  induction l with
  | nil => intro b n _; exact ⟨by simp, fun h => by simpa [tot] using h, .nil⟩
  | cons e l ih =>
    intro b n h
    rw [ordl_cons] at h
    simp only [Bool.and_eq_true, decide_eq_true_eq] at h
    obtain ⟨⟨⟨h1, h2⟩, h3⟩, h4⟩ := h
    have h1 := wi_yes h1
    have h2 := wi_yes h2
    obtain ⟨i1, i2, i3⟩ := ih h4
    refine ⟨fun x hx => ?_, fun _ => by rw [tot_cons]; have := i2 h3; omega, .cons (fun x hx => (i1 x hx).1) i3⟩
    rcases List.mem_cons.1 hx with rfl | hx
    · exact ⟨h1.1, h1.2, h2.1, h2.2⟩
    · have := i1 x hx
      exact ⟨by omega, this.2⟩
theorem ordl_of {lim tm : Int} {l : List (Int × Int)} : ∀ {b n : Int}, (∀ e ∈ l, b ≤ e.1 ∧ e.1 ≤ tm ∧ 1 ≤ e.2 ∧ e.2 ≤ lim) → n + tot l ≤ lim → (l.Pairwise fun a b => a.1 ≤ b.1) → ordl lim tm b n l = true := by
  induction l with
  | nil => intro b n _ _ _; rfl
  | cons e l ih =>
    intro b n h1 h2 h3
    rw [ordl_cons]
    rw [tot_cons] at h2
    rw [List.pairwise_cons] at h3
    have he := h1 e (List.mem_cons_self ..)
    have h0 := tot_nonneg l fun x hx => (h1 x (List.mem_cons_of_mem _ hx)).2.2.1
    have hi := ih (b := e.1) (n := n + e.2) (fun x hx => ⟨h3.1 x hx, (h1 x (List.mem_cons_of_mem _ hx)).2⟩) (by omega) h3.2
    rw [hi, wi_of he.1 he.2.1, wi_of he.2.2.1 he.2.2.2]
    simp; omega

theorem right_ok {p : Pol} {s : St} (h : right p s = true) : Ok p s := by
  unfold right at h
  simp only [Bool.and_eq_true, decide_eq_true_eq] at h
  obtain ⟨⟨⟨⟨⟨h0, h1⟩, h2⟩, h3⟩, h4⟩, h5⟩ := h
  obtain ⟨i1, i2, i3⟩ := ordl_spec h5
  have h1 := wi_yes h1
  have h2 := wi_yes h2
  exact ⟨h0, h1.1, h1.2, h2.1, h2.2, h3, h4, i1, i2 h2.2, i3⟩
theorem ok_right {p : Pol} {s : St} (h : Ok p s) : right p s = true := by
  unfold right
  rw [h.chk, wi_of h.tm0 h.tm1, wi_of h.held0 h.held1, ordl_of h.ent h.sum h.sorted]
  simp [h.level, h.len]
theorem right_iff {p : Pol} {s : St} : right p s = true ↔ Ok p s := ⟨right_ok, ok_right⟩

theorem clamp_ge (t : Int) : 0 ≤ clamp t := by unfold clamp; split <;> (try split) <;> omega
theorem clamp_le (t : Int) : clamp t ≤ 9007199254740992 := by unfold clamp; split <;> (try split) <;> omega

/-- the bounds that the contracts ask for -/
theorem Ok.lim {p : Pol} {s : St} (h : Ok p s) : 1 ≤ p.limit ∧ p.limit ≤ 1048576 := (chk_spec h.chk).2.2.1
theorem Ok.per {p : Pol} {s : St} (h : Ok p s) : 1 ≤ p.period ∧ p.period ≤ 1099511627776 := (chk_spec h.chk).2.2.2.1
theorem Ok.cap {p : Pol} {s : St} (h : Ok p s) : 1 ≤ p.cap ∧ p.cap ≤ 100 := (chk_spec h.chk).2.2.2.2
theorem Ok.costs {p : Pol} {s : St} (h : Ok p s) : ∀ e ∈ s.log, 1 ≤ e.2 := fun e he => (h.ent e he).2.2.1
theorem Ok.times {p : Pol} {s : St} (h : Ok p s) : ∀ e ∈ s.log, 0 ≤ e.1 ∧ e.1 ≤ 9007199254740992 := fun e he => by have := h.ent e he; have := h.tm1; omega
theorem Ok.tot0 {p : Pol} {s : St} (h : Ok p s) : 0 ≤ tot s.log := tot_nonneg _ h.costs
theorem Ok.tot1 {p : Pol} {s : St} (h : Ok p s) : tot s.log ≤ 1048576 := by have := h.sum; have := h.held0; have := h.lim; omega
theorem Ok.n {p : Pol} {s : St} (h : Ok p s) : s.log.length ≤ 100 := by have := h.len; have := h.cap; omega

def advTm (s : St) (now : Int) : Int := max s.tm (clamp now)
def adv0 (p : Pol) (s : St) (now : Int) : St := ⟨advTm s now, 0, s.held, rem p.period (advTm s now) s.log⟩
def adv (p : Pol) (s : St) (now : Int) : St := if right p s then adv0 p s now else zero

/-- the value of a state whose entries lie in a row of the call's own, from block B on -/
def Has (w : World) (B : Nat) (v : Value) (s : St) : Prop := ∃ u, v = .agg (scells s.tm s.level s.held u) ∧ Own w B u s.log
theorem Has.keep {w w' : World} {B : Nat} {v : Value} {s : St} (h : Has w B v s) (hb : Below w.heap.size w w') : Has w' B v s := by
  obtain ⟨u, e, ho⟩ := h; exact ⟨u, e, ho.keep hb⟩
theorem Has.mono {w : World} {B B' : Nat} {v : Value} {s : St} (h : Has w B v s) (hB : B' ≤ B) : Has w B' v s := by
  obtain ⟨u, e, ho⟩ := h; exact ⟨u, e, ho.mono hB⟩
theorem has_zero (w : World) (B : Nat) : Has w B (.agg (scells 0 0 0 (.slice none 0 0))) zero := ⟨_, rfl, Own.nil _ _⟩

theorem Own.set4 {w : World} {B g : Nat} {v : Value} {l : List (Int × Int)} (h : Own w B v l) (hg : g < B) (a b c d : Value) : Own ((((w.setCell ⟨g, 0, none⟩ a).setCell ⟨g, 1, none⟩ b).setCell ⟨g, 2, none⟩ c).setCell ⟨g, 3, none⟩ d) B v l :=
  ownsRow_setCell_below (ownsRow_setCell_below (ownsRow_setCell_below (ownsRow_setCell_below h hg _) hg _) hg _) hg _
theorem below_set4 {w w0 : World} {B g : Nat} (h : Below B w0 w) (hg : B ≤ g) (a b c d : Value) : Below B w0 ((((w.setCell ⟨g, 0, none⟩ a).setCell ⟨g, 1, none⟩ b).setCell ⟨g, 2, none⟩ c).setCell ⟨g, 3, none⟩ d) :=
  (((h.setCell hg _).setCell hg _).setCell hg _).setCell hg _

theorem set4_heap {w : World} {g : Nat} {x y z u : Value} (hg : w.heap[g]? = some (.cells #[x, y, z, u] 32 (0, 0))) (a b c d : Value) : ((((w.setCell ⟨g, 0, none⟩ a).setCell ⟨g, 1, none⟩ b).setCell ⟨g, 2, none⟩ c).setCell ⟨g, 3, none⟩ d).heap[g]? = some (.cells #[a, b, c, d] 32 (0, 0)) :=
  heap_setCell_same _ _ _ _ _ _ (heap_setCell_same _ _ _ _ _ _ (heap_setCell_same _ _ _ _ _ _ (heap_setCell_same _ _ _ _ _ _ hg)))
/-- one result, a state that was stored -/
theorem ret_st {fn : Func} {q : Tmp} {Q : Ending → World → Prop} {a : Act} {w : World} {g : Nat} {x y z u : Value} {fr : Nat × Nat} (h : fn.results = #[.cell q 32]) (hp : a.tmps.getD q undef = .pointer (some ⟨g, 0, none⟩)) (hd : a.defers = []) (hg : w.heap[g]? = some (.cells #[x, y, z, u] 32 fr))
    (hQ : Q (.returned (.agg #[x, y, z, u])) w) : bodyPost Try.prog fn Q .ret a w :=
  bodyPost_ret (results_cell_row h _ _ g 32 _ fr _ hp hg Try.underlying32 rfl st_size) hd hQ

theorem right_yes {p : Pol} {s : St} (h : right p s = true) (A : Option Addr) (cap : Nat) (w : World) (hA : Ents w A s.log) :
    Calls Try.prog 24 #[p.val, s.val A s.log.length cap] w fun e w' => e = .returned (.bool true) ∧ Below w.heap.size w w' := by
  have := right_calls p s A cap w hA; rw [h] at this; exact this
theorem right_no {p : Pol} {s : St} (h : right p s = false) (A : Option Addr) (cap : Nat) (w : World) (hA : Ents w A s.log) :
    Calls Try.prog 24 #[p.val, s.val A s.log.length cap] w fun e w' => e = .returned (.bool false) ∧ Below w.heap.size w w' := by
  have := right_calls p s A cap w hA; rw [h] at this; exact this

theorem below_three (w : World) (o o' o'' : Obj) : Below w.heap.size w (((w.alloc o).alloc o').alloc o'') := (below_two w o o').alloc (by simp; omega) _
theorem heap_alloc3_new (w : World) (A B C : Obj) : (((w.alloc A).alloc B).alloc C).heap[w.heap.size + 1 + 1]? = some C := by
  have := heap_alloc2_new (w.alloc A) B C
  simpa using this

set_option maxHeartbeats 4000000 in
theorem advance_calls (p : Pol) (s : St) (A : Option Addr) (cap : Nat) (now : Int) (w : World) (hA : Ents w A s.log) (hcap : s.log.length ≤ cap) :
    Calls Try.prog 26 #[p.val, s.val A s.log.length cap, .int .i64 now] w fun e w' => ∃ v, e = .returned v ∧ Has w' w.heap.size v (adv p s now) ∧ Below w.heap.size w w' := by
  have HA := Lib.hid hA
  clear hA
  unfold Pol.val St.val
  cases h0 : right p s with
  | false =>
    have E := Lib.hid (show adv p s now = zero by simp [adv, h0])
    have H0 := Lib.hid h0
    have HB3 := Lib.hid (below_three w p.box (s.box A s.log.length cap) (.cells (scells 0 0 0 (.slice none 0 0)) 32))
    clear h0
    go_enter Try.func26, Try.ntmps26
    go_wp2_with fail
    refine (right_no H0.out A cap _ (HA.out.keep HB3.out)).mono ?_
    rintro e w1 ⟨rfl, hb1⟩
    have hg : w1.heap[w.heap.size + 1 + 1]? = some (.cells (scells 0 0 0 (.slice none 0 0)) 32 (0, 0)) := by rw [hb1.block _ (by simp)]; exact heap_alloc3_new _ _ _ _
    have HB1 := Lib.hid hb1
    clear hb1
    go_wp2_with (refine wpList_store_row rfl 32 _ _ rfl (w.heap.size + 1 + 1) (scells 0 0 0 (.slice none 0 0)) rfl rfl 32 _ hg st_size rfl (scells_one _ _ _ _ (slice_one _ _ _)) ?_)
    refine bodyPost_ret (v := .agg (scells 0 0 0 (.slice none 0 0))) (results_cell_row (p := 6) (ty := 32) Try.results26 _ _ (w.heap.size + 1 + 1) 32 _ (0, 0) _ rfl (setRow_heap _ _ _ _ _ _ hg) Try.underlying32 rfl st_size) rfl ⟨_, rfl, ?_, ?_⟩
    · rw [E.out]; exact has_zero _ _
    · exact below_setRow (HB3.out.trans (HB1.out.mono (by simp; omega))) (by omega) _
  | true =>
    have E := Lib.hid (show adv p s now = adv0 p s now by simp [adv, h0])
    have H0 := Lib.hid h0
    have HO := Lib.hid (right_ok h0)
    have HB3 := Lib.hid (below_three w p.box (s.box A s.log.length cap) (.cells (scells 0 0 0 (.slice none 0 0)) 32))
    have gc0 := clamp_ge now
    have gc1 := clamp_le now
    have gt0 := HO.out.tm0
    have gt1 := HO.out.tm1
    have gn := HO.out.n
    clear h0
    go_enter Try.func26, Try.ntmps26
    go_wp2_with fail
    refine (right_yes H0.out A cap _ (HA.out.keep HB3.out)).mono ?_
    rintro e w1 ⟨rfl, hb1⟩
    have hg : w1.heap[w.heap.size + 1 + 1]? = some (.cells (scells 0 0 0 (.slice none 0 0)) 32 (0, 0)) := by rw [hb1.block _ (by simp)]; exact heap_alloc3_new _ _ _ _
    have d1 : w1.cell? ⟨w.heap.size + 1, 0, none⟩ = some (.int .i64 s.tm) := by rw [hb1.cell (by simp)]; simp [go_sem]
    have d2 : w1.cell? ⟨w.heap.size + 1, 2, none⟩ = some (.int .i64 s.held) := by rw [hb1.cell (by simp)]; simp [go_sem]
    have d3 : w1.cell? ⟨w.heap.size + 1, 3, none⟩ = some (.slice A s.log.length cap) := by rw [hb1.cell (by simp)]; simp [go_sem]
    have e0 : w1.cell? ⟨w.heap.size, 0, none⟩ = some (.int .i64 p.kind) := by rw [hb1.cell (by simp; omega)]; simp [go_sem]
    have e1 : w1.cell? ⟨w.heap.size, 1, none⟩ = some (.int .i64 p.limit) := by rw [hb1.cell (by simp; omega)]; simp [go_sem]
    have e2 : w1.cell? ⟨w.heap.size, 2, none⟩ = some (.int .i64 p.period) := by rw [hb1.cell (by simp; omega)]; simp [go_sem]
    have e3 : w1.cell? ⟨w.heap.size, 3, none⟩ = some (.int .i64 p.burst) := by rw [hb1.cell (by simp; omega)]; simp [go_sem]
    have e4 : w1.cell? ⟨w.heap.size, 4, none⟩ = some (.int .i64 p.cap) := by rw [hb1.cell (by simp; omega)]; simp [go_sem]
    have e5 : w1.cell? ⟨w.heap.size, 5, none⟩ = some (.bool p.opn) := by rw [hb1.cell (by simp; omega)]; simp [go_sem]
    have z1 : w.heap.size + 1 + 1 < w1.heap.size := by have := hb1.size; simp at this; omega
    have c0 : w1.cell? ⟨w.heap.size + 1 + 1, 0, none⟩ = some (.int .i64 0) := by rw [cell_of_row _ _ _ _ _ _ hg]; rfl
    have c1 : w1.cell? ⟨w.heap.size + 1 + 1, 1, none⟩ = some (.int .i64 0) := by rw [cell_of_row _ _ _ _ _ _ hg]; rfl
    have c2 : w1.cell? ⟨w.heap.size + 1 + 1, 2, none⟩ = some (.int .i64 0) := by rw [cell_of_row _ _ _ _ _ _ hg]; rfl
    have c3 : w1.cell? ⟨w.heap.size + 1 + 1, 3, none⟩ = some (.slice none 0 0) := by rw [cell_of_row _ _ _ _ _ _ hg]; rfl
    have c4 : ∀ j, w1.frozen? ⟨w.heap.size + 1 + 1, j, none⟩ = false := fun j => frozen_of_row _ _ _ _ _ hg
    have zn : ¬ (w.heap.size + 1 + 1 = w.heap.size) := by omega
    have HE := Lib.hid ((HA.out.keep HB3.out).keep hb1)
    have HB1 := Lib.hid hb1
    clear hb1
    by_cases hm : s.tm < clamp now
    · go_wp2_with fail
      go_quiet ((go_at_call 28; refine Calls.quiet_of_same ((numclamp_calls now _).mono fun _ _ h => ⟨h.1, h.2.symm⟩)))
      go_wp2_with fail
      go_region_held3 (fun w' => w'.cell? ⟨w.heap.size + 1, 2, none⟩ = some (.int .i64 s.held) ∧ w'.cell? ⟨w.heap.size + 1, 3, none⟩ = some (.slice A s.log.length cap) ∧ w'.cell? ⟨w.heap.size, 0, none⟩ = some (.int .i64 p.kind) ∧ w'.cell? ⟨w.heap.size, 1, none⟩ = some (.int .i64 p.limit) ∧ w'.cell? ⟨w.heap.size, 2, none⟩ = some (.int .i64 p.period) ∧ w'.cell? ⟨w.heap.size, 3, none⟩ = some (.int .i64 p.burst) ∧ w'.cell? ⟨w.heap.size, 4, none⟩ = some (.int .i64 p.cap) ∧ w'.cell? ⟨w.heap.size, 5, none⟩ = some (.bool p.opn)) (go_keep)
        (first | (go_at_call 42; refine (remembered_calls p A cap s.log (clamp now) _ (HE.out.keep (below_drewN (Below.refl _ _) _).drew) (by omega) hcap HO.out.times (by omega) (by omega)).mono ?_; rintro e w3 ⟨v, rfl, ho, hb⟩; obtain ⟨A', c', rfl, hE'⟩ := ho.ents; have f1 := hb.cell (p := ⟨w.heap.size + 1, 2, none⟩) (by simp; omega); have f2 := hb.cell (p := ⟨w.heap.size + 1, 3, none⟩) (by simp; omega); have f3 := hb.cell (p := ⟨w.heap.size, 0, none⟩) (by simp; omega); have f4 := hb.cell (p := ⟨w.heap.size, 1, none⟩) (by simp; omega); have f5 := hb.cell (p := ⟨w.heap.size, 2, none⟩) (by simp; omega); have f6 := hb.cell (p := ⟨w.heap.size, 3, none⟩) (by simp; omega); have f7 := hb.cell (p := ⟨w.heap.size, 4, none⟩) (by simp; omega); have f8 := hb.cell (p := ⟨w.heap.size, 5, none⟩) (by simp; omega); have g0 := hb.cell (p := ⟨w.heap.size + 1 + 1, 0, none⟩) (by simp; omega); have g1 := hb.cell (p := ⟨w.heap.size + 1 + 1, 1, none⟩) (by simp; omega); have g2 := hb.cell (p := ⟨w.heap.size + 1 + 1, 2, none⟩) (by simp; omega); have g3 := hb.cell (p := ⟨w.heap.size + 1 + 1, 3, none⟩) (by simp; omega); have g4 := hb.frozen (p := ⟨w.heap.size + 1 + 1, 0, none⟩) (by simp; omega); have g5 := hb.frozen (p := ⟨w.heap.size + 1 + 1, 1, none⟩) (by simp; omega); have g6 := hb.frozen (p := ⟨w.heap.size + 1 + 1, 2, none⟩) (by simp; omega); have g7 := hb.frozen (p := ⟨w.heap.size + 1 + 1, 3, none⟩) (by simp; omega)))
      go_wp2
      have hg3 : w3.heap[w.heap.size + 1 + 1]? = some (.cells (scells 0 0 0 (.slice none 0 0)) 32 (0, 0)) := by rw [hb.block _ (by simp; omega)]; exact hg
      refine ret_st Try.results26 rfl rfl (set4_heap hg3 _ _ _ _) ?_
      refine ⟨_, rfl, ?_, below_set4 ((HB3.out.trans (HB1.out.mono (by simp; omega))).trans ((below_drewN (Below.refl _ _) _).drew.trans (hb.mono (by simp; omega)))) (by omega) _ _ _ _⟩
      rw [E.out, adv0, show advTm s now = clamp now by unfold advTm; omega]
      exact ⟨_, rfl, (ho.set4 (by simp; omega) _ _ _ _).mono (by simp; omega)⟩
    · go_wp2_with fail
      go_quiet ((go_at_call 28; refine Calls.quiet_of_same ((numclamp_calls now _).mono fun _ _ h => ⟨h.1, h.2.symm⟩)))
      go_wp2_with fail
      go_region_held3 (fun w' => w'.cell? ⟨w.heap.size + 1, 2, none⟩ = some (.int .i64 s.held) ∧ w'.cell? ⟨w.heap.size + 1, 3, none⟩ = some (.slice A s.log.length cap) ∧ w'.cell? ⟨w.heap.size, 0, none⟩ = some (.int .i64 p.kind) ∧ w'.cell? ⟨w.heap.size, 1, none⟩ = some (.int .i64 p.limit) ∧ w'.cell? ⟨w.heap.size, 2, none⟩ = some (.int .i64 p.period) ∧ w'.cell? ⟨w.heap.size, 3, none⟩ = some (.int .i64 p.burst) ∧ w'.cell? ⟨w.heap.size, 4, none⟩ = some (.int .i64 p.cap) ∧ w'.cell? ⟨w.heap.size, 5, none⟩ = some (.bool p.opn)) (go_keep)
        (first | (go_at_call 42; refine (remembered_calls p A cap s.log s.tm _ (HE.out.keep (below_drewN (Below.refl _ _) _).drew) (by omega) hcap HO.out.times (by omega) (by omega)).mono ?_; rintro e w3 ⟨v, rfl, ho, hb⟩; obtain ⟨A', c', rfl, hE'⟩ := ho.ents; have f1 := hb.cell (p := ⟨w.heap.size + 1, 2, none⟩) (by simp; omega); have f2 := hb.cell (p := ⟨w.heap.size + 1, 3, none⟩) (by simp; omega); have f3 := hb.cell (p := ⟨w.heap.size, 0, none⟩) (by simp; omega); have f4 := hb.cell (p := ⟨w.heap.size, 1, none⟩) (by simp; omega); have f5 := hb.cell (p := ⟨w.heap.size, 2, none⟩) (by simp; omega); have f6 := hb.cell (p := ⟨w.heap.size, 3, none⟩) (by simp; omega); have f7 := hb.cell (p := ⟨w.heap.size, 4, none⟩) (by simp; omega); have f8 := hb.cell (p := ⟨w.heap.size, 5, none⟩) (by simp; omega); have g0 := hb.cell (p := ⟨w.heap.size + 1 + 1, 0, none⟩) (by simp; omega); have g1 := hb.cell (p := ⟨w.heap.size + 1 + 1, 1, none⟩) (by simp; omega); have g2 := hb.cell (p := ⟨w.heap.size + 1 + 1, 2, none⟩) (by simp; omega); have g3 := hb.cell (p := ⟨w.heap.size + 1 + 1, 3, none⟩) (by simp; omega); have g4 := hb.frozen (p := ⟨w.heap.size + 1 + 1, 0, none⟩) (by simp; omega); have g5 := hb.frozen (p := ⟨w.heap.size + 1 + 1, 1, none⟩) (by simp; omega); have g6 := hb.frozen (p := ⟨w.heap.size + 1 + 1, 2, none⟩) (by simp; omega); have g7 := hb.frozen (p := ⟨w.heap.size + 1 + 1, 3, none⟩) (by simp; omega)))
      go_wp2
      have hg3 : w3.heap[w.heap.size + 1 + 1]? = some (.cells (scells 0 0 0 (.slice none 0 0)) 32 (0, 0)) := by rw [hb.block _ (by simp; omega)]; exact hg
      refine ret_st Try.results26 rfl rfl (set4_heap hg3 _ _ _ _) ?_
      refine ⟨_, rfl, ?_, below_set4 ((HB3.out.trans (HB1.out.mono (by simp; omega))).trans ((below_drewN (Below.refl _ _) _).drew.trans (hb.mono (by simp; omega)))) (by omega) _ _ _ _⟩
      rw [E.out, adv0, show advTm s now = s.tm by unfold advTm; omega]
      exact ⟨_, rfl, (ho.set4 (by simp; omega) _ _ _ _).mono (by simp; omega)⟩


end Wn
end Go.Proofs.Ytljaemiggeeghaa
