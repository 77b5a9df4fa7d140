/-
  What the two comparisons answer; what a sort by them leaves.
-/
import Derived.Test.YtplinlgafgfepaaLedLay
namespace Go.Proofs.Ytplinlgafgfepaa.Ld
open Go.RowKit Go.Maps Pr Go.Sort
open Go.Lib (compareInt)

theorem isNaN_calls (a : Int) (w : World) : Calls Try.prog 48 #[.int .i64 a] w fun e w' => e = .returned (.bool false) ∧ w' = w := by
  have t : (a != a) = false := by simp
  go_enter Try.func48, Try.ntmps48
  go_wp2_with fail
  go_ret
  exact ⟨rfl, rfl⟩
theorem compare_calls (a b : Int) (w : World) : Calls Try.prog 42 #[.int .i64 a, .int .i64 b] w fun e w' => e = .returned (.int .i64 (compareInt a b)) ∧ w' = w := by
  by_cases h1 : a < b
  · have E := Lib.hid (show compareInt a b = -1 by unfold compareInt; rw [if_pos h1])
    go_enter Try.func42, Try.ntmps42
    go_wp2_with (go_at_call 48; refine (isNaN_calls _ _).mono ?_; rintro e w1 ⟨rfl, rfl⟩)
    go_ret
    exact ⟨by rw [E.out]; rfl, rfl⟩
  · by_cases h2 : b < a
    · have E := Lib.hid (show compareInt a b = 1 by unfold compareInt; rw [if_neg h1, if_pos h2])
      have t : decide (a < b) = false := decide_eq_false h1
      go_enter Try.func42, Try.ntmps42
      go_wp2_with (go_at_call 48; refine (isNaN_calls _ _).mono ?_; rintro e w1 ⟨rfl, rfl⟩)
      go_ret
      exact ⟨by rw [E.out]; rfl, rfl⟩
    · have E := Lib.hid (show compareInt a b = 0 by unfold compareInt; rw [if_neg h1, if_neg h2])
      have t : decide (a < b) = false := decide_eq_false h1
      have t2 : decide (b < a) = false := decide_eq_false h2
      have t3 : decide (a > b) = false := decide_eq_false h2
      go_enter Try.func42, Try.ntmps42
      go_wp2_with (go_at_call 48; refine (isNaN_calls _ _).mono ?_; rintro e w1 ⟨rfl, rfl⟩)
      go_ret
      exact ⟨by rw [E.out]; rfl, rfl⟩
def orI (a b : Int) : Int := if a = 0 then b else a
theorem or_calls (a b : Int) (g : Nat) (w : World) (h0 : w.cell? ⟨g, 0, none⟩ = some (.int .i64 a)) (h1 : w.cell? ⟨g, 1, none⟩ = some (.int .i64 b)) :
    Calls Try.prog 41 #[.slice (some ⟨g, 0, none⟩) 2 2] w fun e w' => e = .returned (.int .i64 (orI a b)) ∧ w' = w := by
  by_cases ha : a = 0
  · subst ha
    have E := Lib.hid (show orI 0 b = b from rfl)
    by_cases hb : b = 0
    · subst hb
      go_enter Try.func41, Try.ntmps41
      go_wp2_with fail
      refine wp_loop_rounds 3 ?_
      rw [rounds_succ]
      go_wp2_with fail
      rw [rounds_succ]
      go_wp2_with fail
      rw [rounds_succ]
      go_wp2_with fail
      go_ret
      exact ⟨by rw [E.out]; rfl, rfl⟩
    · have t : (b != 0) = true := by simpa using hb
      go_enter Try.func41, Try.ntmps41
      go_wp2_with fail
      refine wp_loop_rounds 2 ?_
      rw [rounds_succ]
      go_wp2_with fail
      rw [rounds_succ]
      go_wp2_with fail
      go_ret
      exact ⟨by rw [E.out]; rfl, rfl⟩
  · have E := Lib.hid (show orI a b = a from if_neg ha)
    have t : (a != 0) = true := by simpa using ha
    go_enter Try.func41, Try.ntmps41
    go_wp2_with fail
    refine wp_loop_rounds 1 ?_
    rw [rounds_succ]
    go_wp2_with fail
    go_ret
    exact ⟨by rw [E.out]; rfl, rfl⟩

theorem or_new (a b : Int) (g : Nat) (w : World) (T : TypeId) (hg : g = w.heap.size) :
    Calls Try.prog 41 #[.slice (some ⟨g, 0, none⟩) 2 2] (w.alloc (.cells #[.int .i64 a, .int .i64 b] T)).drew fun e w' => e = .returned (.int .i64 (orI a b)) ∧ w' = (w.alloc (.cells #[.int .i64 a, .int .i64 b] T)).drew := by
  subst hg
  exact or_calls a b _ _ (cell_of_row _ _ 0 _ _ _ (heap_alloc_new _ _)) (cell_of_row _ _ 1 _ _ _ (heap_alloc_new _ _))

set_option maxRecDepth 100000 in
theorem byId_calls (i t i' t' : Int) (A A' : Option Addr) (n c n' c' : Nat) (W : World) :
    Calls Try.prog 44 #[.agg #[.int .i64 i, .int .i64 t, .slice A n c], .agg #[.int .i64 i', .int .i64 t', .slice A' n' c']] W fun e w' => e = .returned (.int .i64 (compareInt i i')) ∧ ∃ q os', w' = grow (W.drewN q) os' := by
  go_enter Try.func44, Try.ntmps44
  go_wp2_with (go_at_call 42; refine (compare_calls _ _ _).mono ?_; rintro e w1 ⟨rfl, rfl⟩)
  go_ret
  exact ⟨rfl, 0, _, by rw [alloc_eq_grow, alloc_eq_grow, grow_grow]; rfl⟩
set_option maxRecDepth 100000 in
theorem byTill_calls (i t i' t' : Int) (A A' : Option Addr) (n c n' c' : Nat) (W : World) :
    Calls Try.prog 40 #[.agg #[.int .i64 i, .int .i64 t, .slice A n c], .agg #[.int .i64 i', .int .i64 t', .slice A' n' c']] W fun e w' => e = .returned (.int .i64 (orI (compareInt t t') (compareInt i i'))) ∧ ∃ q os', w' = grow (W.drewN q) os' := by
  have b1 := (Box.new W 38 #[.int .i64 i, .int .i64 t, .slice A n c]).alloc (.cells #[.int .i64 i', .int .i64 t', .slice A' n' c'] 38)
  have b2 := Box.new1 W 38 #[.int .i64 i', .int .i64 t', .slice A' n' c'] (.cells #[.int .i64 i, .int .i64 t, .slice A n c] 38)
  go_enter Try.func40, Try.ntmps40
  go_wp2_with fail
  go_region_held3 (fun w' => w'.cell? ⟨W.heap.size, 0, none⟩ = some (.int .i64 i) ∧ w'.cell? ⟨W.heap.size, 1, none⟩ = some (.int .i64 t) ∧ w'.cell? ⟨W.heap.size + 1, 0, none⟩ = some (.int .i64 i') ∧ w'.cell? ⟨W.heap.size + 1, 1, none⟩ = some (.int .i64 t')) (go_keep) (first | (go_at_call 42; refine (compare_calls _ _ _).mono ?_; rintro e w' ⟨rfl, rfl⟩) | (go_at_call 41; refine (or_new _ _ _ _ _ (by simp)).mono ?_; rintro e w' ⟨rfl, rfl⟩))
  all_goals (go_wp2_with fail)
  all_goals go_ret
  all_goals trace_state
  all_goals exact ⟨rfl, _, _, by simp only [alloc_eq_grow, drew_grow, grow_grow]; rfl⟩
end Go.Proofs.Ytplinlgafgfepaa.Ld
