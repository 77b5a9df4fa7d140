/-
  What window.New and greatest answer, in any world.
-/
import Derived.Test.YtljaemiggeeghaaWinRight
import Derived.Laws.Tables
import Derived.Laws.CopyOwn
namespace Go.Proofs.Ytljaemiggeeghaa
open Go.RowKit
namespace Wn

def zero : St := ⟨0, 0, 0, []⟩
def new (p : Pol) (now : Int) : St := if chk p then ⟨clamp now, 0, 0, []⟩ else zero

theorem st_size : (Try.prog.info? 32).map (·.size) = some 4 := by kernel_rfl
/-- a state that lies in memory -/
abbrev scells (tm lv hd : Int) (v : Value) : Array Value := #[.int .i64 tm, .int .i64 lv, .int .i64 hd, v]
theorem scells_one (tm lv hd : Int) (v : Value) (hv : v.oneCell' = true) : (scells tm lv hd v).all (·.oneCell') = true := by
  rw [← Array.all_toList]
  simp only [List.all_cons, List.all_nil, hv, Bool.and_true]
  rfl
theorem slice_one (A : Option Addr) (n c : Nat) : (Value.slice A n c).oneCell' = true := rfl

set_option maxHeartbeats 2000000 in
theorem new_calls (p : Pol) (now : Int) (w : World) : Calls Try.prog 15 #[p.val, .int .i64 now] w fun e w' => e = .returned ((new p now).val none 0 0) ∧ Below w.heap.size w w' := by
  unfold Pol.val St.val
  cases h0 : chk p with
  | false =>
    have E := Lib.hid (show new p now = zero by simp [new, h0])
    have H0 := Lib.hid h0
    clear h0
    go_enter Try.func15, Try.ntmps15
    go_wp2_with fail
    refine (check_no H0.out _).mono ?_
    rintro e w1 ⟨rfl, hb1⟩
    have hg : w1.heap[w.heap.size + 1]? = some (.cells (scells 0 0 0 (.slice none 0 0)) 32 (0, 0)) := by rw [hb1.block _ (by simp)]; exact heap_alloc2_new _ _ _
    have HB1 := Lib.hid hb1
    clear hb1
    go_wp2_with (refine wpList_store_row rfl 32 _ _ rfl (w.heap.size + 1) (scells 0 0 0 (.slice none 0 0)) rfl rfl 32 _ hg st_size rfl (scells_one _ _ _ _ (slice_one _ _ _)) ?_)
    refine bodyPost_ret (v := .agg (scells 0 0 0 (.slice none 0 0))) (results_cell_row (p := 4) (ty := 32) Try.results15 _ _ (w.heap.size + 1) 32 _ (0, 0) _ rfl (setRow_heap _ _ _ _ _ _ hg) Try.underlying32 rfl st_size) rfl ⟨?_, ?_⟩
    · rw [E.out]; rfl
    · exact below_setRow ((below_two w _ _).trans (HB1.out.mono (by simp; omega))) (by omega) _
  | true =>
    have E := Lib.hid (show new p now = ⟨clamp now, 0, 0, []⟩ by simp [new, h0])
    have H0 := Lib.hid h0
    clear h0
    go_enter Try.func15, Try.ntmps15
    go_wp2_with fail
    refine (check_yes H0.out _).mono ?_
    rintro e w1 ⟨rfl, hb1⟩
    have hg : w1.heap[w.heap.size + 1]? = some (.cells (scells 0 0 0 (.slice none 0 0)) 32 (0, 0)) := by rw [hb1.block _ (by simp)]; exact heap_alloc2_new _ _ _
    have HB1 := Lib.hid hb1
    clear hb1
    go_wp2_with fail
    refine (numclamp_calls now _).mono ?_
    rintro e w2 ⟨rfl, rfl⟩
    go_wp2_with (refine wpList_store_row rfl 32 _ _ rfl (w.heap.size + 1) (scells (clamp now) 0 0 (.slice none 0 0)) rfl rfl 32 _ hg st_size rfl (scells_one _ _ _ _ (slice_one _ _ _)) ?_)
    refine bodyPost_ret (v := .agg (scells (clamp now) 0 0 (.slice none 0 0))) (results_cell_row (p := 4) (ty := 32) Try.results15 _ _ (w.heap.size + 1) 32 _ (0, 0) _ rfl (setRow_heap _ _ _ _ _ _ hg) Try.underlying32 rfl st_size) rfl ⟨?_, ?_⟩
    · rw [E.out]
    · exact below_setRow ((below_two w _ _).trans (HB1.out.mono (by simp; omega))) (by omega) _

def room (p : Pol) (s : St) : Int := p.limit - s.held - tot s.log
def grt (p : Pol) (s : St) (k : Int) : Int := if k = 1 ∨ k = 2 then room p s else if k = 3 ∨ k = 4 then s.held else 0

set_option maxHeartbeats 2000000 in
theorem greatest_calls (p : Pol) (s : St) (A : Option Addr) (cap : Nat) (k : Int) (w : World) (hA : Ents w A s.log) (hc : ∀ e ∈ s.log, 1 ≤ e.2) (hl : tot s.log ≤ 1048576) (h1 : 0 ≤ p.limit) (h2 : p.limit ≤ 1048576) (h3 : 0 ≤ s.held) (h4 : s.held ≤ 1048576) (hn : s.log.length ≤ 1000) :
    Calls Try.prog 35 #[p.val, s.val A s.log.length cap, .int .i64 k] w fun e w' => e = .returned (.int .i64 (grt p s k)) ∧ Below w.heap.size w w' := by
  have HA := Lib.hid hA
  have HC := Lib.hid hc
  have HB0 := Lib.hid (below_two w p.box (s.box A s.log.length cap))
  clear hA hc
  unfold Pol.val St.val
  by_cases k1 : k = 1
  · subst k1
    go_enter Try.func35, Try.ntmps35
    go_wp2_with fail
    refine (room_calls p s A cap _ (HA.out.keep HB0.out) HC.out hl h1 h2 h3 h4 hn).mono ?_
    rintro e w1 ⟨rfl, hb1⟩
    have HB1 := Lib.hid hb1
    clear hb1
    go_wp2_with fail
    go_ret
    exact ⟨by simp [grt, room], HB0.out.trans (HB1.out.mono (by simp; omega))⟩
  · by_cases k2 : k = 2
    · subst k2
      go_enter Try.func35, Try.ntmps35
      go_wp2_with fail
      refine (room_calls p s A cap _ (HA.out.keep HB0.out) HC.out hl h1 h2 h3 h4 hn).mono ?_
      rintro e w1 ⟨rfl, hb1⟩
      have HB1 := Lib.hid hb1
      clear hb1
      go_wp2_with fail
      go_ret
      exact ⟨by simp [grt, room], HB0.out.trans (HB1.out.mono (by simp; omega))⟩
    · by_cases k3 : k = 3
      · subst k3
        go_enter Try.func35, Try.ntmps35
        go_wp2
        go_ret
        exact ⟨by simp [grt], HB0.out⟩
      · by_cases k4 : k = 4
        · subst k4
          go_enter Try.func35, Try.ntmps35
          go_wp2
          go_ret
          exact ⟨by simp [grt], HB0.out⟩
        · have E := Lib.hid (show grt p s k = 0 by simp [grt, k1, k2, k3, k4])
          go_enter Try.func35, Try.ntmps35
          go_wp2
          go_ret
          exact ⟨by rw [E.out]; rfl, HB0.out⟩

end Wn
end Go.Proofs.Ytljaemiggeeghaa
