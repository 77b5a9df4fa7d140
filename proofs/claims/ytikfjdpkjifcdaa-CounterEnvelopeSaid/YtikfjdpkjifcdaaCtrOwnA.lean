/-
  What counter's smaller functions answer, in any world.
-/
import Derived.Test.YtikfjdpkjifcdaaCtrMath
import Derived.Laws.EntriesVeiled
namespace Go.Proofs.Ytikfjdpkjifcdaa
open Go.RowKit
namespace Wn

theorem within_calls (n a b : Int) (w : World) : Calls Try.prog 26 #[.int .i64 n, .int .i64 a, .int .i64 b] w fun e w' => e = .returned (.bool (wi n a b)) ∧ w = w' := by
  by_cases h1 : a ≤ n
  · by_cases h2 : n ≤ b
    · have E := Lib.hid (show wi n a b = true by unfold wi; simp [h1, h2])
      go_enter Try.func26, Try.ntmps26
      go_wp2
      go_ret
      exact ⟨by rw [E.out]; rfl, rfl⟩
    · have E := Lib.hid (show wi n a b = false by unfold wi; simp [h2])
      go_enter Try.func26, Try.ntmps26
      go_wp2
      go_ret
      exact ⟨by rw [E.out]; rfl, rfl⟩
  · have E := Lib.hid (show wi n a b = false by unfold wi; simp [h1])
    go_enter Try.func26, Try.ntmps26
    go_wp2
    go_ret
    exact ⟨by rw [E.out]; rfl, rfl⟩
theorem within_is {n a b : Int} {v : Bool} (h : wi n a b = v) (w : World) : Calls Try.prog 26 #[.int .i64 n, .int .i64 a, .int .i64 b] w fun e w' => e = .returned (.bool v) ∧ w = w' := by
  subst h; exact within_calls n a b w
set_option maxHeartbeats 4000000 in
theorem check_calls (p : Pol) (w : World) : Calls Try.prog 13 #[p.val] w fun e w' => e = .returned (.int .i64 (errno (chk p))) ∧ Below w.heap.size w w' := by
  unfold Pol.val
  by_cases h1 : p.kind = 4
  · by_cases h2 : p.burst = 0
    · by_cases h3 : p.cap = 0
      · cases h4 : wi p.limit 1 1048576 with
        | true =>
          cases h5 : wi p.period 1 1099511627776 with
          | true =>
            have E := Lib.hid (show chk p = true by simp [chk, h1, h2, h3, h4, h5])
            have H4 := Lib.hid h4
            have H5 := Lib.hid h5
            clear h4 h5
            go_enter Try.func13, Try.ntmps13
            go_wp2_with fail
            refine (within_is H4.out _).mono ?_
            rintro e w1 ⟨rfl, rfl⟩
            go_wp2_with fail
            refine (within_is H5.out _).mono ?_
            rintro e w1 ⟨rfl, rfl⟩
            go_wp2_with fail
            go_ret
            exact ⟨by rw [E.out]; rfl, (Below.refl _ _).alloc (Nat.le_refl _) _⟩
          | false =>
            have E := Lib.hid (show chk p = false by simp [chk, h5])
            have H4 := Lib.hid h4
            have H5 := Lib.hid h5
            clear h4 h5
            go_enter Try.func13, Try.ntmps13
            go_wp2_with fail
            refine (within_is H4.out _).mono ?_
            rintro e w1 ⟨rfl, rfl⟩
            go_wp2_with fail
            refine (within_is H5.out _).mono ?_
            rintro e w1 ⟨rfl, rfl⟩
            go_wp2_with fail
            go_ret
            exact ⟨by rw [E.out]; rfl, (Below.refl _ _).alloc (Nat.le_refl _) _⟩
        | false =>
          have E := Lib.hid (show chk p = false by simp [chk, h4])
          have H4 := Lib.hid h4
          clear h4
          go_enter Try.func13, Try.ntmps13
          go_wp2_with fail
          refine (within_is H4.out _).mono ?_
          rintro e w1 ⟨rfl, rfl⟩
          go_wp2_with fail
          go_ret
          exact ⟨by rw [E.out]; rfl, (Below.refl _ _).alloc (Nat.le_refl _) _⟩
      · have E := Lib.hid (show chk p = false by simp [chk, h3])
        go_enter Try.func13, Try.ntmps13
        go_wp2_with fail
        go_ret
        exact ⟨by rw [E.out]; rfl, (Below.refl _ _).alloc (Nat.le_refl _) _⟩
    · have E := Lib.hid (show chk p = false by simp [chk, h2])
      go_enter Try.func13, Try.ntmps13
      go_wp2_with fail
      go_ret
      exact ⟨by rw [E.out]; rfl, (Below.refl _ _).alloc (Nat.le_refl _) _⟩
  · have E := Lib.hid (show chk p = false by simp [chk, h1])
    go_enter Try.func13, Try.ntmps13
    go_wp2_with fail
    go_ret
    exact ⟨by rw [E.out]; rfl, (Below.refl _ _).alloc (Nat.le_refl _) _⟩
theorem check_yes {p : Pol} (h : chk p = true) (w : World) : Calls Try.prog 13 #[p.val] w fun e w' => e = .returned (.int .i64 0) ∧ Below w.heap.size w w' := by
  have := check_calls p w; rw [h] at this; exact this
theorem check_no {p : Pol} (h : chk p = false) (w : World) : Calls Try.prog 13 #[p.val] w fun e w' => e = .returned (.int .i64 2) ∧ Below w.heap.size w w' := by
  have := check_calls p w; rw [h] at this; exact this
/-- Right, of a state whose log has n entries -/
def rightn (p : Pol) (s : St) (n : Nat) : Bool := chk p && wi s.tm 0 9007199254740992 && wi s.held 0 p.limit && wi s.level 0 (p.limit - s.held) && decide (n = 0)
theorem rightn_eq (p : Pol) (s : St) : rightn p s s.log.length = right p s := rfl
set_option maxHeartbeats 8000000 in
theorem rightn_calls (p : Pol) (s : St) (A : Option Addr) (n cap : Nat) (w : World) :
    Calls Try.prog 23 #[p.val, s.val A n cap] w fun e w' => e = .returned (.bool (rightn p s n)) ∧ Below w.heap.size w w' := by
  have HB0 := Lib.hid (below_two w p.box (s.box A n cap))
  unfold Pol.val St.val
  cases h0 : chk p with
  | false =>
    have E := Lib.hid (show rightn p s n = false by simp [rightn, h0])
    have H0 := Lib.hid h0
    clear h0
    go_enter Try.func23, Try.ntmps23
    go_wp2_with fail
    refine (check_no H0.out _).mono ?_
    rintro e w1 ⟨rfl, hb1⟩
    have HB1 := Lib.hid hb1
    clear hb1
    go_wp2_with fail
    go_ret
    exact ⟨by rw [E.out]; rfl, HB0.out.trans (HB1.out.mono (by simp; omega))⟩
  | true =>
    have g := chk_spec h0
    have g1 : 1 ≤ p.limit ∧ p.limit ≤ 1048576 := g.2.2.2.1
    have H0 := Lib.hid h0
    clear g
    cases h1 : wi s.tm 0 9007199254740992 with
    | true =>
      cases h2 : wi s.held 0 p.limit with
      | true =>
        have j2 := wi_yes h2
        cases h3 : wi s.level 0 (p.limit - s.held) with
        | true =>
          by_cases h4 : n = 0
          · subst h4
            have E := Lib.hid (show rightn p s 0 = true by simp [rightn, h0, h1, h2, h3])
            have H1 := Lib.hid h1
            have H2 := Lib.hid h2
            have H3 := Lib.hid h3
            clear h1 h2 h3
            go_enter Try.func23, Try.ntmps23
            go_wp2_with fail
            refine (check_yes H0.out _).mono ?_
            rintro e w1 ⟨rfl, hb1⟩
            have d0 : w1.cell? ⟨w.heap.size + 1, 0, none⟩ = some (.int .i64 s.tm) := by rw [hb1.cell (by simp)]; simp [go_sem]
            have d1 : w1.cell? ⟨w.heap.size + 1, 1, none⟩ = some (.int .i64 s.level) := by rw [hb1.cell (by simp)]; simp [go_sem]
            have d2 : w1.cell? ⟨w.heap.size + 1, 2, none⟩ = some (.int .i64 s.held) := by rw [hb1.cell (by simp)]; simp [go_sem]
            have d3 : w1.cell? ⟨w.heap.size + 1, 3, none⟩ = some (.slice A 0 cap) := by rw [hb1.cell (by simp)]; simp [go_sem]
            have q1 : w1.cell? ⟨w.heap.size, 1, none⟩ = some (.int .i64 p.limit) := by rw [hb1.cell (by simp; omega)]; simp [go_sem]
            have HB1 := Lib.hid hb1
            clear hb1
            go_wp2_with fail
            refine (within_is H1.out _).mono ?_
            rintro e w1 ⟨rfl, rfl⟩
            go_wp2_with fail
            refine (within_is H2.out _).mono ?_
            rintro e w1 ⟨rfl, rfl⟩
            go_wp2_with fail
            refine (within_is H3.out _).mono ?_
            rintro e w1 ⟨rfl, rfl⟩
            go_wp2_with fail
            go_ret
            exact ⟨by rw [E.out]; rfl, HB0.out.trans (HB1.out.mono (by simp; omega))⟩
          · have E := Lib.hid (show rightn p s n = false by simp [rightn, h4])
            have t4 : ((n : Int) == 0) = false := by simp [h4]
            have H1 := Lib.hid h1
            have H2 := Lib.hid h2
            have H3 := Lib.hid h3
            clear h1 h2 h3
            go_enter Try.func23, Try.ntmps23
            go_wp2_with fail
            refine (check_yes H0.out _).mono ?_
            rintro e w1 ⟨rfl, hb1⟩
            have d0 : w1.cell? ⟨w.heap.size + 1, 0, none⟩ = some (.int .i64 s.tm) := by rw [hb1.cell (by simp)]; simp [go_sem]
            have d1 : w1.cell? ⟨w.heap.size + 1, 1, none⟩ = some (.int .i64 s.level) := by rw [hb1.cell (by simp)]; simp [go_sem]
            have d2 : w1.cell? ⟨w.heap.size + 1, 2, none⟩ = some (.int .i64 s.held) := by rw [hb1.cell (by simp)]; simp [go_sem]
            have d3 : w1.cell? ⟨w.heap.size + 1, 3, none⟩ = some (.slice A n cap) := by rw [hb1.cell (by simp)]; simp [go_sem]
            have q1 : w1.cell? ⟨w.heap.size, 1, none⟩ = some (.int .i64 p.limit) := by rw [hb1.cell (by simp; omega)]; simp [go_sem]
            have HB1 := Lib.hid hb1
            clear hb1
            go_wp2_with fail
            refine (within_is H1.out _).mono ?_
            rintro e w1 ⟨rfl, rfl⟩
            go_wp2_with fail
            refine (within_is H2.out _).mono ?_
            rintro e w1 ⟨rfl, rfl⟩
            go_wp2_with fail
            refine (within_is H3.out _).mono ?_
            rintro e w1 ⟨rfl, rfl⟩
            go_wp2_with fail
            go_ret
            exact ⟨by rw [E.out]; rfl, HB0.out.trans (HB1.out.mono (by simp; omega))⟩
        | false =>
          have E := Lib.hid (show rightn p s n = false by simp [rightn, h3])
          have H1 := Lib.hid h1
          have H2 := Lib.hid h2
          have H3 := Lib.hid h3
          clear h1 h2 h3
          go_enter Try.func23, Try.ntmps23
          go_wp2_with fail
          refine (check_yes H0.out _).mono ?_
          rintro e w1 ⟨rfl, hb1⟩
          have d0 : w1.cell? ⟨w.heap.size + 1, 0, none⟩ = some (.int .i64 s.tm) := by rw [hb1.cell (by simp)]; simp [go_sem]
          have d1 : w1.cell? ⟨w.heap.size + 1, 1, none⟩ = some (.int .i64 s.level) := by rw [hb1.cell (by simp)]; simp [go_sem]
          have d2 : w1.cell? ⟨w.heap.size + 1, 2, none⟩ = some (.int .i64 s.held) := by rw [hb1.cell (by simp)]; simp [go_sem]
          have d3 : w1.cell? ⟨w.heap.size + 1, 3, none⟩ = some (.slice A n cap) := by rw [hb1.cell (by simp)]; simp [go_sem]
          have q1 : w1.cell? ⟨w.heap.size, 1, none⟩ = some (.int .i64 p.limit) := by rw [hb1.cell (by simp; omega)]; simp [go_sem]
          have HB1 := Lib.hid hb1
          clear hb1
          go_wp2_with fail
          refine (within_is H1.out _).mono ?_
          rintro e w1 ⟨rfl, rfl⟩
          go_wp2_with fail
          refine (within_is H2.out _).mono ?_
          rintro e w1 ⟨rfl, rfl⟩
          go_wp2_with fail
          refine (within_is H3.out _).mono ?_
          rintro e w1 ⟨rfl, rfl⟩
          go_wp2_with fail
          go_ret
          exact ⟨by rw [E.out]; rfl, HB0.out.trans (HB1.out.mono (by simp; omega))⟩
      | false =>
        have E := Lib.hid (show rightn p s n = false by simp [rightn, h2])
        have H1 := Lib.hid h1
        have H2 := Lib.hid h2
        clear h1 h2
        go_enter Try.func23, Try.ntmps23
        go_wp2_with fail
        refine (check_yes H0.out _).mono ?_
        rintro e w1 ⟨rfl, hb1⟩
        have d0 : w1.cell? ⟨w.heap.size + 1, 0, none⟩ = some (.int .i64 s.tm) := by rw [hb1.cell (by simp)]; simp [go_sem]
        have d1 : w1.cell? ⟨w.heap.size + 1, 1, none⟩ = some (.int .i64 s.level) := by rw [hb1.cell (by simp)]; simp [go_sem]
        have d2 : w1.cell? ⟨w.heap.size + 1, 2, none⟩ = some (.int .i64 s.held) := by rw [hb1.cell (by simp)]; simp [go_sem]
        have d3 : w1.cell? ⟨w.heap.size + 1, 3, none⟩ = some (.slice A n cap) := by rw [hb1.cell (by simp)]; simp [go_sem]
        have q1 : w1.cell? ⟨w.heap.size, 1, none⟩ = some (.int .i64 p.limit) := by rw [hb1.cell (by simp; omega)]; simp [go_sem]
        have HB1 := Lib.hid hb1
        clear hb1
        go_wp2_with fail
        refine (within_is H1.out _).mono ?_
        rintro e w1 ⟨rfl, rfl⟩
        go_wp2_with fail
        refine (within_is H2.out _).mono ?_
        rintro e w1 ⟨rfl, rfl⟩
        go_wp2_with fail
        go_ret
        exact ⟨by rw [E.out]; rfl, HB0.out.trans (HB1.out.mono (by simp; omega))⟩
    | false =>
      have E := Lib.hid (show rightn p s n = false by simp [rightn, h1])
      have H1 := Lib.hid h1
      clear h1
      go_enter Try.func23, Try.ntmps23
      go_wp2_with fail
      refine (check_yes H0.out _).mono ?_
      rintro e w1 ⟨rfl, hb1⟩
      have d0 : w1.cell? ⟨w.heap.size + 1, 0, none⟩ = some (.int .i64 s.tm) := by rw [hb1.cell (by simp)]; simp [go_sem]
      have d1 : w1.cell? ⟨w.heap.size + 1, 1, none⟩ = some (.int .i64 s.level) := by rw [hb1.cell (by simp)]; simp [go_sem]
      have d2 : w1.cell? ⟨w.heap.size + 1, 2, none⟩ = some (.int .i64 s.held) := by rw [hb1.cell (by simp)]; simp [go_sem]
      have d3 : w1.cell? ⟨w.heap.size + 1, 3, none⟩ = some (.slice A n cap) := by rw [hb1.cell (by simp)]; simp [go_sem]
      have q1 : w1.cell? ⟨w.heap.size, 1, none⟩ = some (.int .i64 p.limit) := by rw [hb1.cell (by simp; omega)]; simp [go_sem]
      have HB1 := Lib.hid hb1
      clear hb1
      go_wp2_with fail
      refine (within_is H1.out _).mono ?_
      rintro e w1 ⟨rfl, rfl⟩
      go_wp2_with fail
      go_ret
      exact ⟨by rw [E.out]; rfl, HB0.out.trans (HB1.out.mono (by simp; omega))⟩
theorem right_calls (p : Pol) (s : St) (A : Option Addr) (cap : Nat) (w : World) :
    Calls Try.prog 23 #[p.val, s.val A s.log.length cap] w fun e w' => e = .returned (.bool (right p s)) ∧ Below w.heap.size w w' := rightn_calls p s A s.log.length cap w
theorem right_yes {p : Pol} {s : St} (h : right p s = true) (A : Option Addr) (cap : Nat) (w : World) :
    Calls Try.prog 23 #[p.val, s.val A s.log.length cap] w fun e w' => e = .returned (.bool true) ∧ Below w.heap.size w w' := by
  have := right_calls p s A cap w; rw [h] at this; exact this
theorem right_no {p : Pol} {s : St} (h : right p s = false) (A : Option Addr) (cap : Nat) (w : World) :
    Calls Try.prog 23 #[p.val, s.val A s.log.length cap] w fun e w' => e = .returned (.bool false) ∧ Below w.heap.size w w' := by
  have := right_calls p s A cap w; rw [h] at this; exact this
set_option maxHeartbeats 2000000 in
theorem new_calls (p : Pol) (now : Int) (w : World) : Calls Try.prog 14 #[p.val, .int .i64 now] w fun e w' => e = .returned ((new p now).val none 0 0) ∧ Below w.heap.size w w' := by
  unfold Pol.val St.val
  cases h0 : chk p with
  | false =>
    have E := Lib.hid (show new p now = zero by simp [new, h0])
    have H0 := Lib.hid h0
    clear h0
    go_enter Try.func14, Try.ntmps14
    go_wp2_with fail
    refine (check_no H0.out _).mono ?_
    rintro e w1 ⟨rfl, hb1⟩
    have hg : w1.heap[w.heap.size + 1]? = some (.cells (scells 0 0 0 (.slice none 0 0)) 32 (0, 0)) := by rw [hb1.block _ (by simp)]; exact heap_alloc2_new _ _ _
    have HB1 := Lib.hid hb1
    clear hb1
    go_wp2_with (refine wpList_store_row rfl 32 _ _ rfl (w.heap.size + 1) (scells 0 0 0 (.slice none 0 0)) rfl rfl 32 _ hg st_size rfl (scells_one _ _ _ _ (slice_one _ _ _)) ?_)
    refine bodyPost_ret (v := .agg (scells 0 0 0 (.slice none 0 0))) (results_cell_row (p := 4) (ty := 32) Try.results14 _ _ (w.heap.size + 1) 32 _ (0, 0) _ rfl (setRow_heap _ _ _ _ _ _ hg) Try.underlying32 rfl st_size) rfl ⟨?_, ?_⟩
    · rw [E.out]; rfl
    · exact below_setRow ((below_two w _ _).trans (HB1.out.mono (by simp; omega))) (by omega) _
  | true =>
    have E := Lib.hid (show new p now = ⟨clamp now, 0, 0, []⟩ by simp [new, h0])
    have H0 := Lib.hid h0
    clear h0
    go_enter Try.func14, Try.ntmps14
    go_wp2_with fail
    refine (check_yes H0.out _).mono ?_
    rintro e w1 ⟨rfl, hb1⟩
    have hg : w1.heap[w.heap.size + 1]? = some (.cells (scells 0 0 0 (.slice none 0 0)) 32 (0, 0)) := by rw [hb1.block _ (by simp)]; exact heap_alloc2_new _ _ _
    have HB1 := Lib.hid hb1
    clear hb1
    go_wp2_with fail
    refine (numclamp_calls now _).mono ?_
    rintro e w2 ⟨rfl, rfl⟩
    go_wp2_with (refine wpList_store_row rfl 32 _ _ rfl (w.heap.size + 1) (scells (clamp now) 0 0 (.slice none 0 0)) rfl rfl 32 _ hg st_size rfl (scells_one _ _ _ _ (slice_one _ _ _)) ?_)
    refine bodyPost_ret (v := .agg (scells (clamp now) 0 0 (.slice none 0 0))) (results_cell_row (p := 4) (ty := 32) Try.results14 _ _ (w.heap.size + 1) 32 _ (0, 0) _ rfl (setRow_heap _ _ _ _ _ _ hg) Try.underlying32 rfl st_size) rfl ⟨?_, ?_⟩
    · rw [E.out]
    · exact below_setRow ((below_two w _ _).trans (HB1.out.mono (by simp; omega))) (by omega) _
theorem numbered_calls (p : Pol) (t : Int) (w : World) (h1 : 1 ≤ p.period) (h2 : p.period ≤ 1099511627776) (h3 : 0 ≤ t) (h4 : t ≤ 9007199254740992) :
    Calls Try.prog 37 #[p.val, .int .i64 t] w fun e w' => e = .returned (.int .i64 (tim p t)) ∧ Below w.heap.size w w' := by
  unfold Pol.val tim
  go_enter Try.func37, Try.ntmps37
  go_wp2
  go_ret
  exact ⟨rfl, (Below.refl _ _).alloc (Nat.le_refl _) _⟩
theorem room_calls (p : Pol) (s : St) (A : Option Addr) (n cap : Nat) (w : World) (h1 : 0 ≤ p.limit) (h2 : p.limit ≤ 1048576) (h3 : 0 ≤ s.held) (h4 : s.held ≤ 1048576) (h5 : 0 ≤ s.level) (h6 : s.level ≤ 1048576) :
    Calls Try.prog 36 #[p.val, s.val A n cap] w fun e w' => e = .returned (.int .i64 (room p s)) ∧ Below w.heap.size w w' := by
  unfold Pol.val St.val room
  go_enter Try.func36, Try.ntmps36
  go_wp2
  go_ret
  exact ⟨rfl, below_two w _ _⟩
theorem held_calls (p : Pol) (s : St) (A : Option Addr) (n cap : Nat) (w : World) :
    Calls Try.prog 41 #[p.val, s.val A n cap] w fun e w' => e = .returned (.int .i64 s.held) ∧ Below w.heap.size w w' := by
  unfold Pol.val St.val
  go_enter Try.func41, Try.ntmps41
  go_wp2
  go_ret
  exact ⟨rfl, below_two w _ _⟩
set_option maxHeartbeats 2000000 in
theorem deed1_calls (s : St) (A : Option Addr) (n cap : Nat) (c : Int) (w : World) (h : 0 ≤ s.held ∧ s.held ≤ 1048576 ∧ 0 ≤ s.level ∧ s.level ≤ 1048576 ∧ 0 ≤ c ∧ c ≤ 1048576) :
    Calls Try.prog 39 #[s.val A n cap, .int .i64 c] w fun e w' => e = .returned ((dn s 1 c).val A n cap) ∧ Below w.heap.size w w' := by
  rw [dn_1]
  obtain ⟨h3, h4, h5, h6, h7, h8⟩ := h
  unfold St.val
  go_enter Try.func39, Try.ntmps39
  go_wp2
  exact ret_st Try.results39 rfl rfl (heap_alloc2_new _ _ _) ⟨rfl, below_two w _ _⟩
set_option maxHeartbeats 2000000 in
theorem deed2_calls (s : St) (A : Option Addr) (n cap : Nat) (c : Int) (w : World) (h : 0 ≤ s.held ∧ s.held ≤ 1048576 ∧ 0 ≤ s.level ∧ s.level ≤ 1048576 ∧ 0 ≤ c ∧ c ≤ 1048576) :
    Calls Try.prog 40 #[s.val A n cap, .int .i64 c] w fun e w' => e = .returned ((dn s 2 c).val A n cap) ∧ Below w.heap.size w w' := by
  rw [dn_2]
  obtain ⟨h3, h4, h5, h6, h7, h8⟩ := h
  unfold St.val
  go_enter Try.func40, Try.ntmps40
  go_wp2
  exact ret_st Try.results40 rfl rfl (heap_alloc2_new _ _ _) ⟨rfl, below_two w _ _⟩
set_option maxHeartbeats 2000000 in
theorem deed3_calls (s : St) (A : Option Addr) (n cap : Nat) (c : Int) (w : World) (h : 0 ≤ s.held ∧ s.held ≤ 1048576 ∧ 0 ≤ s.level ∧ s.level ≤ 1048576 ∧ 0 ≤ c ∧ c ≤ 1048576) :
    Calls Try.prog 42 #[s.val A n cap, .int .i64 c] w fun e w' => e = .returned ((dn s 3 c).val A n cap) ∧ Below w.heap.size w w' := by
  rw [dn_3]
  obtain ⟨h3, h4, h5, h6, h7, h8⟩ := h
  unfold St.val
  go_enter Try.func42, Try.ntmps42
  go_wp2
  exact ret_st Try.results42 rfl rfl (heap_alloc2_new _ _ _) ⟨rfl, below_two w _ _⟩
set_option maxHeartbeats 2000000 in
theorem deed4_calls (s : St) (A : Option Addr) (n cap : Nat) (c : Int) (w : World) (h : 0 ≤ s.held ∧ s.held ≤ 1048576 ∧ 0 ≤ s.level ∧ s.level ≤ 1048576 ∧ 0 ≤ c ∧ c ≤ 1048576) :
    Calls Try.prog 43 #[s.val A n cap, .int .i64 c] w fun e w' => e = .returned ((dn s 4 c).val A n cap) ∧ Below w.heap.size w w' := by
  rw [dn_4]
  obtain ⟨h3, h4, h5, h6, h7, h8⟩ := h
  unfold St.val
  go_enter Try.func43, Try.ntmps43
  go_wp2
  exact ret_st Try.results43 rfl rfl (heap_alloc2_new _ _ _) ⟨rfl, below_two w _ _⟩
/-- the deeds, as cells -/
abbrev deedcells : Array Value := #[.int .i64 1, .func (.func 36) #[] #[], .func (.func 39) #[] #[], .int .i64 2, .func (.func 36) #[] #[], .func (.func 40) #[] #[], .int .i64 3, .func (.func 41) #[] #[], .func (.func 42) #[] #[], .int .i64 4, .func (.func 41) #[] #[], .func (.func 43) #[] #[]]
theorem deeds_size : (Try.prog.info? 62).map (·.size) = some 12 := by kernel_rfl
theorem deeds_calls (w : World) : Calls Try.prog 34 #[] w fun e w' => e = .returned (.agg deedcells) ∧ Below w.heap.size w w' := by
  go_enter Try.func34, Try.ntmps34
  go_wp2
  exact bodyPost_ret (results_cell_row Try.results34 _ _ w.heap.size 62 _ (0, 0) _ rfl (heap_alloc_new _ _) Try.underlying62 rfl deeds_size) rfl ⟨rfl, (Below.refl _ _).alloc (Nat.le_refl _) _⟩

end Wn
end Go.Proofs.Ytikfjdpkjifcdaa
