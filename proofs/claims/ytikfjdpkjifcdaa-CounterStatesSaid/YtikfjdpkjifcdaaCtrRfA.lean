/-
  What the document's own Check, New, Right, begin answer, in any world.
-/
import Derived.Test.YtikfjdpkjifcdaaCtrOwnB
namespace Go.Proofs.Ytikfjdpkjifcdaa
open Go.RowKit
namespace Wn

theorem chk_false {p : Pol} (h : ¬ (p.kind = 4 ∧ p.burst = 0 ∧ p.cap = 0 ∧ (1 ≤ p.limit ∧ p.limit ≤ 1048576) ∧ (1 ≤ p.period ∧ p.period ≤ 1099511627776))) : chk p = false := by
  cases e : chk p
  · rfl
  · exact absurd (chk_spec e) h
theorem chk_true {p : Pol} (h1 : p.kind = 4) (h2 : 1 ≤ p.limit) (h3 : p.limit ≤ 1048576) (h4 : 1 ≤ p.period) (h5 : p.period ≤ 1099511627776) (h6 : p.cap = 0) (h7 : p.burst = 0) : chk p = true :=
  chk_of h1 h7 h6 (wi_of h2 h3) (wi_of h4 h5)
theorem rightn_false {p : Pol} {s : St} {n : Nat} (h : ¬ (chk p = true ∧ 0 ≤ s.tm ∧ s.tm ≤ 9007199254740992 ∧ n = 0 ∧ 0 ≤ s.held ∧ s.held ≤ p.limit ∧ 0 ≤ s.level ∧ s.level ≤ p.limit - s.held)) : rightn p s n = false := by
  cases e : rightn p s n
  · rfl
  · exfalso
    unfold rightn at e
    simp only [Bool.and_eq_true, decide_eq_true_eq] at e
    obtain ⟨⟨⟨⟨h1, h2⟩, h3⟩, h4⟩, h5⟩ := e
    have h2 := wi_yes h2
    have h3 := wi_yes h3
    have h4 := wi_yes h4
    exact h ⟨h1, h2.1, h2.2, h5, h3.1, h3.2, h4.1, h4.2⟩
theorem rightn_true {p : Pol} {s : St} (h0 : chk p = true) (h1 : 0 ≤ s.tm) (h2 : s.tm ≤ 9007199254740992) (h4 : 0 ≤ s.held) (h5 : s.held ≤ p.limit) (h6 : 0 ≤ s.level) (h7 : s.level ≤ p.limit - s.held) : rightn p s 0 = true := by
  unfold rightn; rw [h0, wi_of h1 h2, wi_of h4 h5, wi_of h6 h7]; rfl
set_option maxHeartbeats 4000000 in
theorem rcheck_calls (p : Pol) (w : World) : Calls Try.prog 12 #[p.val] w fun e w' => e = .returned (.int .i64 (errno (chk p))) ∧ Below w.heap.size w w' := by
  unfold Pol.val
  by_cases h1 : p.kind = 4
  · skip
    by_cases h2 : 1 ≤ p.limit
    · skip
      by_cases h3 : p.limit ≤ 1048576
      · skip
        by_cases h4 : 1 ≤ p.period
        · skip
          by_cases h5 : p.period ≤ 1099511627776
          · skip
            by_cases h6 : p.cap = 0
            · skip
              by_cases h7 : p.burst = 0
              · skip
                have E := Lib.hid (show chk p = true from chk_true h1 h2 h3 h4 h5 h6 h7)
                go_enter Try.func12, Try.ntmps12
                go_wp2_with fail
                go_ret
                exact ⟨by rw [E.out]; rfl, (Below.refl _ _).alloc (Nat.le_refl _) _⟩
              · have E := Lib.hid (show chk p = false from chk_false (by omega))
                have hb : (p.burst == 0) = false := by simp; omega
                clear h7
                go_enter Try.func12, Try.ntmps12
                go_wp2_with fail
                go_ret
                exact ⟨by rw [E.out]; rfl, (Below.refl _ _).alloc (Nat.le_refl _) _⟩
            · have E := Lib.hid (show chk p = false from chk_false (by omega))
              have hb : (p.cap == 0) = false := by simp; omega
              clear h6
              go_enter Try.func12, Try.ntmps12
              go_wp2_with fail
              go_ret
              exact ⟨by rw [E.out]; rfl, (Below.refl _ _).alloc (Nat.le_refl _) _⟩
          · have E := Lib.hid (show chk p = false from chk_false (by omega))
            go_enter Try.func12, Try.ntmps12
            go_wp2_with fail
            go_ret
            exact ⟨by rw [E.out]; rfl, (Below.refl _ _).alloc (Nat.le_refl _) _⟩
        · have E := Lib.hid (show chk p = false from chk_false (by omega))
          go_enter Try.func12, Try.ntmps12
          go_wp2_with fail
          go_ret
          exact ⟨by rw [E.out]; rfl, (Below.refl _ _).alloc (Nat.le_refl _) _⟩
      · have E := Lib.hid (show chk p = false from chk_false (by omega))
        go_enter Try.func12, Try.ntmps12
        go_wp2_with fail
        go_ret
        exact ⟨by rw [E.out]; rfl, (Below.refl _ _).alloc (Nat.le_refl _) _⟩
    · have E := Lib.hid (show chk p = false from chk_false (by omega))
      go_enter Try.func12, Try.ntmps12
      go_wp2_with fail
      go_ret
      exact ⟨by rw [E.out]; rfl, (Below.refl _ _).alloc (Nat.le_refl _) _⟩
  · have E := Lib.hid (show chk p = false from chk_false (by omega))
    have hb : (p.kind == 4) = false := by simp; omega
    clear h1
    go_enter Try.func12, Try.ntmps12
    go_wp2_with fail
    go_ret
    exact ⟨by rw [E.out]; rfl, (Below.refl _ _).alloc (Nat.le_refl _) _⟩
theorem rcheck_yes {p : Pol} (h : chk p = true) (w : World) : Calls Try.prog 12 #[p.val] w fun e w' => e = .returned (.int .i64 0) ∧ Below w.heap.size w w' := by
  have := rcheck_calls p w; rw [h] at this; exact this
theorem rcheck_no {p : Pol} (h : chk p = false) (w : World) : Calls Try.prog 12 #[p.val] w fun e w' => e = .returned (.int .i64 2) ∧ Below w.heap.size w w' := by
  have := rcheck_calls p w; rw [h] at this; exact this
set_option maxHeartbeats 2000000 in
theorem rnew_calls (p : Pol) (now : Int) (w : World) : Calls Try.prog 15 #[p.val, .int .i64 now] w fun e w' => e = .returned ((new p now).val none 0 0) ∧ Below w.heap.size w w' := by
  unfold Pol.val St.val
  cases h0 : chk p with
  | false =>
    have E := Lib.hid (show new p now = zero by simp [new, h0])
    have H0 := Lib.hid h0
    clear h0
    go_enter Try.func15, Try.ntmps15
    go_wp2_with fail
    refine (rcheck_no H0.out _).mono ?_
    rintro e w1 ⟨rfl, hb1⟩
    have hg : w1.heap[w.heap.size + 1]? = some (.cells (scells 0 0 0 (.slice none 0 0)) 32 (0, 0)) := by rw [hb1.block _ (by simp)]; exact heap_alloc2_new _ _ _
    have HB1 := Lib.hid hb1
    clear hb1
    go_wp2_with (refine wpList_store_row rfl 32 _ _ rfl (w.heap.size + 1) (scells 0 0 0 (.slice none 0 0)) rfl rfl 32 _ hg st_size rfl (scells_one _ _ _ _ (slice_one _ _ _)) ?_)
    refine bodyPost_ret (v := .agg (scells 0 0 0 (.slice none 0 0))) (results_cell_row (p := 4) (ty := 32) Try.results15 _ _ (w.heap.size + 1) 32 _ (0, 0) _ rfl (setRow_heap _ _ _ _ _ _ hg) Try.underlying32 rfl st_size) rfl ⟨?_, ?_⟩
    · rw [E.out]; rfl
    · exact below_setRow ((below_two w _ _).trans (HB1.out.mono (by simp; omega))) (by omega) _
  | true =>
    have E := Lib.hid (show new p now = ⟨clamp now, 0, 0, []⟩ by simp [new, h0])
    have H0 := Lib.hid h0
    clear h0
    go_enter Try.func15, Try.ntmps15
    go_wp2_with fail
    refine (rcheck_yes H0.out _).mono ?_
    rintro e w1 ⟨rfl, hb1⟩
    have hg : w1.heap[w.heap.size + 1]? = some (.cells (scells 0 0 0 (.slice none 0 0)) 32 (0, 0)) := by rw [hb1.block _ (by simp)]; exact heap_alloc2_new _ _ _
    have HB1 := Lib.hid hb1
    clear hb1
    go_wp2_with fail
    refine (refclamp_calls now _).mono ?_
    rintro e w2 ⟨rfl, rfl⟩
    go_wp2_with (refine wpList_store_row rfl 32 _ _ rfl (w.heap.size + 1) (scells (clamp now) 0 0 (.slice none 0 0)) rfl rfl 32 _ hg st_size rfl (scells_one _ _ _ _ (slice_one _ _ _)) ?_)
    refine bodyPost_ret (v := .agg (scells (clamp now) 0 0 (.slice none 0 0))) (results_cell_row (p := 4) (ty := 32) Try.results15 _ _ (w.heap.size + 1) 32 _ (0, 0) _ rfl (setRow_heap _ _ _ _ _ _ hg) Try.underlying32 rfl st_size) rfl ⟨?_, ?_⟩
    · rw [E.out]
    · exact below_setRow ((below_two w _ _).trans (HB1.out.mono (by simp; omega))) (by omega) _
set_option maxHeartbeats 8000000 in
theorem rrightn_calls (p : Pol) (s : St) (A : Option Addr) (n cap : Nat) (w : World) :
    Calls Try.prog 31 #[p.val, s.val A n cap] w fun e w' => e = .returned (.bool (rightn p s n)) ∧ Below w.heap.size w w' := by
  have HB0 := Lib.hid (below_two w p.box (s.box A n cap))
  unfold Pol.val St.val
  cases h0 : chk p with
  | false =>
    have E := Lib.hid (show rightn p s n = false by simp [rightn, h0])
    have H0 := Lib.hid h0
    clear h0
    go_enter Try.func31, Try.ntmps31
    go_wp2_with fail
    refine (rcheck_no H0.out _).mono ?_
    rintro e w1 ⟨rfl, hb1⟩
    have HB1 := Lib.hid hb1
    clear hb1
    go_wp2_with fail
    go_ret
    exact ⟨by rw [E.out]; rfl, HB0.out.trans (HB1.out.mono (by simp; omega))⟩
  | true =>
    have g1 : 1 ≤ p.limit ∧ p.limit ≤ 1048576 := (chk_spec h0).2.2.2.1
    have H0 := Lib.hid h0
    clear h0
    by_cases h1 : 0 ≤ s.tm
    · skip
      by_cases h2 : s.tm ≤ 9007199254740992
      · skip
        by_cases h3 : n = 0
        · subst h3
          by_cases h4 : 0 ≤ s.held
          · skip
            by_cases h5 : s.held ≤ p.limit
            · skip
              by_cases h6 : 0 ≤ s.level
              · skip
                by_cases h7 : s.level ≤ p.limit - s.held
                · skip
                  have E := Lib.hid (rightn_true H0.out h1 h2 h4 h5 h6 h7)
                  go_enter Try.func31, Try.ntmps31
                  go_wp2_with fail
                  refine (rcheck_yes H0.out _).mono ?_
                  rintro e w1 ⟨rfl, hb1⟩
                  have d0 : w1.cell? ⟨w.heap.size + 1, 0, none⟩ = some (.int .i64 s.tm) := by rw [hb1.cell (by simp)]; simp [go_sem]
                  have d1 : w1.cell? ⟨w.heap.size + 1, 1, none⟩ = some (.int .i64 s.level) := by rw [hb1.cell (by simp)]; simp [go_sem]
                  have d2 : w1.cell? ⟨w.heap.size + 1, 2, none⟩ = some (.int .i64 s.held) := by rw [hb1.cell (by simp)]; simp [go_sem]
                  have d3 : w1.cell? ⟨w.heap.size + 1, 3, none⟩ = some (.slice A 0 cap) := by rw [hb1.cell (by simp)]; simp [go_sem]
                  have q1 : w1.cell? ⟨w.heap.size, 1, none⟩ = some (.int .i64 p.limit) := by rw [hb1.cell (by simp; omega)]; simp [go_sem]
                  have HB1 := Lib.hid hb1
                  clear hb1
                  go_wp2_with fail
                  go_ret
                  exact ⟨by rw [E.out]; rfl, HB0.out.trans (HB1.out.mono (by simp; omega))⟩
                · have E := Lib.hid (show rightn p s 0 = false from rightn_false (fun hh => h7 hh.2.2.2.2.2.2.2))
                  have t7 : decide (s.level ≤ p.limit - s.held) = false := by simp; omega
                  go_enter Try.func31, Try.ntmps31
                  go_wp2_with fail
                  refine (rcheck_yes H0.out _).mono ?_
                  rintro e w1 ⟨rfl, hb1⟩
                  have d0 : w1.cell? ⟨w.heap.size + 1, 0, none⟩ = some (.int .i64 s.tm) := by rw [hb1.cell (by simp)]; simp [go_sem]
                  have d1 : w1.cell? ⟨w.heap.size + 1, 1, none⟩ = some (.int .i64 s.level) := by rw [hb1.cell (by simp)]; simp [go_sem]
                  have d2 : w1.cell? ⟨w.heap.size + 1, 2, none⟩ = some (.int .i64 s.held) := by rw [hb1.cell (by simp)]; simp [go_sem]
                  have d3 : w1.cell? ⟨w.heap.size + 1, 3, none⟩ = some (.slice A 0 cap) := by rw [hb1.cell (by simp)]; simp [go_sem]
                  have q1 : w1.cell? ⟨w.heap.size, 1, none⟩ = some (.int .i64 p.limit) := by rw [hb1.cell (by simp; omega)]; simp [go_sem]
                  have HB1 := Lib.hid hb1
                  clear hb1
                  go_wp2_with fail
                  go_ret
                  exact ⟨by rw [E.out]; rfl, HB0.out.trans (HB1.out.mono (by simp; omega))⟩
              · have E := Lib.hid (show rightn p s 0 = false from rightn_false (fun hh => h6 hh.2.2.2.2.2.2.1))
                go_enter Try.func31, Try.ntmps31
                go_wp2_with fail
                refine (rcheck_yes H0.out _).mono ?_
                rintro e w1 ⟨rfl, hb1⟩
                have d0 : w1.cell? ⟨w.heap.size + 1, 0, none⟩ = some (.int .i64 s.tm) := by rw [hb1.cell (by simp)]; simp [go_sem]
                have d1 : w1.cell? ⟨w.heap.size + 1, 1, none⟩ = some (.int .i64 s.level) := by rw [hb1.cell (by simp)]; simp [go_sem]
                have d2 : w1.cell? ⟨w.heap.size + 1, 2, none⟩ = some (.int .i64 s.held) := by rw [hb1.cell (by simp)]; simp [go_sem]
                have d3 : w1.cell? ⟨w.heap.size + 1, 3, none⟩ = some (.slice A 0 cap) := by rw [hb1.cell (by simp)]; simp [go_sem]
                have q1 : w1.cell? ⟨w.heap.size, 1, none⟩ = some (.int .i64 p.limit) := by rw [hb1.cell (by simp; omega)]; simp [go_sem]
                have HB1 := Lib.hid hb1
                clear hb1
                go_wp2_with fail
                go_ret
                exact ⟨by rw [E.out]; rfl, HB0.out.trans (HB1.out.mono (by simp; omega))⟩
            · have E := Lib.hid (show rightn p s 0 = false from rightn_false (fun hh => h5 hh.2.2.2.2.2.1))
              go_enter Try.func31, Try.ntmps31
              go_wp2_with fail
              refine (rcheck_yes H0.out _).mono ?_
              rintro e w1 ⟨rfl, hb1⟩
              have d0 : w1.cell? ⟨w.heap.size + 1, 0, none⟩ = some (.int .i64 s.tm) := by rw [hb1.cell (by simp)]; simp [go_sem]
              have d1 : w1.cell? ⟨w.heap.size + 1, 1, none⟩ = some (.int .i64 s.level) := by rw [hb1.cell (by simp)]; simp [go_sem]
              have d2 : w1.cell? ⟨w.heap.size + 1, 2, none⟩ = some (.int .i64 s.held) := by rw [hb1.cell (by simp)]; simp [go_sem]
              have d3 : w1.cell? ⟨w.heap.size + 1, 3, none⟩ = some (.slice A 0 cap) := by rw [hb1.cell (by simp)]; simp [go_sem]
              have q1 : w1.cell? ⟨w.heap.size, 1, none⟩ = some (.int .i64 p.limit) := by rw [hb1.cell (by simp; omega)]; simp [go_sem]
              have HB1 := Lib.hid hb1
              clear hb1
              go_wp2_with fail
              go_ret
              exact ⟨by rw [E.out]; rfl, HB0.out.trans (HB1.out.mono (by simp; omega))⟩
          · have E := Lib.hid (show rightn p s 0 = false from rightn_false (fun hh => h4 hh.2.2.2.2.1))
            go_enter Try.func31, Try.ntmps31
            go_wp2_with fail
            refine (rcheck_yes H0.out _).mono ?_
            rintro e w1 ⟨rfl, hb1⟩
            have d0 : w1.cell? ⟨w.heap.size + 1, 0, none⟩ = some (.int .i64 s.tm) := by rw [hb1.cell (by simp)]; simp [go_sem]
            have d1 : w1.cell? ⟨w.heap.size + 1, 1, none⟩ = some (.int .i64 s.level) := by rw [hb1.cell (by simp)]; simp [go_sem]
            have d2 : w1.cell? ⟨w.heap.size + 1, 2, none⟩ = some (.int .i64 s.held) := by rw [hb1.cell (by simp)]; simp [go_sem]
            have d3 : w1.cell? ⟨w.heap.size + 1, 3, none⟩ = some (.slice A 0 cap) := by rw [hb1.cell (by simp)]; simp [go_sem]
            have q1 : w1.cell? ⟨w.heap.size, 1, none⟩ = some (.int .i64 p.limit) := by rw [hb1.cell (by simp; omega)]; simp [go_sem]
            have HB1 := Lib.hid hb1
            clear hb1
            go_wp2_with fail
            go_ret
            exact ⟨by rw [E.out]; rfl, HB0.out.trans (HB1.out.mono (by simp; omega))⟩
        · have E := Lib.hid (show rightn p s n = false from rightn_false (fun hh => h3 hh.2.2.2.1))
          have t3 : (0 : Int) < (n : Int) := by omega
          clear h3
          go_enter Try.func31, Try.ntmps31
          go_wp2_with fail
          refine (rcheck_yes H0.out _).mono ?_
          rintro e w1 ⟨rfl, hb1⟩
          have d0 : w1.cell? ⟨w.heap.size + 1, 0, none⟩ = some (.int .i64 s.tm) := by rw [hb1.cell (by simp)]; simp [go_sem]
          have d1 : w1.cell? ⟨w.heap.size + 1, 1, none⟩ = some (.int .i64 s.level) := by rw [hb1.cell (by simp)]; simp [go_sem]
          have d2 : w1.cell? ⟨w.heap.size + 1, 2, none⟩ = some (.int .i64 s.held) := by rw [hb1.cell (by simp)]; simp [go_sem]
          have d3 : w1.cell? ⟨w.heap.size + 1, 3, none⟩ = some (.slice A n cap) := by rw [hb1.cell (by simp)]; simp [go_sem]
          have q1 : w1.cell? ⟨w.heap.size, 1, none⟩ = some (.int .i64 p.limit) := by rw [hb1.cell (by simp; omega)]; simp [go_sem]
          have HB1 := Lib.hid hb1
          clear hb1
          go_wp2_with fail
          go_ret
          exact ⟨by rw [E.out]; rfl, HB0.out.trans (HB1.out.mono (by simp; omega))⟩
      · have E := Lib.hid (show rightn p s n = false from rightn_false (fun hh => h2 hh.2.2.1))
        go_enter Try.func31, Try.ntmps31
        go_wp2_with fail
        refine (rcheck_yes H0.out _).mono ?_
        rintro e w1 ⟨rfl, hb1⟩
        have d0 : w1.cell? ⟨w.heap.size + 1, 0, none⟩ = some (.int .i64 s.tm) := by rw [hb1.cell (by simp)]; simp [go_sem]
        have d1 : w1.cell? ⟨w.heap.size + 1, 1, none⟩ = some (.int .i64 s.level) := by rw [hb1.cell (by simp)]; simp [go_sem]
        have d2 : w1.cell? ⟨w.heap.size + 1, 2, none⟩ = some (.int .i64 s.held) := by rw [hb1.cell (by simp)]; simp [go_sem]
        have d3 : w1.cell? ⟨w.heap.size + 1, 3, none⟩ = some (.slice A n cap) := by rw [hb1.cell (by simp)]; simp [go_sem]
        have q1 : w1.cell? ⟨w.heap.size, 1, none⟩ = some (.int .i64 p.limit) := by rw [hb1.cell (by simp; omega)]; simp [go_sem]
        have HB1 := Lib.hid hb1
        clear hb1
        go_wp2_with fail
        go_ret
        exact ⟨by rw [E.out]; rfl, HB0.out.trans (HB1.out.mono (by simp; omega))⟩
    · have E := Lib.hid (show rightn p s n = false from rightn_false (fun hh => h1 hh.2.1))
      go_enter Try.func31, Try.ntmps31
      go_wp2_with fail
      refine (rcheck_yes H0.out _).mono ?_
      rintro e w1 ⟨rfl, hb1⟩
      have d0 : w1.cell? ⟨w.heap.size + 1, 0, none⟩ = some (.int .i64 s.tm) := by rw [hb1.cell (by simp)]; simp [go_sem]
      have d1 : w1.cell? ⟨w.heap.size + 1, 1, none⟩ = some (.int .i64 s.level) := by rw [hb1.cell (by simp)]; simp [go_sem]
      have d2 : w1.cell? ⟨w.heap.size + 1, 2, none⟩ = some (.int .i64 s.held) := by rw [hb1.cell (by simp)]; simp [go_sem]
      have d3 : w1.cell? ⟨w.heap.size + 1, 3, none⟩ = some (.slice A n cap) := by rw [hb1.cell (by simp)]; simp [go_sem]
      have q1 : w1.cell? ⟨w.heap.size, 1, none⟩ = some (.int .i64 p.limit) := by rw [hb1.cell (by simp; omega)]; simp [go_sem]
      have HB1 := Lib.hid hb1
      clear hb1
      go_wp2_with fail
      go_ret
      exact ⟨by rw [E.out]; rfl, HB0.out.trans (HB1.out.mono (by simp; omega))⟩
theorem rright_calls (p : Pol) (s : St) (A : Option Addr) (cap : Nat) (w : World) :
    Calls Try.prog 31 #[p.val, s.val A s.log.length cap] w fun e w' => e = .returned (.bool (right p s)) ∧ Below w.heap.size w w' := rrightn_calls p s A s.log.length cap w
theorem rright_yes {p : Pol} {s : St} (h : right p s = true) (A : Option Addr) (cap : Nat) (w : World) :
    Calls Try.prog 31 #[p.val, s.val A s.log.length cap] w fun e w' => e = .returned (.bool true) ∧ Below w.heap.size w w' := by
  have := rright_calls p s A cap w; rw [h] at this; exact this
theorem rright_no {p : Pol} {s : St} (h : right p s = false) (A : Option Addr) (cap : Nat) (w : World) :
    Calls Try.prog 31 #[p.val, s.val A s.log.length cap] w fun e w' => e = .returned (.bool false) ∧ Below w.heap.size w w' := by
  have := rright_calls p s A cap w; rw [h] at this; exact this
/-- when the time of t began -/
def bg (p : Pol) (t : Int) : Int := tim p t * p.period
theorem bg_bounds {p : Pol} {t : Int} (h : 1 ≤ p.period) (h3 : 0 ≤ t) : 0 ≤ bg p t ∧ bg p t ≤ t ∧ t < bg p t + p.period := by
  have a := tim_lo (p := p) t h
  have b := tim_hi (p := p) t h
  have c := Int.mul_nonneg (tim_nonneg (p := p) h h3) (show 0 ≤ p.period by omega)
  have e := tim_next p t
  unfold bg
  omega
theorem bg_gt {p : Pol} {t u : Int} (h : 1 ≤ p.period) (hu : u ≤ t) : u < bg p t ↔ ¬ tim p t = tim p u := by
  have m := tim_mono (p := p) h hu
  have lo := tim_lo (p := p) u h
  have hi := tim_hi (p := p) u h
  unfold bg
  constructor
  · intro hlt he
    rw [he] at hlt; omega
  · intro hne
    have := Int.mul_le_mul_of_nonneg_right (show tim p u + 1 ≤ tim p t by omega) (show 0 ≤ p.period by omega)
    omega
theorem begin_calls (p : Pol) (t : Int) (w : World) (h1 : 1 ≤ p.period ∧ p.period ≤ 1099511627776) (h3 : 0 ≤ t ∧ t ≤ 9007199254740992) :
    Calls Try.prog 38 #[p.val, .int .i64 t] w fun e w' => e = .returned (.int .i64 (bg p t)) ∧ Below w.heap.size w w' := by
  have E := Lib.hid (tim_begin p t)
  have b1 := bg_bounds (p := p) h1.1 h3.1
  have m0 := Int.emod_nonneg t (show p.period ≠ 0 by omega)
  have m1 : t % p.period ≤ t := by have := tim_begin p t; unfold bg at b1; omega
  obtain ⟨q1, q2⟩ := h1
  obtain ⟨q3, q4⟩ := h3
  clear b1
  unfold Pol.val bg
  go_enter Try.func38, Try.ntmps38
  go_wp2
  go_ret
  exact ⟨by rw [← E.out]; rfl, (Below.refl _ _).alloc (Nat.le_refl _) _⟩
end Wn
end Go.Proofs.Ytikfjdpkjifcdaa
