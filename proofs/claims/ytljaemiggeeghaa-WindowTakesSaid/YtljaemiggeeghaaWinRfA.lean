/-
  What the document's own Check, New and used answer, in any world.
-/
import Derived.Test.YtljaemiggeeghaaWinMath
namespace Go.Proofs.Ytljaemiggeeghaa
open Go.RowKit
attribute [local go_sem ↓] Go.wp_at_zero Go.wp_at_succ
namespace Wn

theorem chk_false {p : Pol} (h : ¬ (p.kind = 3 ∧ p.burst = 0 ∧ (1 ≤ p.limit ∧ p.limit ≤ 1048576) ∧ (1 ≤ p.period ∧ p.period ≤ 1099511627776) ∧ 1 ≤ p.cap ∧ p.cap ≤ 100)) : chk p = false := by
  cases e : chk p
  · rfl
  · exact absurd (chk_spec e) h
theorem chk_true {p : Pol} (h1 : p.kind = 3) (h2 : 1 ≤ p.limit) (h3 : p.limit ≤ 1048576) (h4 : 1 ≤ p.period) (h5 : p.period ≤ 1099511627776) (h6 : 1 ≤ p.cap) (h7 : p.cap ≤ 100) (h8 : p.burst = 0) : chk p = true :=
  chk_of h1 h8 (wi_of h2 h3) (wi_of h4 h5) (wi_of h6 h7)

set_option maxHeartbeats 4000000 in
theorem rcheck_calls (p : Pol) (w : World) : Calls Try.prog 13 #[p.val] w fun e w' => e = .returned (.int .i64 (errno (chk p))) ∧ Below w.heap.size w w' := by
  unfold Pol.val
  by_cases h1 : p.kind = 3
  · skip
    by_cases h2 : 1 ≤ p.limit
    · skip
      by_cases h3 : p.limit ≤ 1048576
      · skip
        by_cases h4 : 1 ≤ p.period
        · skip
          by_cases h5 : p.period ≤ 1099511627776
          · skip
            by_cases h6 : 1 ≤ p.cap
            · skip
              by_cases h7 : p.cap ≤ 100
              · skip
                by_cases h8 : p.burst = 0
                · skip
                  have E := Lib.hid (show chk p = true from chk_true h1 h2 h3 h4 h5 h6 h7 h8)
                  go_enter Try.func13, Try.ntmps13
                  go_wp2_with fail
                  go_ret
                  exact ⟨by rw [E.out]; rfl, (Below.refl _ _).alloc (Nat.le_refl _) _⟩
                · have E := Lib.hid (show chk p = false from chk_false (by omega))
                  have hb : (p.burst == 0) = false := by simp; omega
                  clear h8
                  go_enter Try.func13, Try.ntmps13
                  go_wp2_with fail
                  go_ret
                  exact ⟨by rw [E.out]; rfl, (Below.refl _ _).alloc (Nat.le_refl _) _⟩
              · have E := Lib.hid (show chk p = false from chk_false (by omega))
                go_enter Try.func13, Try.ntmps13
                go_wp2_with fail
                go_ret
                exact ⟨by rw [E.out]; rfl, (Below.refl _ _).alloc (Nat.le_refl _) _⟩
            · have E := Lib.hid (show chk p = false from chk_false (by omega))
              go_enter Try.func13, Try.ntmps13
              go_wp2_with fail
              go_ret
              exact ⟨by rw [E.out]; rfl, (Below.refl _ _).alloc (Nat.le_refl _) _⟩
          · have E := Lib.hid (show chk p = false from chk_false (by omega))
            go_enter Try.func13, Try.ntmps13
            go_wp2_with fail
            go_ret
            exact ⟨by rw [E.out]; rfl, (Below.refl _ _).alloc (Nat.le_refl _) _⟩
        · have E := Lib.hid (show chk p = false from chk_false (by omega))
          go_enter Try.func13, Try.ntmps13
          go_wp2_with fail
          go_ret
          exact ⟨by rw [E.out]; rfl, (Below.refl _ _).alloc (Nat.le_refl _) _⟩
      · have E := Lib.hid (show chk p = false from chk_false (by omega))
        go_enter Try.func13, Try.ntmps13
        go_wp2_with fail
        go_ret
        exact ⟨by rw [E.out]; rfl, (Below.refl _ _).alloc (Nat.le_refl _) _⟩
    · have E := Lib.hid (show chk p = false from chk_false (by omega))
      go_enter Try.func13, Try.ntmps13
      go_wp2_with fail
      go_ret
      exact ⟨by rw [E.out]; rfl, (Below.refl _ _).alloc (Nat.le_refl _) _⟩
  · have E := Lib.hid (show chk p = false from chk_false (by omega))
    have hb : (p.kind == 3) = false := by simp; omega
    clear h1
    go_enter Try.func13, Try.ntmps13
    go_wp2_with fail
    go_ret
    exact ⟨by rw [E.out]; rfl, (Below.refl _ _).alloc (Nat.le_refl _) _⟩

theorem rcheck_yes {p : Pol} (h : chk p = true) (w : World) : Calls Try.prog 13 #[p.val] w fun e w' => e = .returned (.int .i64 0) ∧ Below w.heap.size w w' := by
  have := rcheck_calls p w; rw [h] at this; exact this
theorem rcheck_no {p : Pol} (h : chk p = false) (w : World) : Calls Try.prog 13 #[p.val] w fun e w' => e = .returned (.int .i64 2) ∧ Below w.heap.size w w' := by
  have := rcheck_calls p w; rw [h] at this; exact this

set_option maxHeartbeats 2000000 in
theorem rnew_calls (p : Pol) (now : Int) (w : World) : Calls Try.prog 16 #[p.val, .int .i64 now] w fun e w' => e = .returned ((new p now).val none 0 0) ∧ Below w.heap.size w w' := by
  unfold Pol.val St.val
  cases h0 : chk p with
  | false =>
    have E := Lib.hid (show new p now = zero by simp [new, h0])
    have H0 := Lib.hid h0
    clear h0
    go_enter Try.func16, Try.ntmps16
    go_wp2_with fail
    refine (rcheck_no H0.out _).mono ?_
    rintro e w1 ⟨rfl, hb1⟩
    have hg : w1.heap[w.heap.size + 1]? = some (.cells (scells 0 0 0 (.slice none 0 0)) 32 (0, 0)) := by rw [hb1.block _ (by simp)]; exact heap_alloc2_new _ _ _
    have HB1 := Lib.hid hb1
    clear hb1
    go_wp2_with (refine wpList_store_row rfl 32 _ _ rfl (w.heap.size + 1) (scells 0 0 0 (.slice none 0 0)) rfl rfl 32 _ hg st_size rfl (scells_one _ _ _ _ (slice_one _ _ _)) ?_)
    refine bodyPost_ret (v := .agg (scells 0 0 0 (.slice none 0 0))) (results_cell_row (p := 4) (ty := 32) Try.results16 _ _ (w.heap.size + 1) 32 _ (0, 0) _ rfl (setRow_heap _ _ _ _ _ _ hg) Try.underlying32 rfl st_size) rfl ⟨?_, ?_⟩
    · rw [E.out]; rfl
    · exact below_setRow ((below_two w _ _).trans (HB1.out.mono (by simp; omega))) (by omega) _
  | true =>
    have E := Lib.hid (show new p now = ⟨clamp now, 0, 0, []⟩ by simp [new, h0])
    have H0 := Lib.hid h0
    clear h0
    go_enter Try.func16, Try.ntmps16
    go_wp2_with fail
    refine (rcheck_yes H0.out _).mono ?_
    rintro e w1 ⟨rfl, hb1⟩
    have hg : w1.heap[w.heap.size + 1]? = some (.cells (scells 0 0 0 (.slice none 0 0)) 32 (0, 0)) := by rw [hb1.block _ (by simp)]; exact heap_alloc2_new _ _ _
    have HB1 := Lib.hid hb1
    clear hb1
    go_wp2_with fail
    refine (refclamp_calls now _).mono ?_
    rintro e w2 ⟨rfl, rfl⟩
    go_wp2_with (refine wpList_store_row rfl 32 _ _ rfl (w.heap.size + 1) (scells (clamp now) 0 0 (.slice none 0 0)) rfl rfl 32 _ hg st_size rfl (scells_one _ _ _ _ (slice_one _ _ _)) ?_)
    refine bodyPost_ret (v := .agg (scells (clamp now) 0 0 (.slice none 0 0))) (results_cell_row (p := 4) (ty := 32) Try.results16 _ _ (w.heap.size + 1) 32 _ (0, 0) _ rfl (setRow_heap _ _ _ _ _ _ hg) Try.underlying32 rfl st_size) rfl ⟨?_, ?_⟩
    · rw [E.out]
    · exact below_setRow ((below_two w _ _).trans (HB1.out.mono (by simp; omega))) (by omega) _


/-- what is remembered at a time, together -/
def usedl (per t : Int) (l : List (Int × Int)) : Int := tot (l.filter fun e => decide (t - per < e.1))
theorem usedl_nil (per t : Int) : usedl per t [] = 0 := rfl
theorem usedl_take (per t : Int) (l : List (Int × Int)) (k : Nat) (h : k < l.length) : usedl per t (l.take (k + 1)) = usedl per t (l.take k) + if t - per < l[k].1 then l[k].2 else 0 := by
  unfold usedl
  rw [List.take_succ_eq_append_getElem h, List.filter_append, tot_append]
  by_cases hc : t - per < l[k].1 <;> simp [hc, tot]
theorem usedl_bounds {per t : Int} {l : List (Int × Int)} (h : ∀ e ∈ l, 1 ≤ e.2 ∧ e.2 ≤ 1048576) : 0 ≤ usedl per t l ∧ usedl per t l ≤ l.length * 1048576 := by
  induction l with
  | nil => simp [usedl, tot]
  | cons e l ih =>
    have i1 := ih fun x hx => h x (List.mem_cons_of_mem _ hx)
    have i2 := h e (List.mem_cons_self ..)
    have e1 : usedl per t (e :: l) = (if t - per < e.1 then e.2 else 0) + usedl per t l := by
      unfold usedl
      by_cases hc : t - per < e.1 <;> simp [hc, tot]
    rw [e1, List.length_cons]
    push_cast
    split <;> omega

set_option maxHeartbeats 4000000 in
theorem used_calls (p : Pol) (s : St) (A : Option Addr) (cap : Nat) (t : Int) (w : World) (hA : Ents w A s.log) (hc : ∀ e ∈ s.log, 1 ≤ e.2 ∧ e.2 ≤ 1048576) (hn : s.log.length ≤ 1000) (t0 : 0 ≤ t) (t1 : t ≤ 18014398509481984) (p0 : 1 ≤ p.period) (p1 : p.period ≤ 1099511627776) :
    Calls Try.prog 43 #[p.val, s.val A s.log.length cap, .int .i64 t] w fun e w' => e = .returned (.int .i64 (usedl p.period t s.log)) ∧ Below w.heap.size w w' := by
  have HA := Lib.hid hA
  have HC := Lib.hid hc
  clear hA hc
  unfold Pol.val St.val
  go_enter Try.func43, Try.ntmps43
  go_wp2_with fail
  go_loopw [7, 8] (fun acc i wr => ∃ k n : Nat, k ≤ s.log.length ∧ i = .int .i64 k ∧ acc = .int .i64 (usedl p.period t (s.log.take k)) ∧ wr = ((w.alloc p.box).alloc (s.box A s.log.length cap)).drewN n) (fun _ i _ => s.log.length - (intOf i).toNat)
  case atStart => exact ⟨0, 0, Nat.zero_le _, rfl, rfl, rfl⟩
  case round =>
    obtain ⟨k, n, hk, rfl, rfl, rfl⟩ := hrel
    by_cases hlt : k < s.log.length
    · obtain ⟨a, rfl, c1, c2⟩ := (HA.out.keep (below_two w p.box (s.box A s.log.length cap))).at_ hlt
      have HU := Lib.hid (usedl_take p.period t s.log k hlt)
      have bu := usedl_bounds (per := p.period) (t := t) (l := s.log.take k) (fun e he => HC.out e (List.mem_of_mem_take he))
      have bl : ((s.log.take k).length : Int) ≤ 1000 := by rw [List.length_take]; omega
      have bc := HC.out _ (List.getElem_mem hlt)
      have i1 : (k : Int) < (s.log.length : Int) := by omega
      have b1 : 0 ≤ usedl p.period t (s.log.take k) := bu.1
      have b2 : usedl p.period t (s.log.take k) ≤ 1048576000 := by omega
      clear bu bl
      by_cases hg : t - p.period < s.log[k].1
      · have HV := Lib.hid (show usedl p.period t (s.log.take (k + 1)) = usedl p.period t (s.log.take k) + s.log[k].2 by rw [HU.out, if_pos hg])
        go_wp2_with fail
        go_quiet (fail)
        go_wp2_with fail
        go_roundw
        case rel => exact ⟨k + 1, n + nq, by omega, by go_num, val_int HV.out.symm, rfl⟩
        case measure => simp [intOf]; omega
      · have HV := Lib.hid (show usedl p.period t (s.log.take (k + 1)) = usedl p.period t (s.log.take k) by rw [HU.out, if_neg hg]; omega)
        have hf : decide (t - p.period < s.log[k].1) = false := by simpa using hg
        go_wp2_with fail
        go_quiet (fail)
        go_wp2_with fail
        go_roundw
        case rel => exact ⟨k + 1, n + nq, by omega, by go_num, val_int HV.out.symm, rfl⟩
        case measure => simp [intOf]; omega
    · go_wp2
      go_ret
      exact ⟨by rw [List.take_of_length_le (by omega)]; rfl, below_drewN (below_two _ _ _) _⟩

end Wn
end Go.Proofs.Ytljaemiggeeghaa
