/-
  What window.Check, New, greatest and Right answer, in any world.
-/
import Derived.Test.YtljaemiggeeghaaWinOrd
namespace Go.Proofs.Ytljaemiggeeghaa
open Go.RowKit
namespace Wn

def chk (p : Pol) : Bool := decide (p.kind = 3) && decide (p.burst = 0) && wi p.limit 1 1048576 && wi p.period 1 1099511627776 && wi p.cap 1 100
theorem chk_spec {p : Pol} (h : chk p = true) : p.kind = 3 ∧ p.burst = 0 ∧ (1 ≤ p.limit ∧ p.limit ≤ 1048576) ∧ (1 ≤ p.period ∧ p.period ≤ 1099511627776) ∧ 1 ≤ p.cap ∧ p.cap ≤ 100 := by
  simpa [chk, wi, and_assoc] using h
theorem chk_of {p : Pol} (h1 : p.kind = 3) (h2 : p.burst = 0) (h3 : wi p.limit 1 1048576 = true) (h4 : wi p.period 1 1099511627776 = true) (h5 : wi p.cap 1 100 = true) : chk p = true := by
  simp [chk, h1, h2, h3, h4, h5]
def errno (b : Bool) : Int := if b then 0 else 2

set_option maxHeartbeats 2000000 in
theorem check_calls (p : Pol) (w : World) : Calls Try.prog 14 #[p.val] w fun e w' => e = .returned (.int .i64 (errno (chk p))) ∧ Below w.heap.size w w' := by
  unfold Pol.val
  by_cases h1 : p.kind = 3
  · by_cases h2 : p.burst = 0
    · cases h3 : wi p.limit 1 1048576 with
      | true =>
        cases h4 : wi p.period 1 1099511627776 with
        | true =>
          cases h5 : wi p.cap 1 100 with
          | true =>
            have E := Lib.hid (chk_of h1 h2 h3 h4 h5)
            have H3 := Lib.hid h3
            have H4 := Lib.hid h4
            have H5 := Lib.hid h5
            clear h3 h4 h5
            go_enter Try.func14, Try.ntmps14
            go_wp2_with fail
            refine (within_is H3.out _).mono ?_
            rintro e w1 ⟨rfl, rfl⟩
            go_wp2_with fail
            refine (within_is H4.out _).mono ?_
            rintro e w1 ⟨rfl, rfl⟩
            go_wp2_with fail
            refine (within_is H5.out _).mono ?_
            rintro e w1 ⟨rfl, rfl⟩
            go_wp2_with fail
            go_ret
            exact ⟨by rw [E.out]; rfl, (Below.refl _ _).alloc (Nat.le_refl _) _⟩
          | false =>
            have E := Lib.hid (show chk p = false by simp [chk, h5])
            have H3 := Lib.hid h3
            have H4 := Lib.hid h4
            have H5 := Lib.hid h5
            clear h3 h4 h5
            go_enter Try.func14, Try.ntmps14
            go_wp2_with fail
            refine (within_is H3.out _).mono ?_
            rintro e w1 ⟨rfl, rfl⟩
            go_wp2_with fail
            refine (within_is H4.out _).mono ?_
            rintro e w1 ⟨rfl, rfl⟩
            go_wp2_with fail
            refine (within_is H5.out _).mono ?_
            rintro e w1 ⟨rfl, rfl⟩
            go_wp2_with fail
            go_ret
            exact ⟨by rw [E.out]; rfl, (Below.refl _ _).alloc (Nat.le_refl _) _⟩
        | false =>
          have E := Lib.hid (show chk p = false by simp [chk, h4])
          have H3 := Lib.hid h3
          have H4 := Lib.hid h4
          clear h3 h4
          go_enter Try.func14, Try.ntmps14
          go_wp2_with fail
          refine (within_is H3.out _).mono ?_
          rintro e w1 ⟨rfl, rfl⟩
          go_wp2_with fail
          refine (within_is H4.out _).mono ?_
          rintro e w1 ⟨rfl, rfl⟩
          go_wp2_with fail
          go_ret
          exact ⟨by rw [E.out]; rfl, (Below.refl _ _).alloc (Nat.le_refl _) _⟩
      | false =>
        have E := Lib.hid (show chk p = false by simp [chk, h3])
        have H3 := Lib.hid h3
        clear h3
        go_enter Try.func14, Try.ntmps14
        go_wp2_with fail
        refine (within_is H3.out _).mono ?_
        rintro e w1 ⟨rfl, rfl⟩
        go_wp2_with fail
        go_ret
        exact ⟨by rw [E.out]; rfl, (Below.refl _ _).alloc (Nat.le_refl _) _⟩
    · have E := Lib.hid (show chk p = false by simp [chk, h2])
      go_enter Try.func14, Try.ntmps14
      go_wp2
      go_ret
      exact ⟨by rw [E.out]; rfl, (Below.refl _ _).alloc (Nat.le_refl _) _⟩
  · have E := Lib.hid (show chk p = false by simp [chk, h1])
    go_enter Try.func14, Try.ntmps14
    go_wp2
    go_ret
    exact ⟨by rw [E.out]; rfl, (Below.refl _ _).alloc (Nat.le_refl _) _⟩
theorem check_yes {p : Pol} (h : chk p = true) (w : World) : Calls Try.prog 14 #[p.val] w fun e w' => e = .returned (.int .i64 0) ∧ Below w.heap.size w w' := by
  have := check_calls p w; rw [h] at this; exact this
theorem check_no {p : Pol} (h : chk p = false) (w : World) : Calls Try.prog 14 #[p.val] w fun e w' => e = .returned (.int .i64 2) ∧ Below w.heap.size w w' := by
  have := check_calls p w; rw [h] at this; exact this

def right (p : Pol) (s : St) : Bool := chk p && wi s.tm 0 9007199254740992 && wi s.held 0 p.limit && decide (s.level = 0) && decide ((s.log.length : Int) ≤ p.cap) && ordl p.limit s.tm 0 s.held s.log

set_option maxHeartbeats 4000000 in
theorem right_calls (p : Pol) (s : St) (A : Option Addr) (cap : Nat) (w : World) (hA : Ents w A s.log) :
    Calls Try.prog 24 #[p.val, s.val A s.log.length cap] w fun e w' => e = .returned (.bool (right p s)) ∧ Below w.heap.size w w' := by
  have HA := Lib.hid hA
  clear hA
  have HB0 := Lib.hid (below_two w p.box (s.box A s.log.length cap))
  unfold Pol.val St.val
  cases h0 : chk p with
  | false =>
    have E := Lib.hid (show right p s = false by simp [right, h0])
    have H0 := Lib.hid h0
    clear h0
    go_enter Try.func24, Try.ntmps24
    go_wp2_with fail
    refine (check_no H0.out _).mono ?_
    rintro e w1 ⟨rfl, hb1⟩
    have HB1 := Lib.hid hb1
    clear hb1
    go_wp2_with fail
    go_ret
    exact ⟨by rw [E.out]; rfl, HB0.out.trans (HB1.out.mono (by simp; omega))⟩
  | true =>
    have g := (chk_spec h0).2.2
    have H0 := Lib.hid h0
    clear h0
    cases h1 : wi s.tm 0 9007199254740992 with
    | false =>
      have E := Lib.hid (show right p s = false by simp [right, h1])
      have H1 := Lib.hid h1
      clear h1
      go_enter Try.func24, Try.ntmps24
      go_wp2_with fail
      refine (check_yes H0.out _).mono ?_
      rintro e w1 ⟨rfl, hb1⟩
      have d1 : w1.cell? ⟨w.heap.size + 1, 0, none⟩ = some (.int .i64 s.tm) := by rw [hb1.cell (by simp)]; simp [go_sem]
      have HB1 := Lib.hid hb1
      clear hb1
      go_wp2_with fail
      refine (within_is H1.out _).mono ?_
      rintro e w2 ⟨rfl, rfl⟩
      go_wp2_with fail
      go_ret
      exact ⟨by rw [E.out]; rfl, HB0.out.trans (HB1.out.mono (by simp; omega))⟩
    | true =>
      have H1 := Lib.hid h1
      clear h1
      cases h2 : wi s.held 0 p.limit with
      | false =>
        have E := Lib.hid (show right p s = false by simp [right, h2])
        have H2 := Lib.hid h2
        clear h2
        go_enter Try.func24, Try.ntmps24
        go_wp2_with fail
        refine (check_yes H0.out _).mono ?_
        rintro e w1 ⟨rfl, hb1⟩
        have d1 : w1.cell? ⟨w.heap.size + 1, 0, none⟩ = some (.int .i64 s.tm) := by rw [hb1.cell (by simp)]; simp [go_sem]
        have d2 : w1.cell? ⟨w.heap.size + 1, 2, none⟩ = some (.int .i64 s.held) := by rw [hb1.cell (by simp)]; simp [go_sem]
        have d3 : w1.cell? ⟨w.heap.size, 1, none⟩ = some (.int .i64 p.limit) := by rw [hb1.cell (by simp; omega)]; simp [go_sem]
        have HB1 := Lib.hid hb1
        clear hb1
        go_wp2_with fail
        refine (within_is H1.out _).mono ?_
        rintro e w2 ⟨rfl, rfl⟩
        go_wp2_with fail
        refine (within_is H2.out _).mono ?_
        rintro e w2 ⟨rfl, rfl⟩
        go_wp2_with fail
        go_ret
        exact ⟨by rw [E.out]; rfl, HB0.out.trans (HB1.out.mono (by simp; omega))⟩
      | true =>
        have g2 := wi_yes h2
        have H2 := Lib.hid h2
        clear h2
        by_cases h3 : s.level = 0
        · by_cases h4 : (s.log.length : Int) ≤ p.cap
          · have E := Lib.hid (show right p s = ordl p.limit s.tm 0 s.held s.log by simp [right, H0.out, H1.out, H2.out, h3, h4])
            have t3 : (s.level == 0) = true := by simpa using h3
            clear h3
            go_enter Try.func24, Try.ntmps24
            go_wp2_with fail
            refine (check_yes H0.out _).mono ?_
            rintro e w1 ⟨rfl, hb1⟩
            have d1 : w1.cell? ⟨w.heap.size + 1, 0, none⟩ = some (.int .i64 s.tm) := by rw [hb1.cell (by simp)]; simp [go_sem]
            have d5 : w1.cell? ⟨w.heap.size + 1, 1, none⟩ = some (.int .i64 s.level) := by rw [hb1.cell (by simp)]; simp [go_sem]
            have d2 : w1.cell? ⟨w.heap.size + 1, 2, none⟩ = some (.int .i64 s.held) := by rw [hb1.cell (by simp)]; simp [go_sem]
            have d6 : w1.cell? ⟨w.heap.size + 1, 3, none⟩ = some (.slice A s.log.length cap) := by rw [hb1.cell (by simp)]; simp [go_sem]
            have d7 : w1.cell? ⟨w.heap.size, 0, none⟩ = some (.int .i64 p.kind) := by rw [hb1.cell (by simp; omega)]; simp [go_sem]
            have d3 : w1.cell? ⟨w.heap.size, 1, none⟩ = some (.int .i64 p.limit) := by rw [hb1.cell (by simp; omega)]; simp [go_sem]
            have d8 : w1.cell? ⟨w.heap.size, 2, none⟩ = some (.int .i64 p.period) := by rw [hb1.cell (by simp; omega)]; simp [go_sem]
            have d9 : w1.cell? ⟨w.heap.size, 3, none⟩ = some (.int .i64 p.burst) := by rw [hb1.cell (by simp; omega)]; simp [go_sem]
            have d4 : w1.cell? ⟨w.heap.size, 4, none⟩ = some (.int .i64 p.cap) := by rw [hb1.cell (by simp; omega)]; simp [go_sem]
            have d10 : w1.cell? ⟨w.heap.size, 5, none⟩ = some (.bool p.opn) := by rw [hb1.cell (by simp; omega)]; simp [go_sem]
            have HB1 := Lib.hid hb1
            clear hb1
            go_wp2_with fail
            refine (within_is H1.out _).mono ?_
            rintro e w2 ⟨rfl, rfl⟩
            go_wp2_with fail
            refine (within_is H2.out _).mono ?_
            rintro e w2 ⟨rfl, rfl⟩
            go_wp2_with fail
            refine (orderly_calls p s A cap _ ((HA.out.keep HB0.out).keep HB1.out) (by omega) (by omega) (by omega) (by omega)).mono ?_
            rintro e w2 ⟨rfl, hb2⟩
            have HB2 := Lib.hid hb2
            clear hb2
            go_wp2_with fail
            go_ret
            exact ⟨by rw [E.out]; rfl, (HB0.out.trans (HB1.out.mono (by simp; omega))).trans (HB2.out.mono (by have := HB1.out.size; simp at this; omega))⟩
          · have E := Lib.hid (show right p s = false by simp [right, h4])
            have t3 : (s.level == 0) = true := by simpa using h3
            clear h3
            go_enter Try.func24, Try.ntmps24
            go_wp2_with fail
            refine (check_yes H0.out _).mono ?_
            rintro e w1 ⟨rfl, hb1⟩
            have d1 : w1.cell? ⟨w.heap.size + 1, 0, none⟩ = some (.int .i64 s.tm) := by rw [hb1.cell (by simp)]; simp [go_sem]
            have d5 : w1.cell? ⟨w.heap.size + 1, 1, none⟩ = some (.int .i64 s.level) := by rw [hb1.cell (by simp)]; simp [go_sem]
            have d2 : w1.cell? ⟨w.heap.size + 1, 2, none⟩ = some (.int .i64 s.held) := by rw [hb1.cell (by simp)]; simp [go_sem]
            have d6 : w1.cell? ⟨w.heap.size + 1, 3, none⟩ = some (.slice A s.log.length cap) := by rw [hb1.cell (by simp)]; simp [go_sem]
            have d3 : w1.cell? ⟨w.heap.size, 1, none⟩ = some (.int .i64 p.limit) := by rw [hb1.cell (by simp; omega)]; simp [go_sem]
            have d4 : w1.cell? ⟨w.heap.size, 4, none⟩ = some (.int .i64 p.cap) := by rw [hb1.cell (by simp; omega)]; simp [go_sem]
            have HB1 := Lib.hid hb1
            clear hb1
            go_wp2_with fail
            refine (within_is H1.out _).mono ?_
            rintro e w2 ⟨rfl, rfl⟩
            go_wp2_with fail
            refine (within_is H2.out _).mono ?_
            rintro e w2 ⟨rfl, rfl⟩
            go_wp2_with fail
            go_ret
            exact ⟨by rw [E.out]; rfl, HB0.out.trans (HB1.out.mono (by simp; omega))⟩
        · have E := Lib.hid (show right p s = false by simp [right, h3])
          go_enter Try.func24, Try.ntmps24
          go_wp2_with fail
          refine (check_yes H0.out _).mono ?_
          rintro e w1 ⟨rfl, hb1⟩
          have d1 : w1.cell? ⟨w.heap.size + 1, 0, none⟩ = some (.int .i64 s.tm) := by rw [hb1.cell (by simp)]; simp [go_sem]
          have d5 : w1.cell? ⟨w.heap.size + 1, 1, none⟩ = some (.int .i64 s.level) := by rw [hb1.cell (by simp)]; simp [go_sem]
          have d2 : w1.cell? ⟨w.heap.size + 1, 2, none⟩ = some (.int .i64 s.held) := by rw [hb1.cell (by simp)]; simp [go_sem]
          have d3 : w1.cell? ⟨w.heap.size, 1, none⟩ = some (.int .i64 p.limit) := by rw [hb1.cell (by simp; omega)]; simp [go_sem]
          have HB1 := Lib.hid hb1
          clear hb1
          go_wp2_with fail
          refine (within_is H1.out _).mono ?_
          rintro e w2 ⟨rfl, rfl⟩
          go_wp2_with fail
          refine (within_is H2.out _).mono ?_
          rintro e w2 ⟨rfl, rfl⟩
          go_wp2_with fail
          go_ret
          exact ⟨by rw [E.out]; rfl, HB0.out.trans (HB1.out.mono (by simp; omega))⟩

end Wn
end Go.Proofs.Ytljaemiggeeghaa
