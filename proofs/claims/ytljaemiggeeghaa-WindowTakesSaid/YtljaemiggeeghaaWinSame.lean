/-
  What the document's own Same of two states answers, in any world.
-/
import Derived.Test.YtljaemiggeeghaaWinDo
namespace Go.Proofs.Ytljaemiggeeghaa
open Go.RowKit
namespace Wn

def sameS (s t : St) : Bool := decide (s.tm = t.tm ∧ s.level = t.level ∧ s.held = t.held ∧ s.log = t.log)
theorem sameS_self (s : St) : sameS s s = true := by simp [sameS]
theorem sameS_iff (s t : St) : sameS s t = true ↔ s = t := by
  cases s; cases t; simp [sameS]
theorem same_take {k l : List (Int × Int)} {i : Nat} (h1 : i < k.length) (h2 : i < l.length) (h : k.take i = l.take i) (he : k[i] = l[i]) : k.take (i + 1) = l.take (i + 1) := by
  rw [List.take_succ_eq_append_getElem h1, List.take_succ_eq_append_getElem h2, h, he]
theorem same_end {k l : List (Int × Int)} {i : Nat} (h1 : ¬ i < k.length) (hl : k.length = l.length) (h : k.take i = l.take i) : k = l := by
  rwa [List.take_of_length_le (by omega), List.take_of_length_le (by omega)] at h
theorem same_differ {k l : List (Int × Int)} {i : Nat} (h1 : i < k.length) (h2 : i < l.length) (he : ¬ k[i] = l[i]) : ¬ k = l := fun e => by
  subst e; exact he rfl

set_option maxHeartbeats 8000000 in
theorem same_calls (s t : St) (A C : Option Addr) (cap cap2 : Nat) (w : World) (hA : Ents w A s.log) (hC : Ents w C t.log) (hn : s.log.length ≤ 1000000) :
    Calls Try.prog 20 #[s.val A s.log.length cap, t.val C t.log.length cap2] w fun e w' => e = .returned (.bool (sameS s t)) ∧ Below w.heap.size w w' := by
  have HA := Lib.hid hA
  have HC := Lib.hid hC
  clear hA hC
  have HB := Lib.hid (below_two w (s.box A s.log.length cap) (t.box C t.log.length cap2))
  unfold St.val
  by_cases h1 : s.tm = t.tm
  · have t1 : (s.tm != t.tm) = false := by simpa using h1
    by_cases h2 : s.level = t.level
    · have t2 : (s.level != t.level) = false := by simpa using h2
      by_cases h3 : s.held = t.held
      · have t3 : (s.held != t.held) = false := by simpa using h3
        by_cases h4 : s.log.length = t.log.length
        · have t4 : ((s.log.length : Int) != (t.log.length : Int)) = false := by simp [h4]
          have E := Lib.hid (show sameS s t = decide (s.log = t.log) by simp [sameS, h1, h2, h3])
          have H4 := Lib.hid h4
          clear h1 h2 h3 h4
          go_enter Try.func20, Try.ntmps20
          go_wp2_with fail
          go_loopw [5] (fun i wr => ∃ (k n : Nat), k ≤ s.log.length ∧ i = .int .i64 k ∧ wr = ((w.alloc (s.box A s.log.length cap)).alloc (t.box C t.log.length cap2)).drewN n ∧ Hid (s.log.take k = t.log.take k)) (fun i _ => s.log.length - (intOf i).toNat)
          case atStart => exact ⟨0, 0, Nat.zero_le _, rfl, rfl, by simp [Hid]⟩
          case round =>
            obtain ⟨k, m, hk, rfl, rfl, HT⟩ := hrel
            by_cases hlt : k < s.log.length
            · have hlt2 : k < t.log.length := by have := H4.out; omega
              obtain ⟨a, rfl, c1, c2⟩ := (HA.out.keep HB.out).at_ hlt
              obtain ⟨c, rfl, c3, c4⟩ := (HC.out.keep HB.out).at_ hlt2
              have i1 : (k : Int) < (s.log.length : Int) := by omega
              have i2 : (k : Int) < (t.log.length : Int) := by omega
              by_cases hx : s.log[k].1 = t.log[k].1
              · by_cases hy : s.log[k].2 = t.log[k].2
                · have q1 : (s.log[k].1 == t.log[k].1) = true := by simpa using hx
                  have q2 : (s.log[k].2 == t.log[k].2) = true := by simpa using hy
                  have HX := Lib.hid (show s.log[k] = t.log[k] from Prod.ext hx hy)
                  clear hx hy
                  go_wp2_with fail
                  go_quiet (fail)
                  go_wp2_with fail
                  go_roundw
                  case rel => exact ⟨k + 1, m + nq, by omega, by go_num, rfl, same_take hlt hlt2 HT HX.out⟩
                  case measure => simp [intOf]; omega
                · have q1 : (s.log[k].1 == t.log[k].1) = true := by simpa using hx
                  have q2 : (s.log[k].2 == t.log[k].2) = false := by simpa using hy
                  have HX := Lib.hid (show ¬ s.log[k] = t.log[k] from fun h => hy (by rw [h]))
                  clear hx hy
                  go_wp2_with fail
                  go_quiet (fail)
                  go_wp2_with fail
                  go_ret
                  exact ⟨by rw [E.out, decide_eq_false (same_differ hlt hlt2 HX.out)]; rfl, below_drewN (below_drewN HB.out _) _⟩
              · have q1 : (s.log[k].1 == t.log[k].1) = false := by simpa using hx
                have HX := Lib.hid (show ¬ s.log[k] = t.log[k] from fun h => hx (by rw [h]))
                clear hx
                go_wp2_with fail
                go_quiet (fail)
                go_wp2_with fail
                go_ret
                exact ⟨by rw [E.out, decide_eq_false (same_differ hlt hlt2 HX.out)]; rfl, below_drewN (below_drewN HB.out _) _⟩
            · go_wp2_with fail
              go_ret
              exact ⟨by rw [E.out, decide_eq_true (same_end hlt H4.out HT.out)]; rfl, below_drewN HB.out _⟩
        · have t4 : ((s.log.length : Int) != (t.log.length : Int)) = true := by simp; omega
          have E := Lib.hid (show sameS s t = false by simp [sameS]; intro _ _ _ h; exact h4 (by rw [h]))
          clear h1 h2 h3 h4
          go_enter Try.func20, Try.ntmps20
          go_wp2_with fail
          go_ret
          exact ⟨by rw [E.out]; rfl, HB.out⟩
      · have t3 : (s.held != t.held) = true := by simpa using h3
        have E := Lib.hid (show sameS s t = false by simp [sameS, h3])
        clear h1 h2 h3
        go_enter Try.func20, Try.ntmps20
        go_wp2_with fail
        go_ret
        exact ⟨by rw [E.out]; rfl, HB.out⟩
    · have t2 : (s.level != t.level) = true := by simpa using h2
      have E := Lib.hid (show sameS s t = false by simp [sameS, h2])
      clear h1 h2
      go_enter Try.func20, Try.ntmps20
      go_wp2_with fail
      go_ret
      exact ⟨by rw [E.out]; rfl, HB.out⟩
  · have t1 : (s.tm != t.tm) = true := by simpa using h1
    have E := Lib.hid (show sameS s t = false by simp [sameS, h1])
    clear h1
    go_enter Try.func20, Try.ntmps20
    go_wp2_with fail
    go_ret
    exact ⟨by rw [E.out]; rfl, HB.out⟩

end Wn
end Go.Proofs.Ytljaemiggeeghaa
