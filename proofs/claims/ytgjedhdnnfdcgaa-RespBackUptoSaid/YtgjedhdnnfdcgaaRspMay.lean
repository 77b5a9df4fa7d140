/-
  Whether a command may be.
-/
import Derived.Test.YtgjedhdnnfdcgaaRspCmd
namespace Go.Proofs.Ytgjedhdnnfdcgaa.Rp
open Go.RowKit Go.Shelf

theorem tooLong_calls (a : Bytes) (w : World) : Calls Try.prog 34 #[.string (bat a)] w fun e w' => e = .returned (.bool (decide ((1000 : Int) < (a.length : Int)))) ∧ w' = w := by
  have hz : (bat a).size = a.length := bat_size a
  generalize bat a = s at hz ⊢
  rw [← hz]
  clear hz
  go_enter Try.func34, Try.ntmps34
  go_wp2_with fail
  go_ret
  exact ⟨rfl, rfl⟩
def anyLong (l : List Bytes) : Bool := l.any fun a => decide (1000 < a.length)
set_option maxHeartbeats 1000000 in
theorem indexFunc_calls (A : Option Addr) (cap : Nat) (l : List Bytes) (w : World) (hA : Texts w A (l.map bat)) (hn : l.length ≤ 1048576) :
    Calls Try.prog 40 #[.slice A l.length cap, fnv 34] w fun e w' => (∃ i : Int, e = .returned (.int .i64 i) ∧ decide ((0 : Int) ≤ i) = anyLong l) ∧ w' = w := by
  have HA := Lib.hid hA
  clear hA
  go_enter Try.func40, Try.ntmps40
  go_wp2_with fail
  go_loopw [8] (fun i wr => ∃ k : Nat, k ≤ l.length ∧ i = .int .i64 (k : Nat) ∧ wr = w ∧ anyLong (l.take k) = false) (fun i _ => l.length - (intOf i).toNat)
  case atStart => exact ⟨0, Nat.zero_le _, rfl, rfl, rfl⟩
  case round =>
    obtain ⟨k, hk, rfl, rfl, hno⟩ := hrel
    have HN := Lib.hid hno
    clear hno
    by_cases hlt : k < l.length
    · obtain ⟨a, rfl, c0⟩ := Texts.bat_at HA.out hlt
      have i1 : (k : Int) < (l.length : Int) := by omega
      have hlt2 : decide ((k : Int) < (l.length : Int)) = true := decide_eq_true i1
      have hw1 : IntKind.i64.wrap ((k : Int) + 1) = (k : Int) + 1 := IntWalk.i64_in _ (by omega)
      have E := Lib.hid (show l.take (k + 1) = l.take k ++ [l[k]] by rw [List.take_add_one, List.getElem?_eq_getElem hlt]; rfl)
      have EM := Lib.hid (List.getElem_mem hlt)
      generalize l[k] = b at c0 E EM
      go_wp2_with fail
      refine (tooLong_calls b _).mono ?_
      rintro e w2 ⟨rfl, rfl⟩
      by_cases hb : 1000 < b.length
      · have t1 : decide ((1000 : Int) < (b.length : Int)) = true := decide_eq_true (by omega)
        have HB := Lib.hid hb
        clear hb
        go_wp2_with fail
        go_ret
        refine ⟨⟨k, rfl, ?_⟩, rfl⟩
        have h1 : anyLong l = true := by
          unfold anyLong
          exact List.any_eq_true.2 ⟨b, EM.out, decide_eq_true HB.out⟩
        rw [h1]
        exact decide_eq_true (by omega)
      · have t1 : decide ((1000 : Int) < (b.length : Int)) = false := decide_eq_false (by omega)
        have HB := Lib.hid hb
        clear hb
        go_wp2_with fail
        go_roundw
        case rel =>
          refine ⟨k + 1, by omega, by go_num, trivial, ?_⟩
          rw [E.out]
          have h1 := HN.out
          unfold anyLong at h1 ⊢
          rw [List.any_append, h1]
          have h2 := HB.out
          simp
          omega
        case measure => simp [intOf]; omega
    · have hkl : k = l.length := by omega
      have hlt2 : decide ((k : Int) < (l.length : Int)) = false := decide_eq_false (by omega)
      have h1 := HN.out
      rw [hkl, List.take_length] at h1
      have H1 := Lib.hid h1
      clear h1 HN
      go_wp2_with fail
      go_ret
      refine ⟨⟨-1, rfl, ?_⟩, by trivial⟩
      rw [H1.out]
      rfl
theorem containsFunc_calls (A : Option Addr) (cap : Nat) (l : List Bytes) (w : World) (hA : Texts w A (l.map bat)) (hn : l.length ≤ 1048576) :
    Calls Try.prog 35 #[.slice A l.length cap, fnv 34] w fun e w' => e = .returned (.bool (anyLong l)) ∧ w' = w := by
  have HI := Lib.hid (indexFunc_calls A cap l w hA hn)
  clear hA
  go_enter Try.func35, Try.ntmps35
  go_wp2_with fail
  refine HI.out.mono ?_
  rintro e w2 ⟨⟨i, rfl, hi⟩, rfl⟩
  go_wp2_with fail
  go_ret
  exact ⟨rfl, rfl⟩
theorem may_all (l : List Bytes) : mayB l = (decide (1 ≤ l.length) && (decide (l.length ≤ 50) && !anyLong l)) := by
  have h : (l.all fun a => decide (a.length ≤ 1000)) = !anyLong l := by
    unfold anyLong
    induction l with
    | nil => rfl
    | cons a l ih =>
      rw [List.all_cons, List.any_cons, ih]
      by_cases ha : a.length ≤ 1000
      · have : ¬ 1000 < a.length := by omega
        simp [ha, this]
      · have : 1000 < a.length := by omega
        simp [ha, this]
  unfold mayB
  rw [h]
  cases anyLong l <;> cases decide (1 ≤ l.length) <;> cases decide (l.length ≤ 50) <;> rfl
theorem May_calls (A : Option Addr) (cap : Nat) (l : List Bytes) (w : World) (hA : Texts w A (l.map bat)) (hc : l.length ≤ cap) (hl : longA l ≤ 1048576) :
    Calls Try.prog 24 #[.slice A l.length cap] w fun e w' => e = .returned (.bool (mayB l)) ∧ Below w.heap.size w w' := by
  have hn : l.length ≤ 1048576 := by have := longA_len l; omega
  have HI := Lib.hid (containsFunc_calls A cap l w hA hn)
  rw [may_all]
  clear hA
  go_enter Try.func24, Try.ntmps24
  by_cases h1 : 1 ≤ l.length
  · have t1 : decide ((1 : Int) ≤ (l.length : Int)) = true := decide_eq_true (by omega)
    have t1' : decide (1 ≤ l.length) = true := decide_eq_true h1
    by_cases h2 : l.length ≤ 50
    · have t2 : decide ((l.length : Int) ≤ 50) = true := decide_eq_true (by omega)
      have t2' : decide (l.length ≤ 50) = true := decide_eq_true h2
      have hend := show (decide (1 ≤ l.length) && (decide (l.length ≤ 50) && !anyLong l)) = !anyLong l by rw [t1', t2']; rfl
      rw [hend]
      clear t1' t2' hend
      go_wp2_with fail
      refine HI.out.mono ?_
      rintro e w2 ⟨rfl, rfl⟩
      go_wp2_with fail
      go_ret
      exact ⟨rfl, Below.refl _ _⟩
    · have t2 : decide ((l.length : Int) ≤ 50) = false := decide_eq_false (by omega)
      have hend := show (decide (1 ≤ l.length) && (decide (l.length ≤ 50) && !anyLong l)) = false by rw [decide_eq_false h2]; simp
      rw [hend]
      clear hend HI
      go_wp2_with fail
      go_ret
      exact ⟨rfl, Below.refl _ _⟩
  · have t1 : decide ((1 : Int) ≤ (l.length : Int)) = false := decide_eq_false (by omega)
    have hend := show (decide (1 ≤ l.length) && (decide (l.length ≤ 50) && !anyLong l)) = false by rw [decide_eq_false h1]; simp
    rw [hend]
    clear hend HI
    go_wp2_with fail
    go_ret
    exact ⟨rfl, Below.refl _ _⟩
end Go.Proofs.Ytgjedhdnnfdcgaa.Rp
