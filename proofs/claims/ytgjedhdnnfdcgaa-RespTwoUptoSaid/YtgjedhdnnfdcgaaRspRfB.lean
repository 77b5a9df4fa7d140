/-
  What the document's own May, Long, Command answer, in any world.
-/
import Derived.Test.YtgjedhdnnfdcgaaRspSame
namespace Go.Proofs.Ytgjedhdnnfdcgaa.Rp
open Go.RowKit
open Gw
open Dg (dec txt)

def mayB (args : List Bytes) : Bool := args.all (fun a => decide (a.length ≤ 1000)) && (decide (1 ≤ args.length) && decide (args.length ≤ 50))
theorem mayB_iff {args : List Bytes} : mayB args = true ↔ May args := by
  unfold mayB May
  simp only [Bool.and_eq_true, List.all_eq_true, decide_eq_true_eq]
  exact ⟨fun ⟨h1, h2, h3⟩ => ⟨h2, h3, h1⟩, fun ⟨h1, h2, h3⟩ => ⟨h3, h1, h2⟩⟩
/-- how long texts are, each one more -/
def longA (args : List Bytes) : Nat := (args.map fun a => 1 + a.length).sum
theorem longA_nil : longA [] = 0 := rfl
theorem longA_snoc (l : List Bytes) (a : Bytes) : longA (l ++ [a]) = longA l + (1 + a.length) := by simp [longA]
theorem longA_take_le (l : List Bytes) (k : Nat) : longA (l.take k) ≤ longA l := by
  have : longA l = longA (l.take k) + longA (l.drop k) := by
    unfold longA
    rw [← List.sum_append, ← List.map_append, List.take_append_drop]
  omega
theorem longA_len (l : List Bytes) : l.length ≤ longA l := by
  induction l with
  | nil => exact Nat.zero_le _
  | cons a l ih => have e : longA (a :: l) = 1 + a.length + longA l := by simp [longA]
                   simp only [List.length_cons]; omega
theorem longA_mem {l : List Bytes} {a : Bytes} (h : a ∈ l) : a.length < longA l := by
  induction l with
  | nil => cases h
  | cons b l ih =>
    have e : longA (b :: l) = 1 + b.length + longA l := by simp [longA]
    rcases List.mem_cons.1 h with rfl | h
    · omega
    · have := ih h; omega
theorem Texts.bat_at {w : World} {A : Option Addr} {l : List Bytes} (h : Texts w A (l.map bat)) {i : Nat} (hi : i < l.length) : ∃ a : Addr, A = some a ∧ w.cell? (a.add i) = some (.string (bat l[i])) := by
  obtain ⟨a, e, hc⟩ := h.at_ (i := i) (by simpa using hi)
  exact ⟨a, e, by simpa using hc⟩

set_option maxHeartbeats 1000000 in
theorem long_calls (A : Option Addr) (cap : Nat) (l : List Bytes) (w : World) (hA : Texts w A (l.map bat)) (hl : longA l ≤ 4611686018427387904) :
    Calls Try.prog 18 #[.slice A l.length cap] w fun e w' => e = .returned (.int .i64 (longA l : Nat)) ∧ w = w' := by
  have hn := longA_len l
  go_enter Try.func18, Try.ntmps18
  go_wp2
  go_loop [3, 4] (fun n i => ∃ (k m : Nat), k ≤ l.length ∧ i = .int .i64 k ∧ n = .int .i64 m ∧ m ≤ 4611686018427387904 ∧ Hid (m = longA (l.take k))) (fun _ i => l.length - (intOf i).toNat)
  case atStart => exact ⟨0, 0, Nat.zero_le _, rfl, rfl, by omega, by simp [Hid, longA]⟩
  case round =>
    obtain ⟨k, m, hk, rfl, rfl, hm, H⟩ := hrel
    by_cases hlt : k < l.length
    · obtain ⟨a, rfl, hc⟩ := Texts.bat_at hA hlt
      have e1 : Hid (longA (l.take (k + 1)) = longA (l.take k) + (1 + l[k].length)) := Lib.hid (by rw [List.take_succ_eq_append_getElem hlt, longA_snoc])
      have e2 := longA_take_le l (k + 1)
      have e3 : m + 1 + l[k].length ≤ 4611686018427387904 := by have := e1.out; have h2 : m = _ := H; omega
      have hz : (bat l[k]).size = l[k].length := bat_size _
      generalize hp : bat l[k] = p at hc hz
      generalize l[k].length = z at hz e3 e1
      clear hA e2 hp
      go_wp2
      go_round
      case rel => exact ⟨k + 1, m + 1 + z, by omega, by go_num, by go_num, by omega, by have h2 : m = _ := H; show _ = _; rw [e1.out, ← h2]; omega⟩
      case measure => simp [intOf]; omega
    · go_wp2
      go_ret
      exact ⟨by show Ending.returned (.int .i64 (m : Nat)) = _; rw [show m = _ from H, List.take_of_length_le (by omega)], rfl⟩

set_option maxHeartbeats 1000000 in
theorem may_calls (A : Option Addr) (cap : Nat) (l : List Bytes) (w : World) (hA : Texts w A (l.map bat)) (hl : l.length ≤ 1048576) (hz : ∀ a ∈ l, a.length ≤ 1048576) :
    Calls Try.prog 25 #[.slice A l.length cap] w fun e w' => e = .returned (.bool (mayB l)) ∧ w = w' := by
  go_enter Try.func25, Try.ntmps25
  go_wp2
  go_loop [3] (fun i => ∃ (k : Nat), k ≤ l.length ∧ i = .int .i64 k ∧ Hid ((l.take k).all (fun a => decide (a.length ≤ 1000)) = true)) (fun i => l.length - (intOf i).toNat)
  case atStart => exact ⟨0, Nat.zero_le _, rfl, by simp [Hid]⟩
  case round =>
    obtain ⟨k, hk, rfl, H⟩ := hrel
    by_cases hlt : k < l.length
    · obtain ⟨a, rfl, hc⟩ := Texts.bat_at hA hlt
      have hz : (bat l[k]).size = l[k].length := bat_size _
      by_cases hb : l[k].length ≤ 1000
      · have e1 : Hid ((l.take (k + 1)).all (fun a => decide (a.length ≤ 1000)) = true) := Lib.hid (by
          rw [List.take_succ_eq_append_getElem hlt, List.all_append, Hid.out H]
          simpa using hb)
        generalize hp : bat l[k] = p at hc hz
        generalize l[k].length = z at hz hb
        have i1 : ¬ (1000 : Int) < (p.size : Int) := by omega
        clear hA hp
        go_wp2
        go_round
        case rel => exact ⟨k + 1, by omega, by go_num, e1.out⟩
        case measure => simp [intOf]; omega
      · have e1 : Hid (mayB l = false) := Lib.hid (by
          cases hm : mayB l with
          | false => rfl
          | true => exact absurd ((mayB_iff.1 hm).2.2 _ (List.getElem_mem hlt)) hb)
        generalize hp : bat l[k] = p at hc hz
        generalize l[k].length = z at hz hb
        have i1 : (1000 : Int) < (p.size : Int) := by omega
        clear hA hp
        go_wp2
        go_ret
        rw [e1.out]
        exact ⟨rfl, rfl⟩
    · have HA : Hid (mayB l = (decide (1 ≤ l.length) && decide (l.length ≤ 50))) := Lib.hid (by
        unfold mayB
        rw [← List.take_of_length_le (l := l) (i := k) (by omega), Hid.out H, List.take_of_length_le (l := l) (i := k) (by omega)]
        rfl)
      by_cases h1 : 1 ≤ l.length
      · by_cases h2 : l.length ≤ 50
        · have i1 : (1 : Int) ≤ (l.length : Int) := by omega
          have i2 : (l.length : Int) ≤ 50 := by omega
          have E : Hid (mayB l = true) := Lib.hid (by rw [HA.out]; simp [h1, h2])
          go_wp2
          go_ret
          rw [E.out]
          exact ⟨rfl, rfl⟩
        · have i1 : (1 : Int) ≤ (l.length : Int) := by omega
          have i2 : ¬ (l.length : Int) ≤ 50 := by omega
          have E : Hid (mayB l = false) := Lib.hid (by rw [HA.out]; simp [h2])
          go_wp2
          go_ret
          rw [E.out]
          exact ⟨rfl, rfl⟩
      · have i1 : ¬ (1 : Int) ≤ (l.length : Int) := by omega
        have E : Hid (mayB l = false) := Lib.hid (by rw [HA.out]; simp [h1])
        go_wp2
        go_ret
        rw [E.out]
        exact ⟨rfl, rfl⟩
end Go.Proofs.Ytgjedhdnnfdcgaa.Rp
