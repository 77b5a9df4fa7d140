/-
  The walk of RespBack.
-/
import Derived.Test.YtgjedhdnnfdcgaaRspBgn
namespace Go.Proofs.Ytgjedhdnnfdcgaa.Rp
open Go.RowKit

def sumA (l : List (List Bytes)) : Nat := (l.map longA).sum
theorem sumA_snoc (l : List (List Bytes)) (x : List Bytes) : sumA (l ++ [x]) = sumA l + longA x := by simp [sumA]
theorem sumA_take_le (l : List (List Bytes)) (k : Nat) : sumA (l.take k) ≤ sumA l := by
  have : sumA l = sumA (l.take k) + sumA (l.drop k) := by
    unfold sumA
    rw [← List.sum_append, ← List.map_append, List.take_append_drop]
  omega
theorem sumA_mem {l : List (List Bytes)} {x : List Bytes} (h : x ∈ l) : longA x ≤ sumA l := by
  induction l with
  | nil => cases h
  | cons y l ih =>
    have e : sumA (y :: l) = longA y + sumA l := by simp [sumA]
    rcases List.mem_cons.1 h with rfl | h
    · omega
    · have := ih h; omega
theorem enc_len (x : List Bytes) (h : longA x ≤ 1048576) : (enc x).length ≤ 10 + 12 * longA x ∧ 1 ≤ (enc x).length := by
  have h0 : ∀ a ∈ x, a.length < 10000000 := fun a ha => by have := longA_mem ha; omega
  have h1 := encAs_len x h0
  have h3 := dec_len8 (n := x.length) (by have := longA_len x; omega)
  unfold enc
  simp [crlf]
  omega
theorem encs_len (l : List (List Bytes)) (h : sumA l ≤ 1048576) : (encs l).length ≤ 10 * l.length + 12 * sumA l := by
  induction l with
  | nil => exact Nat.zero_le _
  | cons x l ih =>
    have e : sumA (x :: l) = longA x + sumA l := by simp [sumA]
    have e2 : encs (x :: l) = enc x ++ encs l := by simp [encs]
    have h1 := ih (by omega)
    have h2 := (enc_len x (by omega)).1
    rw [e2, List.length_append, List.length_cons]
    omega
/-- how long the last command was -/
def lastL (l : List (List Bytes)) (k : Nat) : Nat := match (l.take k).getLast? with
  | none => 0
  | some x => (enc x).length
theorem lastL_zero (l : List (List Bytes)) : lastL l 0 = 0 := rfl
theorem lastL_succ {l : List (List Bytes)} {k : Nat} (h : k < l.length) : lastL l (k + 1) = (enc l[k]).length := by
  unfold lastL
  rw [List.take_succ_eq_append_getElem h, List.getLast?_concat]
theorem not_may {x : List Bytes} (h : mayB x = false) : x.length = 0 ∨ 50 < x.length ∨ 1000 < longA x := by
  by_cases h1 : x.length = 0
  · exact .inl h1
  · by_cases h2 : 50 < x.length
    · exact .inr (.inl h2)
    · refine .inr (.inr ?_)
      have h3 : ¬ ∀ a ∈ x, a.length ≤ 1000 := fun h3 => by
        have := mayB_iff.2 ⟨by omega, by omega, h3⟩
        rw [h] at this; cases this
      have h4 : ∃ a ∈ x, 1000 < a.length := by
        refine Classical.byContradiction fun hn => h3 fun a ha => ?_
        exact Nat.le_of_not_lt fun hc => hn ⟨a, ha, hc⟩
      obtain ⟨a, ha, hb⟩ := h4
      have := longA_mem ha
      omega
/-- all may be, cut short, and with something odd behind -/
theorem back_all {l : List (List Bytes)} (hm : ∀ x ∈ l, May x) (h0 : 0 < l.length) :
    (cmds (encs l) = l ∧ used (encs l) = (encs l).length ∧ errI (encs l) = 0) ∧ 0 < lastL l l.length ∧ lastL l l.length ≤ (encs l).length ∧
    (∀ c, 1 ≤ c → c ≤ lastL l l.length → cmds ((encs l).take ((encs l).length - c)) = l.take (l.length - 1) ∧ used ((encs l).take ((encs l).length - c)) = (encs l).length - lastL l l.length ∧ errI ((encs l).take ((encs l).length - c)) = 0) ∧
    (∀ c, c ≠ 42 → cmds (encs l ++ [c]) = l ∧ used (encs l ++ [c]) = (encs l).length ∧ errI (encs l ++ [c]) = 7) := by
  obtain ⟨l', x, rfl⟩ : ∃ l' x, l = l' ++ [x] := by
    rcases List.eq_nil_or_concat l with rfl | ⟨l', x, e⟩
    · simp at h0
    · exact ⟨l', x, by rw [e, List.concat_eq_append]⟩
  have hlast : lastL (l' ++ [x]) (l' ++ [x]).length = (enc x).length := by
    unfold lastL
    rw [List.take_length, List.getLast?_concat]
  have hpos : 1 ≤ (enc x).length := by simp [enc]
  have e1 := encs_snoc l' x
  obtain ⟨b1, b2, b3⟩ := back hm
  refine ⟨⟨b1, b2, by unfold errI; rw [b3]; rfl⟩, by rw [hlast]; omega, by rw [hlast, e1, List.length_append]; omega, fun c hc1 hc2 => ?_, fun c hc => ?_⟩
  · rw [hlast] at hc2 ⊢
    have e2 : (encs (l' ++ [x])).take ((encs (l' ++ [x])).length - c) = encs l' ++ (enc x).take ((enc x).length - c) := by
      rw [e1, List.length_append, List.take_append, List.take_of_length_le (by omega)]
      congr 2
      omega
    obtain ⟨c1, c2, c3⟩ := back_cut (l := l') (x := x) hm (k := (enc x).length - c) (by omega)
    rw [e2]
    refine ⟨by rw [c1]; simp, by rw [c2, e1, List.length_append]; omega, by unfold errI; rw [c3]; rfl⟩
  · obtain ⟨c1, c2, c3⟩ := back_odd hm hc
    exact ⟨c1, c2, by unfold errI; rw [c3]; rfl⟩
end Go.Proofs.Ytgjedhdnnfdcgaa.Rp
