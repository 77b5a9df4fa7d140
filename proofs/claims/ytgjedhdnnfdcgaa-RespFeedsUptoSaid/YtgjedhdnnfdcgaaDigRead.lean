/-
  What digits.read answers, in any world.
-/
import Derived.Test.YtgjedhdnnfdcgaaDigPrint
namespace Go.Proofs.Ytgjedhdnnfdcgaa
open Go.RowKit
namespace Dg

/-- what is read so far -/
def RdInv (l : List UInt8) (a : Int) : Prop := -9223372036854775808 ≤ a ∧ a ≤ 9223372036854775807 ∧ ((∀ c ∈ l, isD c = true) → a = wrap64 (val l))

theorem rd_nil : RdInv [] 0 := ⟨by omega, by omega, fun _ => by unfold wrap64; simp [val]⟩
theorem rd_step {l : List UInt8} {a : Int} (c : UInt8) (h : RdInv l a) : RdInv (l ++ [c]) (wrap64 (wrap64 (a * 10) + ((c.toNat : Int) - 48) % 256)) := by
  refine ⟨(wrap64_bd _).1, (wrap64_bd _).2, fun hl => ?_⟩
  have ha := h.2.2 fun x hx => hl x (by simp [hx])
  have hc := hl c (by simp)
  unfold isD at hc
  simp at hc
  rw [val_snoc, ha]
  generalize val l = v
  unfold wrap64
  omega
theorem rd_neg {l : List UInt8} {a n : Int} (h : RdInv l a) (h1 : -9223372036854775808 ≤ n) (h2 : n ≤ 9223372036854775807) (ht : txt n = 45 :: l) : wrap64 (-a) = n := by
  have e : body (txt n) = l := by rw [ht]; rfl
  have g : neg (txt n) = true := by rw [ht]; rfl
  rw [body_txt] at e
  rw [neg_txt] at g
  simp at g
  have ha := h.2.2 (by rw [← e]; exact dec_all _)
  rw [← e, val_dec] at ha
  subst ha
  unfold wrap64; omega
theorem rd_pos {l : List UInt8} {a n : Int} (h : RdInv l a) (h1 : -9223372036854775808 ≤ n) (h2 : n ≤ 9223372036854775807) (ht : txt n = l) (hl : neg l = false) : a = n := by
  rw [← ht, neg_txt] at hl
  simp at hl
  have e : l = dec n.natAbs := by rw [← ht]; unfold txt; rw [if_neg (by omega)]
  have ha := h.2.2 (by rw [e]; exact dec_all _)
  rw [e, val_dec] at ha
  subst ha
  unfold wrap64; omega

def Reads (s : List UInt8) (w : World) (e : Ending) (w' : World) : Prop :=
  ∃ r : Int, e = .returned (.int .i64 r) ∧ -9223372036854775808 ≤ r ∧ r ≤ 9223372036854775807 ∧ (∀ n : Int, -9223372036854775808 ≤ n → n ≤ 9223372036854775807 → txt n = s → r = n) ∧ w = w'

theorem take_one (s : ByteArray) (k : Nat) (h : k < s.size) : s.data.toList.take (k + 1) = s.data.toList.take k ++ [s[k]] := by
  rw [List.take_succ_eq_append_getElem (by simpa using h)]; rfl
theorem take_tail (s : ByteArray) (k : Nat) (h : k < (s.extract 1 s.size).size) : (s.data.toList.drop 1).take (k + 1) = (s.data.toList.drop 1).take k ++ [(s.extract 1 s.size)[k]] := by
  have hk : k + 1 < s.size := by simp at h; omega
  rw [List.take_succ_eq_append_getElem (by simp; have : s.data.size = s.size := rfl; omega)]
  congr 2
  simp only [List.getElem_drop, Array.getElem_toList]
  simp only [ByteArray.getElem_eq_getElem_data, ByteArray.data_extract, Array.getElem_extract]
theorem head_cons (s : ByteArray) (h : 0 < s.size) : s.data.toList = s[0] :: s.data.toList.drop 1 := by
  have h' : 0 < s.data.toList.length := by simpa using h
  rw [List.drop_one]
  cases e : s.data.toList with
  | nil => rw [e] at h'; simp at h'
  | cons c l =>
    have : s[0] = c := by
      have : s[0] = s.data.toList[0] := rfl
      rw [this]; simp [e]
    rw [this]; rfl

set_option maxHeartbeats 400000 in
theorem read_neg (s : ByteArray) (w : World) (hs : s.size ≤ 20) (h0 : 0 < s.size) (h45 : ((s[0].toNat : Int) == 45) = true) :
    Calls Try.prog 53 #[.string s] w (Reads s.data.toList w) := by
  go_enter Try.func53, Try.ntmps53
  go_wp2
  go_loop [4, 19] (fun nv i => ∃ (k : Nat) (a : Int), k ≤ s.size - 1 ∧ i = .int .i64 k ∧ nv = .int .i64 a ∧ RdInv ((s.data.toList.drop 1).take k) a) (fun _ i => s.size - (intOf i).toNat)
  case atStart => exact ⟨0, 0, by omega, rfl, rfl, rd_nil⟩
  case round =>
    obtain ⟨k, a, hk, rfl, rfl, hinv⟩ := hrel
    have hi1 := hinv.1
    have hi2 := hinv.2.1
    by_cases hlt : k < s.size - 1
    · go_wp2
      go_round
      case rel => exact ⟨k + 1, _, by omega, by go_num, rfl, by rw [take_tail s k (by simp; omega)]; exact rd_step _ hinv⟩
      case measure => simp [intOf]; omega
    · go_wp2
      go_ret
      have e : s.data.toList = 45 :: s.data.toList.drop 1 := by
        have a1 := head_cons s h0
        have a2 : s[0] = 45 := by
          have : s[0].toNat = 45 := by have := beq_iff_eq.1 h45; omega
          exact UInt8.toNat_inj.1 this
        rwa [a2] at a1
      rw [List.take_of_length_le (by simp; have : s.data.size = s.size := rfl; omega)] at hinv
      exact ⟨_, rfl, (wrap64_bd _).1, (wrap64_bd _).2, fun n h1 h2 ht => rd_neg hinv h1 h2 (ht.trans e), rfl⟩

set_option maxHeartbeats 400000 in
theorem read_pos (s : ByteArray) (w : World) (hs : s.size ≤ 20) (h0 : 0 < s.size) (h45 : ((s[0].toNat : Int) == 45) = false) :
    Calls Try.prog 53 #[.string s] w (Reads s.data.toList w) := by
  go_enter Try.func53, Try.ntmps53
  go_wp2
  go_loop [4, 19] (fun nv i => ∃ (k : Nat) (a : Int), k ≤ s.size ∧ i = .int .i64 k ∧ nv = .int .i64 a ∧ RdInv (s.data.toList.take k) a) (fun _ i => s.size - (intOf i).toNat)
  case atStart => exact ⟨0, 0, by omega, rfl, rfl, rd_nil⟩
  case round =>
    obtain ⟨k, a, hk, rfl, rfl, hinv⟩ := hrel
    have hi1 := hinv.1
    have hi2 := hinv.2.1
    by_cases hlt : k < s.size
    · go_wp2
      go_round
      case rel => exact ⟨k + 1, _, by omega, by go_num, rfl, by rw [take_one s k hlt]; exact rd_step _ hinv⟩
      case measure => simp [intOf]; omega
    · go_wp2
      go_ret
      have e : neg s.data.toList = false := by
        rw [head_cons s h0]
        show (s[0] == 45) = false
        have : ¬ s[0].toNat = 45 := by have := beq_eq_false_iff_ne.1 h45; omega
        rw [beq_eq_false_iff_ne]; intro hh; rw [hh] at this; exact this rfl
      rw [List.take_of_length_le (by simp; have : s.data.size = s.size := rfl; omega)] at hinv
      exact ⟨_, rfl, hi1, hi2, fun n h1 h2 ht => rd_pos hinv h1 h2 ht e, rfl⟩

theorem txt_ne (n : Int) : txt n ≠ [] := by
  unfold txt
  split
  · simp
  · exact dec_ne _

set_option maxHeartbeats 400000 in
theorem read_none (s : ByteArray) (w : World) (h0 : s.size = 0) :
    Calls Try.prog 53 #[.string s] w (Reads s.data.toList w) := by
  have e : s.data.toList = [] := List.length_eq_zero_iff.1 h0
  have H := Lib.hid e
  clear e
  go_enter Try.func53, Try.ntmps53
  go_wp2
  go_loop [4, 19] (fun nv i => i = .int .i64 0 ∧ nv = .int .i64 0) (fun _ _ => 0)
  case atStart => exact ⟨rfl, rfl⟩
  case round =>
    obtain ⟨rfl, rfl⟩ := hrel
    go_wp2
    go_ret
    exact ⟨0, rfl, by omega, by omega, fun n _ _ ht => absurd (ht.trans H.out) (txt_ne n), rfl⟩

theorem read_calls (s : ByteArray) (w : World) (hs : s.size ≤ 20) :
    Calls Try.prog 53 #[.string s] w (Reads s.data.toList w) := by
  by_cases h0 : s.size = 0
  · exact read_none s w h0
  · have h0 : 0 < s.size := by omega
    cases h : ((s[0].toNat : Int) == 45) with
    | true => exact read_neg s w hs h0 h
    | false => exact read_pos s w hs h0 h

end Dg
end Go.Proofs.Ytgjedhdnnfdcgaa
