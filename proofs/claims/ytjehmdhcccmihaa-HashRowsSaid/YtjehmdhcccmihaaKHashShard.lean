/-
  What hash.Shard, its helpers, and the document's own Sum and Shard answer, in any world.
-/
import Derived.Test.YtjehmdhcccmihaaKHashSum
namespace Go.Proofs.Ytjehmdhcccmihaa
open Go.RowKit
namespace Hs

/-- how many shards a number stands for -/
def clip (n : Int) : Nat := if n < 1 then 1 else if 64 < n then 64 else n.toNat
theorem clip_lo {n : Int} (h : n < 1) : clip n = 1 := if_pos h
theorem clip_hi {n : Int} (h : 64 < n) : clip n = 64 := by unfold clip; rw [if_neg (by omega), if_pos h]
theorem clip_mid {n : Int} (h1 : 1 ≤ n) (h2 : n ≤ 64) : (clip n : Int) = n := by unfold clip; rw [if_neg (by omega), if_neg (by omega)]; omega
theorem clip_pos (n : Int) : 1 ≤ clip n := by unfold clip; split; · omega
                                              split <;> omega
theorem clip_le (n : Int) : clip n ≤ 64 := by unfold clip; split; · omega
                                              split <;> omega
/-- to which shard a text belongs -/
def shardOf (l : List UInt8) (k : Nat) : Nat := sum l % k
theorem shardOf_lt (l : List UInt8) {k : Nat} (h : 1 ≤ k) : shardOf l k < k := Nat.mod_lt _ (by omega)

set_option maxHeartbeats 400000 in
theorem refsum_calls (s : ByteArray) (w : World) (hs : s.size ≤ maxLen) :
    Calls Try.prog 28 #[.string s] w fun e w' => e = .returned (.int .u64 (sum s.data.toList : Nat)) ∧ w = w' := by
  unfold maxLen at hs
  go_enter Try.func28, Try.ntmps28
  go_wp2
  go_loop [3, 4] (fun h i => ∃ (k a : Nat), k ≤ s.size ∧ i = .int .i64 k ∧ h = .int .u64 a ∧ a < M64 ∧ Hid (a = sum (s.data.toList.take k))) (fun _ i => s.size - (intOf i).toNat)
  case atStart => exact ⟨0, base, Nat.zero_le _, rfl, sum_start, base_lt, by rw [List.take_zero, sum_nil]; trivial⟩
  case round =>
    obtain ⟨k, a, hk, rfl, rfl, ha, H⟩ := hrel
    by_cases hlt : k < s.size
    · go_wp2
      go_round
      case rel => exact ⟨k + 1, step a s[k], by omega, by go_num, val_int (step_wrap a _ ha), step_lt _ _, sum_step hlt H⟩
      case measure => simp [intOf]; omega
    · go_wp2
      go_ret
      exact ⟨ret_int (by rw [show a = _ from H, take_all s k hlt]), rfl⟩

set_option maxHeartbeats 400000 in
theorem count_calls (n : Int) (w : World) : Calls Try.prog 15 #[.int .i64 n] w fun e w' => e = .returned (.int .i64 (clip n : Nat)) ∧ w = w' := by
  by_cases h1 : n < 1
  · go_enter Try.func15, Try.ntmps15
    go_wp2
    go_ret
    exact ⟨ret_int (by rw [clip_lo h1]; omega), rfl⟩
  · by_cases h2 : 64 < n
    · go_enter Try.func15, Try.ntmps15
      go_wp2
      go_ret
      exact ⟨ret_int (by rw [clip_hi h2]; omega), rfl⟩
    · go_enter Try.func15, Try.ntmps15
      go_wp2
      go_ret
      exact ⟨ret_int (by rw [clip_mid (by omega) (by omega)]), rfl⟩

set_option maxHeartbeats 400000 in
theorem clip_calls (n : Int) (w : World) : Calls Try.prog 18 #[.int .i64 n] w fun e w' => e = .returned (.int .i64 (clip n : Nat)) ∧ w = w' := by
  by_cases h1 : n < 1
  · go_enter Try.func18, Try.ntmps18
    go_wp2
    go_ret
    exact ⟨ret_int (by rw [clip_lo h1]; omega), rfl⟩
  · by_cases h2 : 64 < n
    · go_enter Try.func18, Try.ntmps18
      go_wp2
      go_ret
      exact ⟨ret_int (by rw [clip_hi h2]; omega), rfl⟩
    · go_enter Try.func18, Try.ntmps18
      go_wp2
      go_ret
      exact ⟨ret_int (by rw [clip_mid (by omega) (by omega)]), rfl⟩

set_option maxHeartbeats 400000 in
theorem shard_in (a k : Nat) (w : World) (ha : a < M64) (h1 : 1 ≤ k) (h2 : k ≤ 64) : Calls Try.prog 17 #[.int .u64 a, .int .i64 k] w fun e w' => e = .returned (.int .i64 (a % k : Nat)) ∧ w = w' := by
  unfold M64 at ha
  have hm : a % k < k := Nat.mod_lt _ (by omega)
  have E := Lib.hid (show ((a % k : Nat) : Int) = (a : Int) % (k : Int) from by omega)
  go_enter Try.func17, Try.ntmps17
  go_wp2
  go_ret
  exact ⟨ret_int E.out.symm, rfl⟩

set_option maxHeartbeats 400000 in
theorem shard_calls (s : ByteArray) (n : Int) (w : World) (hs : s.size ≤ maxLen) :
    Calls Try.prog 11 #[.string s, .int .i64 n] w fun e w' => e = .returned (.int .i64 (shardOf s.data.toList (clip n) : Nat)) ∧ w = w' := by
  go_enter Try.func11, Try.ntmps11
  go_wp2_with fail
  refine (sum_calls s _ hs).mono ?_
  rintro e w1 ⟨rfl, rfl⟩
  go_wp2_with fail
  refine (count_calls n _).mono ?_
  rintro e w1 ⟨rfl, rfl⟩
  go_wp2_with fail
  refine (shard_in _ _ _ (sum_lt _) (clip_pos n) (clip_le n)).mono ?_
  rintro e w1 ⟨rfl, rfl⟩
  go_wp2
  go_ret
  exact ⟨ret_int rfl, rfl⟩

set_option maxHeartbeats 400000 in
theorem refshard_calls (s : ByteArray) (n : Int) (w : World) (hs : s.size ≤ maxLen) :
    Calls Try.prog 19 #[.string s, .int .i64 n] w fun e w' => e = .returned (.int .i64 (shardOf s.data.toList (clip n) : Nat)) ∧ w = w' := by
  have h1 := clip_pos n
  have h2 := clip_le n
  have ha := sum_lt s.data.toList
  unfold M64 at ha
  have hm : sum s.data.toList % clip n < clip n := Nat.mod_lt _ (by omega)
  have E := Lib.hid (show ((shardOf s.data.toList (clip n) : Nat) : Int) = (sum s.data.toList : Int) % (clip n : Int) from by unfold shardOf; omega)
  go_enter Try.func19, Try.ntmps19
  go_wp2_with fail
  refine (refsum_calls s _ hs).mono ?_
  rintro e w1 ⟨rfl, rfl⟩
  go_wp2_with fail
  refine (clip_calls n _).mono ?_
  rintro e w1 ⟨rfl, rfl⟩
  go_wp2
  go_ret
  exact ⟨ret_int E.out.symm, rfl⟩

end Hs
end Go.Proofs.Ytjehmdhcccmihaa
