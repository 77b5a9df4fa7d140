/-
  The walks of the laws HashSums and HashOne.
-/
import Derived.Test.YtlgfdgljagmbaaaHashKnown
import Derived.OpenShut
namespace Go.Proofs.Ytlgfdgljagmbaaa
open Go.RowKit
namespace Hs

set_option maxHeartbeats 400000 in
theorem sums_law (s : ByteArray) (n : Int) (hs : s.size ≤ maxLen) (_hn : (Lit.int .i64 n).wf = true) (w : World) :
    Calls Try.prog 3 #[.string s, .int .i64 n] w fun e w' => e = .returned (.bool true) ∧ Below w.heap.size w w' := by
  have hm : s.size ≤ 9223372036854775807 := hs
  by_cases hl : 1000 < s.size
  · go_enter Try.func3, Try.ntmps3
    go_wp2_with fail
    refine (known_calls _).mono ?_
    rintro e w5 ⟨rfl, hb5⟩
    go_wp2
    go_ret
    exact ⟨rfl, hb5⟩
  · go_enter Try.func3, Try.ntmps3
    go_wp2_with fail
    refine (sum_calls s _ hs).mono ?_
    rintro e w1 ⟨rfl, rfl⟩
    go_wp2_with fail
    refine (refsum_calls s _ hs).mono ?_
    rintro e w1 ⟨rfl, rfl⟩
    go_wp2_with fail
    refine (shard_calls s n _ hs).mono ?_
    rintro e w1 ⟨rfl, rfl⟩
    go_wp2_with fail
    refine (refshard_calls s n _ hs).mono ?_
    rintro e w1 ⟨rfl, rfl⟩
    go_wp2_with fail
    refine (known_calls _).mono ?_
    rintro e w5 ⟨rfl, hb5⟩
    go_wp2
    go_ret
    exact ⟨rfl, hb5⟩

theorem shard_at (s : ByteArray) (n : Int) (k m : Nat) (w : World) (hs : s.size ≤ maxLen) (hm : clip n = m) (hk : shardOf s.data.toList m = k) :
    Calls Try.prog 11 #[.string s, .int .i64 n] w fun e w' => e = .returned (.int .i64 (k : Int)) ∧ w = w' := by
  have h := shard_calls s n w hs
  rw [hm, hk] at h
  exact h
theorem shard_0 (s : ByteArray) (n : Int) (w : World) (hs : s.size ≤ maxLen) (hm : clip n = 1) :
    Calls Try.prog 11 #[.string s, .int .i64 n] w fun e w' => e = .returned (.int .i64 0) ∧ w = w' := by
  have h := shard_calls s n w hs
  rw [hm, show shardOf s.data.toList 1 = 0 from Nat.mod_one _] at h
  exact h
theorem sum_at (s : ByteArray) (a : Nat) (w : World) (hs : s.size ≤ maxLen) (ha : sum s.data.toList = a) : Calls Try.prog 9 #[.string s] w fun e w' => e = .returned (.int .u64 (a : Int)) ∧ w = w' := by
  have h := sum_calls s w hs
  rw [ha] at h
  exact h

set_option maxHeartbeats 400000 in
theorem one_law (s : ByteArray) (n : Int) (hs : s.size ≤ maxLen) (hw : (Lit.int .i64 n).wf = true) (w : World) :
    Calls Try.prog 7 #[.string s, .int .i64 n] w fun e w' => e = .returned (.bool true) ∧ Below w.heap.size w w' := by
  obtain ⟨q1, q2⟩ := bounds_i64 hw
  clear hw
  have hm : s.size ≤ 9223372036854775807 := hs
  by_cases hl : 300 < s.size
  · go_enter Try.func7, Try.ntmps7
    go_wp2_with fail
    refine (known_calls _).mono ?_
    rintro e w5 ⟨rfl, hb5⟩
    go_wp2
    go_ret
    exact ⟨rfl, hb5⟩
  · obtain ⟨z, hz⟩ : ∃ z, shardOf s.data.toList 64 = z := ⟨_, rfl⟩
    have HZ := Lib.hid hz
    clear hz
    have E64 := Lib.hid (show clip 64 = 64 by decide)
    have E1000 := Lib.hid (show clip 1000 = 64 by decide)
    by_cases h1 : n < 1
    · have EN := Lib.hid (clip_lo h1)
      go_enter Try.func7, Try.ntmps7
      go_wp2_with fail
      refine (shard_0 s n _ hs EN.out).mono ?_
      rintro e w1 ⟨rfl, rfl⟩
      go_wp2_with fail
      refine (shard_0 s 1 _ hs (by decide)).mono ?_
      rintro e w1 ⟨rfl, rfl⟩
      go_wp2_with fail
      refine (shard_0 s (-5) _ hs (by decide)).mono ?_
      rintro e w1 ⟨rfl, rfl⟩
      go_wp2_with fail
      refine (shard_at s 64 z 64 _ hs E64.out HZ.out).mono ?_
      rintro e w1 ⟨rfl, rfl⟩
      go_wp2_with fail
      refine (shard_at s 1000 z 64 _ hs E1000.out HZ.out).mono ?_
      rintro e w1 ⟨rfl, rfl⟩
      go_wp2_with fail
      refine (known_calls _).mono ?_
      rintro e w5 ⟨rfl, hb5⟩
      go_wp2
      go_ret
      exact ⟨rfl, hb5⟩
    · obtain ⟨a, ha⟩ : ∃ a, sum s.data.toList = a := ⟨_, rfl⟩
      have hal := sum_lt s.data.toList
      rw [ha] at hal
      unfold M64 at hal
      have HA := Lib.hid ha
      clear ha
      by_cases h2 : 64 < n
      · have EN := Lib.hid (clip_hi h2)
        have hz64 : z < 64 := by rw [← HZ.out]; exact shardOf_lt _ (by omega)
        have EZ : ((z : Int) == (a : Int) % 64) = true := by
          have : z = a % 64 := by rw [← HZ.out]; unfold shardOf; rw [HA.out]
          rw [beq_iff_eq]; omega
        have f1 : min n 64 = 64 := by omega
        have f2 : max (1 : Int) 64 = 64 := by omega
        have f3 : decide ((z : Int) < 0) = false := by simp
        have f4 : decide ((64 : Int) ≤ (z : Int)) = false := by simp; omega
        go_enter Try.func7, Try.ntmps7
        go_wp2_with fail
        refine (shard_at s n z 64 _ hs EN.out HZ.out).mono ?_
        rintro e w1 ⟨rfl, rfl⟩
        go_wp2_with fail
        refine (shard_0 s 1 _ hs (by decide)).mono ?_
        rintro e w1 ⟨rfl, rfl⟩
        go_wp2_with fail
        refine (shard_0 s (-5) _ hs (by decide)).mono ?_
        rintro e w1 ⟨rfl, rfl⟩
        go_wp2_with fail
        refine (shard_at s 64 z 64 _ hs E64.out HZ.out).mono ?_
        rintro e w1 ⟨rfl, rfl⟩
        go_wp2_with fail
        refine (shard_at s 1000 z 64 _ hs E1000.out HZ.out).mono ?_
        rintro e w1 ⟨rfl, rfl⟩
        go_wp2_with fail
        refine (sum_at s a _ hs HA.out).mono ?_
        rintro e w1 ⟨rfl, rfl⟩
        go_wp2_with fail
        refine (known_calls _).mono ?_
        rintro e w5 ⟨rfl, hb5⟩
        go_wp2
        go_ret
        exact ⟨rfl, hb5⟩
      · obtain ⟨m, rfl⟩ : ∃ m : Nat, n = (m : Int) := ⟨n.toNat, by omega⟩
        have hm1 : 1 ≤ m := by omega
        have hm2 : m ≤ 64 := by omega
        have EN := Lib.hid (show clip (m : Int) = m from by have := clip_mid (n := (m : Int)) (by omega) (by omega); omega)
        obtain ⟨k, hk⟩ : ∃ k, shardOf s.data.toList m = k := ⟨_, rfl⟩
        have hkm : k < m := by rw [← hk]; exact shardOf_lt _ hm1
        have EK : ((k : Int) == (a : Int) % (m : Int)) = true := by
          have : k = a % m := by rw [← hk]; unfold shardOf; rw [HA.out]
          rw [beq_iff_eq]; omega
        have HK := Lib.hid hk
        clear hk h1 h2
        have f0 : ((k : Int) == wrap64 ((a : Int) % (m : Int))) = true := by
          have e := beq_iff_eq.1 EK
          rw [← e]; unfold wrap64; rw [beq_iff_eq]; omega
        have f1 : min (m : Int) 64 = (m : Int) := by omega
        have f2 : max (1 : Int) (m : Int) = (m : Int) := by omega
        have f3 : decide ((k : Int) < 0) = false := by simp
        have f4 : decide (m ≤ k) = false := by simp; omega
        have f5 : decide ((m : Int) < 1) = false := by simp; omega
        have f6 : decide (1 ≤ (m : Int)) = true := by simp; omega
        go_enter Try.func7, Try.ntmps7
        go_wp2_with fail
        refine (shard_at s m k m _ hs EN.out HK.out).mono ?_
        rintro e w1 ⟨rfl, rfl⟩
        go_wp2_with fail
        refine (shard_0 s 1 _ hs (by decide)).mono ?_
        rintro e w1 ⟨rfl, rfl⟩
        go_wp2_with fail
        refine (shard_0 s (-5) _ hs (by decide)).mono ?_
        rintro e w1 ⟨rfl, rfl⟩
        go_wp2_with fail
        refine (shard_at s 64 z 64 _ hs E64.out HZ.out).mono ?_
        rintro e w1 ⟨rfl, rfl⟩
        go_wp2_with fail
        refine (shard_at s 1000 z 64 _ hs E1000.out HZ.out).mono ?_
        rintro e w1 ⟨rfl, rfl⟩
        go_wp2_with fail
        refine (sum_at s a _ hs HA.out).mono ?_
        rintro e w1 ⟨rfl, rfl⟩
        go_wp2_with fail
        refine (known_calls _).mono ?_
        rintro e w5 ⟨rfl, hb5⟩
        go_wp2
        go_ret
        exact ⟨rfl, hb5⟩

end Hs
end Go.Proofs.Ytlgfdgljagmbaaa
