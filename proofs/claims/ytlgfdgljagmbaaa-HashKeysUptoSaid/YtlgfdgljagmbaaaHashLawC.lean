/-
  The walk of the law HashKeys.
-/
import Derived.Test.YtlgfdgljagmbaaaHashRefParts
import Derived.OpenShut
namespace Go.Proofs.Ytlgfdgljagmbaaa
open Go.RowKit
namespace Hs

theorem keyB_ge (c : UInt8) : 1 ≤ (keyB c).length := by unfold keyB; split <;> simp
theorem esc_ge (p : List UInt8) : p.length ≤ (esc p).length := by
  induction p with
  | nil => simp
  | cons c p ih =>
    have e : esc (c :: p) = keyB c ++ esc p := by simp [esc]
    have := keyB_ge c
    rw [e, List.length_append, List.length_cons]; omega
theorem long_key (ps : List (List UInt8)) : long ps ≤ (key ps).length := by
  induction ps with
  | nil => simp [long]
  | cons p ps ih =>
    have := esc_ge p
    have e : long (p :: ps) = 1 + p.length + long ps := by simp only [long, List.map_cons, List.sum_cons]
    rw [key_cons, e, List.length_append, List.length_cons]; omega
theorem len_long (ps : List (List UInt8)) : ps.length ≤ long ps := by
  have := long_ge (ps.map bat)
  rw [bys_bat, List.length_map] at this
  exact this
theorem parts_len {s : ByteArray} {qs : List (List UInt8)} (h : parts s.data.toList = some qs) : qs.length ≤ s.size := by
  have e := key_parts h
  have a := long_key qs
  have b := len_long qs
  rw [e] at a
  have : s.data.toList.length = s.size := by rw [Array.length_toList]; rfl
  omega

theorem same_true (A C : Option Addr) (n cap cap2 : Nat) (ps qs : List ByteArray) (w : World) (hA : Texts w A ps) (hC : Texts w C qs) (h1 : ps.length = n) (h2 : qs.length = n) (hn : n ≤ maxLen) (he : bys ps = bys qs) :
    Calls Try.prog 18 #[.slice A n cap, .slice C n cap2] w fun e w' => e = .returned (.bool true) ∧ Below w.heap.size w w' := by
  have h := same_calls A C cap cap2 ps qs w hA hC (by omega)
  rw [h1, h2, show sameB ps qs = true by unfold sameB; rw [he]; simp] at h
  exact h

set_option maxHeartbeats 1000000 in
theorem keys_law (A : Option Addr) (cap : Nat) (ps : List ByteArray) (s : ByteArray) (w : World) (hA : Texts w A ps) (hs : ∀ p ∈ ps, p.size ≤ maxLen) (hl : long (bys ps) ≤ 1048576) (hz : s.size ≤ 1048576) :
    Calls Try.prog 4 #[.slice A ps.length cap, .string s] w fun e w' => e = .returned (.bool true) ∧ Below w.heap.size w w' := by
  have HA := Lib.hid hA
  have HS := Lib.hid hs
  clear hA hs
  by_cases h5 : 500 < long (bys ps)
  · go_enter Try.func4, Try.ntmps4
    go_wp2_with fail
    refine (long_calls A cap ps _ HA.out (by omega)).mono ?_
    rintro e w1 ⟨rfl, rfl⟩
    go_wp2_with fail
    refine (known_calls _).mono ?_
    rintro e w5 ⟨rfl, hb5⟩
    go_wp2
    go_ret
    exact ⟨rfl, hb5⟩
  · have f5 : decide ((500 : Int) < (long (bys ps) : Int)) = false := by simp; omega
    by_cases h3 : 300 < s.size
    · go_enter Try.func4, Try.ntmps4
      go_wp2_with fail
      refine (long_calls A cap ps _ HA.out (by omega)).mono ?_
      rintro e w1 ⟨rfl, rfl⟩
      go_wp2_with fail
      refine (known_calls _).mono ?_
      rintro e w5 ⟨rfl, hb5⟩
      go_wp2
      go_ret
      exact ⟨rfl, hb5⟩
    · have f3 : decide ((300 : Int) < (s.size : Int)) = false := by simp; omega
      have hc1 := Lib.hid (parts_calls s)
      have hc2 := Lib.hid (refparts_calls s)
      have E := Lib.hid (show (key (bys ps) == key (bys ps)) = true by simp)
      cases hp : parts s.data.toList with
      | none =>
        rw [hp] at hc1 hc2
        clear hp
        go_enter Try.func4, Try.ntmps4
        go_wp2_with fail
        refine (long_calls A cap ps _ HA.out (by omega)).mono ?_
        rintro e w1 ⟨rfl, rfl⟩
        go_wp2_with fail
        refine (hc1.out _ (by omega)).mono ?_
        rintro e w1 ⟨hb1, rfl⟩
        go_wp2_with fail
        refine (hc2.out _ (by omega)).mono ?_
        rintro e w2 ⟨hb2, rfl⟩
        have hb2 := below_then hb1 hb2
        go_wp2_with fail
        refine (key_calls A cap ps _ (HA.out.keep hb2) HS.out (by omega)).mono ?_
        rintro e w3 ⟨rfl, hb3⟩
        have hb3 := below_then hb2 hb3
        go_wp2_with fail
        refine (refkey_calls A cap ps _ (HA.out.keep hb3) HS.out (by omega)).mono ?_
        rintro e w4 ⟨rfl, hb4⟩
        have hb4 := below_then hb3 hb4
        go_wp2_with fail
        refine (same_true none none 0 0 0 [] [] _ (Texts.nil _ _) (Texts.nil _ _) rfl rfl (Nat.zero_le _) rfl).mono ?_
        rintro e w5 ⟨rfl, hb5⟩
        have hb5 := below_then hb4 hb5
        go_wp2_with fail
        refine (known_calls _).mono ?_
        rintro e w6 ⟨rfl, hb6⟩
        have hb6 := below_then hb5 hb6
        go_wp2
        go_ret
        exact ⟨rfl, hb6⟩
      | some qs =>
        have hql := parts_len hp
        rw [hp] at hc1 hc2
        clear hp
        go_enter Try.func4, Try.ntmps4
        go_wp2_with fail
        refine (long_calls A cap ps _ HA.out (by omega)).mono ?_
        rintro e w1 ⟨rfl, rfl⟩
        go_wp2_with fail
        refine (hc1.out _ (by omega)).mono ?_
        rintro e w1 ⟨hb1, A1, cap1, rfl, hT1⟩
        go_wp2_with fail
        refine (hc2.out _ (by omega)).mono ?_
        rintro e w2 ⟨hb2, A2, cap2, rfl, hT2⟩
        have hT1 := hT1.keep hb2
        have hb2 := below_then hb1 hb2
        go_wp2_with fail
        refine (key_calls A cap ps _ (HA.out.keep hb2) HS.out (by omega)).mono ?_
        rintro e w3 ⟨rfl, hb3⟩
        have hT1 := hT1.keep hb3
        have hT2 := hT2.keep hb3
        have hb3 := below_then hb2 hb3
        go_wp2_with fail
        refine (refkey_calls A cap ps _ (HA.out.keep hb3) HS.out (by omega)).mono ?_
        rintro e w4 ⟨rfl, hb4⟩
        have hT1 := hT1.keep hb4
        have hT2 := hT2.keep hb4
        have hb4 := below_then hb3 hb4
        go_wp2_with fail
        refine (same_true A1 A2 qs.length cap1 cap2 _ _ _ hT1 hT2 (by simp) (by simp) (by unfold maxLen; omega) rfl).mono ?_
        rintro e w5 ⟨rfl, hb5⟩
        have hb5 := below_then hb4 hb5
        go_wp2_with fail
        refine (known_calls _).mono ?_
        rintro e w6 ⟨rfl, hb6⟩
        have hb6 := below_then hb5 hb6
        go_wp2
        go_ret
        exact ⟨rfl, hb6⟩

end Hs
end Go.Proofs.Ytlgfdgljagmbaaa
