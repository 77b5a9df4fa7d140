/-
  The walk of the law DigitsBack.
-/
import Derived.Test.YtlgdalgbonlelaaDigLawC
namespace Go.Proofs.Ytlgdalgbonlelaa
open Go.RowKit
set_option linter.unusedVariables false
namespace Dg

theorem num_zero (n : Int) : num? (48 :: txt n) = none := by
  cases h : num? (48 :: txt n) with
  | none => rfl
  | some m =>
    exfalso
    obtain ⟨_, _, h3⟩ := num_some h
    have g : neg (txt m) = false := by rw [h3]; rfl
    have e : dec m.natAbs = 48 :: txt n := by rw [← body_txt, h3]; rfl
    have hn : ¬ n < 0 := by
      intro hn
      have := dec_all m.natAbs 45 (by rw [e]; unfold txt; rw [if_pos hn]; simp)
      revert this; decide
    have e2 : txt n = dec n.natAbs := by unfold txt; rw [if_neg hn]
    have v : val (48 :: dec n.natAbs) = val (dec n.natAbs) := rfl
    rw [e2] at e
    have a : ((m.natAbs : Nat) : Int) = n.natAbs := by rw [← val_dec m.natAbs, e, v, val_dec]
    have a' : m.natAbs = n.natAbs := by omega
    rw [a'] at e
    have := congrArg List.length e
    simp at this

theorem num_behind (n : Int) (c : UInt8) (hc : isD c = false) : num? (txt n ++ [c]) = none :=
  rp_not (txt n) [] c rfl (fun h => absurd h (txt_ne n)) hc

theorem byte_isD (c : Int) (h1 : 0 ≤ c) (h2 : c ≤ 255) (h : c < 48 ∨ 57 < c) : isD (UInt8.ofNat c.toNat) = false := by
  unfold isD
  rw [UInt8.toNat_ofNat', Nat.mod_eq_of_lt (by omega)]
  simp; omega

theorem byte_conv (w : World) (c : Int) (h1 : 0 ≤ c) (h2 : c ≤ 255) :
    (convert 30 9 (.slice (some ⟨w.heap.size, 0, none⟩) 1 1)).run Try.prog (w.alloc (.cells #[Value.int IntKind.u8 c] 5)) = .ok (.string ⟨#[UInt8.ofNat c.toNat]⟩) (w.alloc (.cells #[Value.int IntKind.u8 c] 5)) := by
  refine run_convert_bytes_back _ 30 9 5 ⟨w.heap.size, 0, none⟩ 1 [UInt8.ofNat c.toNat] Try.underlying30 Try.underlying5 Try.underlying9 fun j hj => ?_
  obtain rfl : j = 0 := by simpa using hj
  rw [Addr.add_lit, cell_of_row _ _ _ _ _ _ (heap_alloc_new _ _)]
  have : (((UInt8.ofNat c.toNat).toNat : Nat) : Int) = c := by
    rw [UInt8.toNat_ofNat', Nat.mod_eq_of_lt (by omega)]; omega
  simp only [List.getElem_cons_zero, this]
  rfl

set_option maxHeartbeats 1000000 in
theorem back_in_dig (n c a b : Int) (h1 : -9223372036854775808 ≤ n) (h2 : n ≤ 9223372036854775807) (h3 : 0 ≤ c) (h4 : c ≤ 255) (g1 : a ≤ n) (g2 : n ≤ b) (d1 : 48 ≤ c) (d2 : c ≤ 57) (w : World) :
    Calls Try.prog 5 #[.int .i64 n, .int .u8 c, .int .i64 a, .int .i64 b] w fun e w' => e = .returned (.bool true) ∧ Below w.heap.size w w' := by
  have l1 := (txt_len n h1 h2).1
  have hcat := ByteArray.mk_append_mk
  have U := Lib.hid (upto_in (num_txt h1 h2) g1 g2)
  go_enter Try.func5, Try.ntmps5
  go_wp2_with fail
  refine (print_calls n _ h1 h2).mono ?_
  rintro e w1 ⟨rfl, hb1⟩
  go_wp2_with fail
  refine (parse_some _ _ n (num_txt h1 h2)).mono ?_
  rintro e w2 ⟨rfl, hb2⟩
  go_wp2_with fail
  refine (parse_none _ _ (num_zero n)).mono ?_
  rintro e w3 ⟨rfl, hb3⟩
  go_wp2_with fail
  refine (upto_yes _ a b n _ U.out).mono ?_
  rintro e w4 ⟨rfl, hb4⟩
  go_wp2_with fail
  refine (known_calls _).mono ?_
  rintro e w5 ⟨rfl, hb5⟩
  go_wp2
  go_ret
  exact ⟨rfl, below_then (below_then (below_then (below_then hb1 hb2) hb3) hb4) hb5⟩

set_option maxHeartbeats 1000000 in
theorem back_in_lo (n c a b : Int) (h1 : -9223372036854775808 ≤ n) (h2 : n ≤ 9223372036854775807) (h3 : 0 ≤ c) (h4 : c ≤ 255) (g1 : a ≤ n) (g2 : n ≤ b) (d1 : c < 48) (w : World) :
    Calls Try.prog 5 #[.int .i64 n, .int .u8 c, .int .i64 a, .int .i64 b] w fun e w' => e = .returned (.bool true) ∧ Below w.heap.size w w' := by
  have l1 := (txt_len n h1 h2).1
  have hcat := ByteArray.mk_append_mk
  have U := Lib.hid (upto_in (num_txt h1 h2) g1 g2)
  go_enter Try.func5, Try.ntmps5
  go_wp2_with fail
  refine (print_calls n _ h1 h2).mono ?_
  rintro e w1 ⟨rfl, hb1⟩
  go_wp2_with fail
  refine (parse_some _ _ n (num_txt h1 h2)).mono ?_
  rintro e w2 ⟨rfl, hb2⟩
  go_wp2_with fail
  refine (parse_none _ _ (num_zero n)).mono ?_
  rintro e w3 ⟨rfl, hb3⟩
  go_wp2_with fail
  refine (upto_yes _ a b n _ U.out).mono ?_
  rintro e w4 ⟨rfl, hb4⟩
  go_wp2_with fail
  rw [byte_conv w4 c h3 h4]
  go_wp2_with fail
  refine (parse_none _ _ (num_behind n _ (byte_isD c h3 h4 (Or.inl d1)))).mono ?_
  rintro e w5 ⟨rfl, hb5⟩
  go_wp2_with fail
  refine (known_calls _).mono ?_
  rintro e w6 ⟨rfl, hb6⟩
  go_wp2
  go_ret
  exact ⟨rfl, below_then (below_then (below_then (below_then (below_then hb1 hb2) hb3) hb4) (below_then ((Below.refl _ _).alloc (Nat.le_refl _) _) hb5)) hb6⟩

set_option maxHeartbeats 1000000 in
theorem back_in_hi (n c a b : Int) (h1 : -9223372036854775808 ≤ n) (h2 : n ≤ 9223372036854775807) (h3 : 0 ≤ c) (h4 : c ≤ 255) (g1 : a ≤ n) (g2 : n ≤ b) (d1 : 48 ≤ c) (d2 : 57 < c) (w : World) :
    Calls Try.prog 5 #[.int .i64 n, .int .u8 c, .int .i64 a, .int .i64 b] w fun e w' => e = .returned (.bool true) ∧ Below w.heap.size w w' := by
  have l1 := (txt_len n h1 h2).1
  have hcat := ByteArray.mk_append_mk
  have U := Lib.hid (upto_in (num_txt h1 h2) g1 g2)
  go_enter Try.func5, Try.ntmps5
  go_wp2_with fail
  refine (print_calls n _ h1 h2).mono ?_
  rintro e w1 ⟨rfl, hb1⟩
  go_wp2_with fail
  refine (parse_some _ _ n (num_txt h1 h2)).mono ?_
  rintro e w2 ⟨rfl, hb2⟩
  go_wp2_with fail
  refine (parse_none _ _ (num_zero n)).mono ?_
  rintro e w3 ⟨rfl, hb3⟩
  go_wp2_with fail
  refine (upto_yes _ a b n _ U.out).mono ?_
  rintro e w4 ⟨rfl, hb4⟩
  go_wp2_with fail
  rw [byte_conv w4 c h3 h4]
  go_wp2_with fail
  refine (parse_none _ _ (num_behind n _ (byte_isD c h3 h4 (Or.inr d2)))).mono ?_
  rintro e w5 ⟨rfl, hb5⟩
  go_wp2_with fail
  refine (known_calls _).mono ?_
  rintro e w6 ⟨rfl, hb6⟩
  go_wp2
  go_ret
  exact ⟨rfl, below_then (below_then (below_then (below_then (below_then hb1 hb2) hb3) hb4) (below_then ((Below.refl _ _).alloc (Nat.le_refl _) _) hb5)) hb6⟩

set_option maxHeartbeats 1000000 in
theorem back_low_dig (n c a b : Int) (h1 : -9223372036854775808 ≤ n) (h2 : n ≤ 9223372036854775807) (h3 : 0 ≤ c) (h4 : c ≤ 255) (g1 : n < a) (d1 : 48 ≤ c) (d2 : c ≤ 57) (w : World) :
    Calls Try.prog 5 #[.int .i64 n, .int .u8 c, .int .i64 a, .int .i64 b] w fun e w' => e = .returned (.bool true) ∧ Below w.heap.size w w' := by
  have l1 := (txt_len n h1 h2).1
  have hcat := ByteArray.mk_append_mk
  have U := Lib.hid (upto_out (b := b) (num_txt h1 h2) (Or.inl g1))
  go_enter Try.func5, Try.ntmps5
  go_wp2_with fail
  refine (print_calls n _ h1 h2).mono ?_
  rintro e w1 ⟨rfl, hb1⟩
  go_wp2_with fail
  refine (parse_some _ _ n (num_txt h1 h2)).mono ?_
  rintro e w2 ⟨rfl, hb2⟩
  go_wp2_with fail
  refine (parse_none _ _ (num_zero n)).mono ?_
  rintro e w3 ⟨rfl, hb3⟩
  go_wp2_with fail
  refine (upto_none _ a b _ U.out).mono ?_
  rintro e w4 ⟨rfl, hb4⟩
  go_wp2_with fail
  refine (known_calls _).mono ?_
  rintro e w5 ⟨rfl, hb5⟩
  go_wp2
  go_ret
  exact ⟨rfl, below_then (below_then (below_then (below_then hb1 hb2) hb3) hb4) hb5⟩

set_option maxHeartbeats 1000000 in
theorem back_low_lo (n c a b : Int) (h1 : -9223372036854775808 ≤ n) (h2 : n ≤ 9223372036854775807) (h3 : 0 ≤ c) (h4 : c ≤ 255) (g1 : n < a) (d1 : c < 48) (w : World) :
    Calls Try.prog 5 #[.int .i64 n, .int .u8 c, .int .i64 a, .int .i64 b] w fun e w' => e = .returned (.bool true) ∧ Below w.heap.size w w' := by
  have l1 := (txt_len n h1 h2).1
  have hcat := ByteArray.mk_append_mk
  have U := Lib.hid (upto_out (b := b) (num_txt h1 h2) (Or.inl g1))
  go_enter Try.func5, Try.ntmps5
  go_wp2_with fail
  refine (print_calls n _ h1 h2).mono ?_
  rintro e w1 ⟨rfl, hb1⟩
  go_wp2_with fail
  refine (parse_some _ _ n (num_txt h1 h2)).mono ?_
  rintro e w2 ⟨rfl, hb2⟩
  go_wp2_with fail
  refine (parse_none _ _ (num_zero n)).mono ?_
  rintro e w3 ⟨rfl, hb3⟩
  go_wp2_with fail
  refine (upto_none _ a b _ U.out).mono ?_
  rintro e w4 ⟨rfl, hb4⟩
  go_wp2_with fail
  rw [byte_conv w4 c h3 h4]
  go_wp2_with fail
  refine (parse_none _ _ (num_behind n _ (byte_isD c h3 h4 (Or.inl d1)))).mono ?_
  rintro e w5 ⟨rfl, hb5⟩
  go_wp2_with fail
  refine (known_calls _).mono ?_
  rintro e w6 ⟨rfl, hb6⟩
  go_wp2
  go_ret
  exact ⟨rfl, below_then (below_then (below_then (below_then (below_then hb1 hb2) hb3) hb4) (below_then ((Below.refl _ _).alloc (Nat.le_refl _) _) hb5)) hb6⟩

set_option maxHeartbeats 1000000 in
theorem back_low_hi (n c a b : Int) (h1 : -9223372036854775808 ≤ n) (h2 : n ≤ 9223372036854775807) (h3 : 0 ≤ c) (h4 : c ≤ 255) (g1 : n < a) (d1 : 48 ≤ c) (d2 : 57 < c) (w : World) :
    Calls Try.prog 5 #[.int .i64 n, .int .u8 c, .int .i64 a, .int .i64 b] w fun e w' => e = .returned (.bool true) ∧ Below w.heap.size w w' := by
  have l1 := (txt_len n h1 h2).1
  have hcat := ByteArray.mk_append_mk
  have U := Lib.hid (upto_out (b := b) (num_txt h1 h2) (Or.inl g1))
  go_enter Try.func5, Try.ntmps5
  go_wp2_with fail
  refine (print_calls n _ h1 h2).mono ?_
  rintro e w1 ⟨rfl, hb1⟩
  go_wp2_with fail
  refine (parse_some _ _ n (num_txt h1 h2)).mono ?_
  rintro e w2 ⟨rfl, hb2⟩
  go_wp2_with fail
  refine (parse_none _ _ (num_zero n)).mono ?_
  rintro e w3 ⟨rfl, hb3⟩
  go_wp2_with fail
  refine (upto_none _ a b _ U.out).mono ?_
  rintro e w4 ⟨rfl, hb4⟩
  go_wp2_with fail
  rw [byte_conv w4 c h3 h4]
  go_wp2_with fail
  refine (parse_none _ _ (num_behind n _ (byte_isD c h3 h4 (Or.inr d2)))).mono ?_
  rintro e w5 ⟨rfl, hb5⟩
  go_wp2_with fail
  refine (known_calls _).mono ?_
  rintro e w6 ⟨rfl, hb6⟩
  go_wp2
  go_ret
  exact ⟨rfl, below_then (below_then (below_then (below_then (below_then hb1 hb2) hb3) hb4) (below_then ((Below.refl _ _).alloc (Nat.le_refl _) _) hb5)) hb6⟩

set_option maxHeartbeats 1000000 in
theorem back_high_dig (n c a b : Int) (h1 : -9223372036854775808 ≤ n) (h2 : n ≤ 9223372036854775807) (h3 : 0 ≤ c) (h4 : c ≤ 255) (g1 : a ≤ n) (g2 : b < n) (d1 : 48 ≤ c) (d2 : c ≤ 57) (w : World) :
    Calls Try.prog 5 #[.int .i64 n, .int .u8 c, .int .i64 a, .int .i64 b] w fun e w' => e = .returned (.bool true) ∧ Below w.heap.size w w' := by
  have l1 := (txt_len n h1 h2).1
  have hcat := ByteArray.mk_append_mk
  have U := Lib.hid (upto_out (a := a) (num_txt h1 h2) (Or.inr g2))
  go_enter Try.func5, Try.ntmps5
  go_wp2_with fail
  refine (print_calls n _ h1 h2).mono ?_
  rintro e w1 ⟨rfl, hb1⟩
  go_wp2_with fail
  refine (parse_some _ _ n (num_txt h1 h2)).mono ?_
  rintro e w2 ⟨rfl, hb2⟩
  go_wp2_with fail
  refine (parse_none _ _ (num_zero n)).mono ?_
  rintro e w3 ⟨rfl, hb3⟩
  go_wp2_with fail
  refine (upto_none _ a b _ U.out).mono ?_
  rintro e w4 ⟨rfl, hb4⟩
  go_wp2_with fail
  refine (known_calls _).mono ?_
  rintro e w5 ⟨rfl, hb5⟩
  go_wp2
  go_ret
  exact ⟨rfl, below_then (below_then (below_then (below_then hb1 hb2) hb3) hb4) hb5⟩

set_option maxHeartbeats 1000000 in
theorem back_high_lo (n c a b : Int) (h1 : -9223372036854775808 ≤ n) (h2 : n ≤ 9223372036854775807) (h3 : 0 ≤ c) (h4 : c ≤ 255) (g1 : a ≤ n) (g2 : b < n) (d1 : c < 48) (w : World) :
    Calls Try.prog 5 #[.int .i64 n, .int .u8 c, .int .i64 a, .int .i64 b] w fun e w' => e = .returned (.bool true) ∧ Below w.heap.size w w' := by
  have l1 := (txt_len n h1 h2).1
  have hcat := ByteArray.mk_append_mk
  have U := Lib.hid (upto_out (a := a) (num_txt h1 h2) (Or.inr g2))
  go_enter Try.func5, Try.ntmps5
  go_wp2_with fail
  refine (print_calls n _ h1 h2).mono ?_
  rintro e w1 ⟨rfl, hb1⟩
  go_wp2_with fail
  refine (parse_some _ _ n (num_txt h1 h2)).mono ?_
  rintro e w2 ⟨rfl, hb2⟩
  go_wp2_with fail
  refine (parse_none _ _ (num_zero n)).mono ?_
  rintro e w3 ⟨rfl, hb3⟩
  go_wp2_with fail
  refine (upto_none _ a b _ U.out).mono ?_
  rintro e w4 ⟨rfl, hb4⟩
  go_wp2_with fail
  rw [byte_conv w4 c h3 h4]
  go_wp2_with fail
  refine (parse_none _ _ (num_behind n _ (byte_isD c h3 h4 (Or.inl d1)))).mono ?_
  rintro e w5 ⟨rfl, hb5⟩
  go_wp2_with fail
  refine (known_calls _).mono ?_
  rintro e w6 ⟨rfl, hb6⟩
  go_wp2
  go_ret
  exact ⟨rfl, below_then (below_then (below_then (below_then (below_then hb1 hb2) hb3) hb4) (below_then ((Below.refl _ _).alloc (Nat.le_refl _) _) hb5)) hb6⟩

set_option maxHeartbeats 1000000 in
theorem back_high_hi (n c a b : Int) (h1 : -9223372036854775808 ≤ n) (h2 : n ≤ 9223372036854775807) (h3 : 0 ≤ c) (h4 : c ≤ 255) (g1 : a ≤ n) (g2 : b < n) (d1 : 48 ≤ c) (d2 : 57 < c) (w : World) :
    Calls Try.prog 5 #[.int .i64 n, .int .u8 c, .int .i64 a, .int .i64 b] w fun e w' => e = .returned (.bool true) ∧ Below w.heap.size w w' := by
  have l1 := (txt_len n h1 h2).1
  have hcat := ByteArray.mk_append_mk
  have U := Lib.hid (upto_out (a := a) (num_txt h1 h2) (Or.inr g2))
  go_enter Try.func5, Try.ntmps5
  go_wp2_with fail
  refine (print_calls n _ h1 h2).mono ?_
  rintro e w1 ⟨rfl, hb1⟩
  go_wp2_with fail
  refine (parse_some _ _ n (num_txt h1 h2)).mono ?_
  rintro e w2 ⟨rfl, hb2⟩
  go_wp2_with fail
  refine (parse_none _ _ (num_zero n)).mono ?_
  rintro e w3 ⟨rfl, hb3⟩
  go_wp2_with fail
  refine (upto_none _ a b _ U.out).mono ?_
  rintro e w4 ⟨rfl, hb4⟩
  go_wp2_with fail
  rw [byte_conv w4 c h3 h4]
  go_wp2_with fail
  refine (parse_none _ _ (num_behind n _ (byte_isD c h3 h4 (Or.inr d2)))).mono ?_
  rintro e w5 ⟨rfl, hb5⟩
  go_wp2_with fail
  refine (known_calls _).mono ?_
  rintro e w6 ⟨rfl, hb6⟩
  go_wp2
  go_ret
  exact ⟨rfl, below_then (below_then (below_then (below_then (below_then hb1 hb2) hb3) hb4) (below_then ((Below.refl _ _).alloc (Nat.le_refl _) _) hb5)) hb6⟩

theorem back_law (n c a b : Int) (hn : (Lit.int .i64 n).wf = true) (hc : (Lit.int .u8 c).wf = true) (_ha : (Lit.int .i64 a).wf = true) (_hb : (Lit.int .i64 b).wf = true) (w : World) :
    Calls Try.prog 5 #[.int .i64 n, .int .u8 c, .int .i64 a, .int .i64 b] w fun e w' => e = .returned (.bool true) ∧ Below w.heap.size w w' := by
  obtain ⟨h1, h2⟩ := bd64 hn
  obtain ⟨h3, h4⟩ := bounds_u8 hc
  by_cases g1 : a ≤ n
  · by_cases g2 : n ≤ b
    · by_cases d1 : 48 ≤ c
      · by_cases d2 : c ≤ 57
        · exact back_in_dig n c a b h1 h2 h3 h4 g1 g2 d1 d2 w
        · exact back_in_hi n c a b h1 h2 h3 h4 g1 g2 d1 (by omega) w
      · exact back_in_lo n c a b h1 h2 h3 h4 g1 g2 (by omega) w
    · by_cases d1 : 48 ≤ c
      · by_cases d2 : c ≤ 57
        · exact back_high_dig n c a b h1 h2 h3 h4 g1 (by omega) d1 d2 w
        · exact back_high_hi n c a b h1 h2 h3 h4 g1 (by omega) d1 (by omega) w
      · exact back_high_lo n c a b h1 h2 h3 h4 g1 (by omega) (by omega) w
  · by_cases d1 : 48 ≤ c
    · by_cases d2 : c ≤ 57
      · exact back_low_dig n c a b h1 h2 h3 h4 (by omega) d1 d2 w
      · exact back_low_hi n c a b h1 h2 h3 h4 (by omega) d1 (by omega) w
    · exact back_low_lo n c a b h1 h2 h3 h4 (by omega) (by omega) w

end Dg
end Go.Proofs.Ytlgdalgbonlelaa
