/-
  The walk of LedgerFull.
-/
import Derived.Test.YtplinlgafgfepaaLedQ
namespace Go.Proofs.Ytplinlgafgfepaa.Ld
open Go.RowKit

def fullL (k : Nat) : LL (List Lim) := (List.range k).map fun j => (j + 1, j, [])
theorem fullL_length (k : Nat) : (fullL k).length = k := by simp [fullL]
theorem fullL_succ (k : Nat) : fullL (k + 1) = fullL k ++ [(k + 1, k, [])] := by simp [fullL, List.range_succ]
theorem fullL_add {k : Nat} (h : k < 1000) : add (fullL k) k (k : Nat) [] = fullL (k + 1) := by
  unfold add
  rw [fullL_length, if_neg (by omega), fullL_succ]
  have : clip (k : Nat) = k := by have := clip_mid (n := (k : Nat)) (by omega) (by omega); omega
  rw [this]
theorem fullL_mem {k m : Nat} (h : m < k) : (m + 1, m, []) ∈ fullL k := List.mem_map.2 ⟨m, List.mem_range.2 h, rfl⟩

set_option maxHeartbeats 4000000 in
set_option maxRecDepth 100000 in
theorem full_law (C : LC) (n : Nat) (hn : n < 65536) (w : World) :
    Calls Try.prog 6 #[.int .u16 n] w fun e w' => e = .returned (.bool true) ∧ Below w.heap.size w w' := by
  go_enter Try.func6, Try.ntmps6
  go_wp2_with fail
  refine (C.new_ _).mono ?_
  rintro e w1 ⟨v, o1, rfl, a1, b1, l1⟩
  have H1 : Hid (∃ own, One C w w1 own v 0 (fullL 0)) := Lib.hid ⟨o1, b1, a1, l1⟩
  clear a1 b1 l1
  go_wp2_with fail
  go_loopw [4] (fun i wr => ∃ k : Nat, k ≤ 1000 ∧ i = .int .i64 (k : Nat) ∧ Hid (∃ own, One C w wr own v k (fullL k))) (fun i _ => 1000 - (intOf i).toNat)
  case atStart => exact ⟨0, by omega, rfl, H1.out⟩
  case round =>
    obtain ⟨k, hk, rfl, H⟩ := hrel
    obtain ⟨own, h⟩ := Hid.out H
    have H2 := Lib.hid h
    clear H h
    by_cases hlt : k < 1000
    · have t0 : (k : Int) < 1000 := by omega
      have hw1 : IntKind.i64.wrap ((k : Int) + 1) = (k : Int) + 1 := by rw [IntKind.wrap_i64]; omega
      go_wp2_with fail
      refine (C.add_ H2.out.2.1 (k : Nat) none 0 [] (by omega) (by omega) (Lims.nil _ _ _) (fun _ => rfl) (by simp)).mono ?_
      rw [show addI (fullL k) k = (k : Int) + 1 by unfold addI; rw [fullL_length, if_neg (by omega)]; omega, show addE (fullL k) = 0 by unfold addE; rw [fullL_length, if_neg (by omega)], show addN (fullL k) k = k + 1 by unfold addN; rw [fullL_length, if_neg (by omega)], fullL_add hlt]
      rintro e w2 ⟨o2, rfl, a2, k2⟩
      have H3 := Lib.hid (H2.out.turn a2 k2)
      clear a2 k2 H2
      go_wp2_with fail
      go_roundw
      case rel => exact ⟨k + 1, by omega, by go_num, _, H3.out⟩
      case measure => simp [intOf]; omega
    · obtain rfl : k = 1000 := by omega
      obtain ⟨m, hm⟩ : ∃ m, n % 1000 = m := ⟨_, rfl⟩
      have hml : m < 1000 := by omega
      have hg := H2.out.good
      have hgo : getO (fullL 1000) (1 + (m : Int)) = some (m + 1, m, []) := by
        have := getO_some hg (fullL_mem hml)
        rw [show (1 + (m : Int)) = ((m + 1 : Nat) : Int) by omega]
        exact this
      have hrl : (rem (fullL 1000) (1 + (m : Int))).length = 999 := by
        have := Pr.rem_length hg.rise (fullL_mem hml)
        rw [fullL_length] at this
        rw [show (1 + (m : Int)) = (((m + 1, m, []) : Du (List Lim)).1 : Int) by show _ = ((m + 1 : Nat) : Int); omega]
        omega
      have HGO := Lib.hid hgo
      have HRL := Lib.hid hrl
      have hmod : (n : Int) % 1000 = (m : Int) := by omega
      clear hg hgo hrl hm
      go_wp2_with fail
      refine (C.add_ H2.out.2.1 5 none 0 [] (by omega) (by omega) (Lims.nil _ _ _) (fun _ => rfl) (by simp)).mono ?_
      rw [show addI (fullL 1000) 1000 = 0 by unfold addI; rw [fullL_length, if_pos (by omega)], show addE (fullL 1000) = 5 by unfold addE; rw [fullL_length, if_pos (by omega)], show addN (fullL 1000) 1000 = 1000 by unfold addN; rw [fullL_length, if_pos (by omega)], show add (fullL 1000) 1000 5 [] = fullL 1000 by unfold add; rw [fullL_length, if_pos (by omega)]]
      rintro e w2 ⟨o2, rfl, a2, k2⟩
      have H3 := Lib.hid (H2.out.turn a2 k2)
      clear a2 k2 H2
      have hw1 : IntKind.i64.wrap (1 + (m : Int)) = 1 + (m : Int) := by rw [IntKind.wrap_i64]; omega
      go_wp2_with fail
      refine (C.rem_ H3.out.2.1 (1 + (m : Int)) (by omega)).mono ?_
      rw [HGO.out, show od (some (m + 1, m, [])) = (m + 1, m, []) from rfl]
      simp only [Option.isSome_some]
      rintro e w3 ⟨o3, A3, cap3, rfl, -, a3, k3⟩
      have H4 := Lib.hid (H3.out.turn a3 k3)
      have HN4 := Lib.hid (H4.out.below ((Below.refl _ _).alloc (Nat.le_refl _) (.cells #[.int .i64 ((m + 1 : Nat) : Int), .int .i64 (m : Nat), .slice A3 ([] : List Lim).length cap3] 38)))
      have hfr : Free o3 (w3.alloc (.cells #[.int .i64 ((m + 1 : Nat) : Int), .int .i64 (m : Nat), .slice A3 ([] : List Lim).length cap3] 38)) w3.heap.size := ⟨by simp, fun hc => by have := (C.good H4.out.2.1).2.1 _ hc; omega⟩
      have HFR := Lib.hid hfr
      have BX := Lib.hid (Pr.Box.new w3 38 #[.int .i64 ((m + 1 : Nat) : Int), .int .i64 (m : Nat), .slice A3 ([] : List Lim).length cap3])
      clear a3 k3 H3 H4 hfr
      go_wp2_with fail
      refine (C.add_ HN4.out.2.1 5 none 0 [] (by omega) (by omega) (Lims.nil _ _ _) (fun _ => rfl) (by simp)).mono ?_
      rw [show addI (rem (fullL 1000) (1 + (m : Int))) 1000 = 1001 by unfold addI; rw [HRL.out]; rfl, show addE (rem (fullL 1000) (1 + (m : Int))) = 0 by unfold addE; rw [HRL.out]; rfl]
      rintro e w5 ⟨o5, rfl, a5, k5⟩
      have H5 := Lib.hid (HN4.out.turn a5 k5)
      have c1 : w5.cell? ⟨w3.heap.size, 1, none⟩ = some (.int .i64 (m : Nat)) := by
        have h1 : Pr.Box w5 w3.heap.size 38 #[.int .i64 ((m + 1 : Nat) : Int), .int .i64 (m : Nat), .slice A3 ([] : List Lim).length cap3] := ((HFR.out.kept k5).1).trans BX.out
        exact h1.cell 1
      have HLN := Lib.hid (show (add (rem (fullL 1000) (1 + (m : Int))) 1000 5 []).length = 1000 by unfold add; rw [HRL.out]; simp [HRL.out])
      clear a5 k5 HN4 BX HFR
      go_wp2_with fail
      refine (C.len_ H5.out.2.1).mono ?_
      rw [HLN.out]
      rintro e w6 ⟨rfl, hb6⟩
      have H6 := Lib.hid (H5.out.below hb6)
      clear hb6 H5
      go_wp2_with fail
      refine (known_calls C _).mono ?_
      rintro e w7 ⟨rfl, hb7⟩
      have H7 := Lib.hid (H6.out.below hb7)
      clear hb7 H6
      go_wp2_with fail
      go_ret
      exact ⟨rfl, H7.out.1⟩
end Go.Proofs.Ytplinlgafgfepaa.Ld
