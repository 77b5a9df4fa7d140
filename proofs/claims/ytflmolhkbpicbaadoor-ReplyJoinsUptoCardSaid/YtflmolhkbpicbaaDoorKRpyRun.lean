/-
  Which runes end a line: strings.IndexRune and ContainsRune in the two bytes 0d 0a, at whatever rune.
-/
import Derived.Test.YtflmolhkbpicbaaDoorKRpyShf
import Derived.Test.YtflmolhkbpicbaaDoorKGUtf
import Derived.Laws.Runes
import Derived.WalkKit
import Derived.WalkSpells
import Derived.WalkLawsBesides
import Derived.Deep.LoopGhost
import Derived.BigQuiet
import Derived.Lib.Hide
import Derived.WalkMore
namespace Go.Proofs.YtflmolhkbpicbaaDoor
open Go.RowKit
namespace Ry

set_option maxRecDepth 100000 in
theorem enc2 (r : Int) (h1 : 128 ≤ r) (h2 : r ≤ 2047) : ∃ a b, Utf8.encode r = ⟨#[a, b]⟩ ∧ 128 ≤ b.toNat := by
  have hv : Utf8.valid r = true := by unfold Utf8.valid; simp; omega
  refine ⟨_, _, by unfold Utf8.encode; simp only [hv, if_true]; rw [if_neg (by omega), if_pos (by omega)], ?_⟩
  simp; omega
set_option maxRecDepth 100000 in
theorem enc3 (r : Int) (h1 : 2048 ≤ r) (h2 : r ≤ 65535) (hv : Utf8.valid r = true) : ∃ a b c, Utf8.encode r = ⟨#[a, b, c]⟩ := by
  refine ⟨_, _, _, by unfold Utf8.encode; simp only [hv, if_true]; rw [if_neg (by omega), if_neg (by omega), if_pos (by omega)]⟩
set_option maxRecDepth 100000 in
theorem enc4 (r : Int) (h1 : 65536 ≤ r) (hv : Utf8.valid r = true) : ∃ a b c d, Utf8.encode r = ⟨#[a, b, c, d]⟩ := by
  refine ⟨_, _, _, _, by unfold Utf8.encode; simp only [hv, if_true]; rw [if_neg (by omega), if_neg (by omega), if_neg (by omega)]⟩

abbrev nlS : ByteArray := ⟨#[13, 10]⟩
set_option maxRecDepth 100000 in
theorem conv_r (r : Int) (w : World) : (convert 21 9 (.int .i32 r)).run Tryd.prog w = .ok (.string (Utf8.encode r)) w := run_convert_int_string w _ _ _ _ (by kernel_rfl) Tryd.underlying9

set_option maxRecDepth 100000 in
set_option maxHeartbeats 1000000 in
theorem irune_long (r : Int) (w : World) (h1 : 2048 ≤ r) (hm : r ≤ 1114111) (hne : (r == 65533) = false) (hv : Utf8.valid r = true) :
    Calls Tryd.prog 51 #[.string ⟨#[13, 10]⟩, .int .i32 r] w fun e w' => e = .returned (.int .i64 (-1)) ∧ Below w.heap.size w w' := by
  have hvr := Lib.hid (validRune_eq r)
  rw [hv] at hvr
  have hlt : ¬ (r < 128) := by omega
  have HV := Lib.hid (Tryd.utf8_ValidRune r)
  rw [show Lib.validRune r = true by have := hvr.out; unfold validRune at this; unfold Lib.validRune; exact this.symm] at HV
  have key : ∀ (rs : ByteArray) (n : Nat), (convert 21 9 (.int .i32 r)).run Tryd.prog w = .ok (.string rs) w → rs.size = n + 3 → n ≤ 1 → Calls Tryd.prog 51 #[.string ⟨#[13, 10]⟩, .int .i32 r] w fun e w' => e = .returned (.int .i64 (-1)) ∧ Below w.heap.size w w' := by
    intro rs n hcv hs hn
    have hz : (rs.size : Int) = n + 3 := by omega
    have hc : ¬ ((n : Int) + 3 - 1 < 2) := by omega
    clear hs hv hvr
    go_enter Tryd.func51, Tryd.ntmps51
    go_wp2_with fail
    refine (HV.out _).mono ?_
    rintro e w1 ⟨rfl, rfl⟩
    go_wp2
    go_step3
    go_wp2
    go_loop [9, 10] (fun a b => a = .int .i64 ((n : Int) + 3 - 1) ∧ b = .int .i64 0) (fun _ _ => 0)
    case atStart => exact ⟨rfl, rfl⟩
    case round =>
      obtain ⟨rfl, rfl⟩ := hrel
      go_wp2
      go_ret
      exact ⟨rfl, Below.refl _ _⟩
  by_cases h : r ≤ 65535
  · obtain ⟨a, b, c, e⟩ := enc3 r h1 h hv
    exact key ⟨#[a, b, c]⟩ 0 (by rw [conv_r, e]) rfl (by omega)
  · obtain ⟨a, b, c, d, e⟩ := enc4 r (by omega) hv
    exact key ⟨#[a, b, c, d]⟩ 1 (by rw [conv_r, e]) rfl (by omega)

set_option maxRecDepth 100000 in
theorem idx_empty (x : Int) (w : World) : Calls Tryd.prog 64 #[.string ByteArray.empty, .int .u8 x] w fun e w' => e = .returned (.int .i64 (-1)) ∧ w' = w :=
  (Tryd.strings_IndexByte _ _ _).mono fun _e _w' h => ⟨h.1, h.2⟩

set_option maxRecDepth 100000 in
set_option maxHeartbeats 1000000 in
theorem irune_two (r : Int) (w : World) (h1 : 128 ≤ r) (hm : r ≤ 2047) :
    Calls Tryd.prog 51 #[.string ⟨#[13, 10]⟩, .int .i32 r] w fun e w' => e = .returned (.int .i64 (-1)) ∧ Below w.heap.size w w' := by
  have hv : Utf8.valid r = true := by unfold Utf8.valid; simp; omega
  have hne : (r == 65533) = false := by simp; omega
  have hvr := Lib.hid (validRune_eq r)
  rw [hv] at hvr
  have hlt : ¬ (r < 128) := by omega
  have HV := Lib.hid (Tryd.utf8_ValidRune r)
  rw [show Lib.validRune r = true by have := hvr.out; unfold validRune at this; unfold Lib.validRune; exact this.symm] at HV
  obtain ⟨a, b, e, hb⟩ := enc2 r h1 hm
  have hcv : (convert 21 9 (.int .i32 r)).run Tryd.prog w = .ok (.string ⟨#[a, b]⟩) w := by rw [conv_r, e]
  have hb10 : ((((⟨#[13, 10]⟩ : ByteArray)[1]'(Nat.lt_add_one 1)).toNat : Int) != (((⟨#[a, b]⟩ : ByteArray)[1]'(Nat.lt_add_one 1)).toNat : Int)) = true := by
    show ((10 : Int) != (b.toNat : Int)) = true
    simp; omega
  have hw2 : IntKind.i64.wrap 2 = 2 := by decide
  clear hv hvr e hb
  go_enter Tryd.func51, Tryd.ntmps51
  go_wp2_with fail
  refine (HV.out _).mono ?_
  rintro e w1 ⟨rfl, rfl⟩
  go_wp2
  go_step3
  go_wp2
  go_loop [9, 10] (fun a b => a = .int .i64 1 ∧ b = .int .i64 0) (fun _ _ => 0)
  case atStart => exact ⟨rfl, rfl⟩
  case round =>
    obtain ⟨rfl, rfl⟩ := hrel
    go_wp2
    go_step3
    go_wp2
    go_quiet (fail)
    have HB := Lib.hid (below_drewN (Below.refl w1.heap.size w1) nq)
    generalize w1.drewN nq = W2 at HB ⊢
    go_wp2
    go_quiet ((refine Calls.quiet_of_same ((idx_empty _ _).mono fun _ _ h => ⟨h.1, h.2⟩)))
    go_wp2
    simp +zetaDelta only [go_sem]
    go_ret
    exact ⟨rfl, below_drewN HB.out _⟩

set_option maxRecDepth 100000 in
set_option maxHeartbeats 1000000 in
theorem irune_bad (r : Int) (w : World) (h1 : 128 ≤ r) (hne : (r == 65533) = false) (hv : Lib.validRune r = false) :
    Calls Tryd.prog 51 #[.string ⟨#[13, 10]⟩, .int .i32 r] w fun e w' => e = .returned (.int .i64 (-1)) ∧ Below w.heap.size w w' := by
  have hlt : ¬ (r < 128) := by omega
  have HV := Lib.hid (Tryd.utf8_ValidRune r)
  rw [hv] at HV
  go_enter Tryd.func51, Tryd.ntmps51
  go_wp2_with fail
  refine (HV.out _).mono ?_
  rintro e w1 ⟨rfl, rfl⟩
  go_wp2
  go_ret
  exact ⟨rfl, Below.refl _ _⟩

set_option maxRecDepth 100000 in
set_option maxHeartbeats 1000000 in
theorem irune_err (w : World) :
    Calls Tryd.prog 51 #[.string ⟨#[13, 10]⟩, .int .i32 65533] w fun e w' => e = .returned (.int .i64 (-1)) ∧ Below w.heap.size w w' := by
  have hnx0 := fun ty => run_next_ascii (P := Tryd.prog) w ⟨#[13, 10]⟩ 0 ty (by decide) (by decide)
  have hnx1 := fun ty => run_next_ascii (P := Tryd.prog) w ⟨#[13, 10]⟩ 1 ty (by decide) (by decide)
  have hnx2 := run_next_end (P := Tryd.prog) w ⟨#[13, 10]⟩ 2
  go_enter Tryd.func51, Tryd.ntmps51
  go_wp2
  go_loopg [5, 6] 2 (fun g _ _ wx => ∃ i : Nat, i + g = 2 ∧ wx = w.iter ⟨#[13, 10]⟩ i)
  case atStart => exact ⟨0, by omega, rfl⟩
  case round =>
    obtain ⟨i, hig, rfl⟩ := hrel
    match gk, hig with
    | 0, hig =>
      obtain rfl : i = 2 := by omega
      go_wp2
      go_ret
      exact ⟨rfl, (Below.refl _ _).alloc (Nat.le_refl _) _⟩
    | 1, hig =>
      obtain rfl : i = 1 := by omega
      go_wp2
      go_roundg 0
      case measure => omega
      case rel => exact ⟨2, by omega, rfl⟩
    | 2, hig =>
      obtain rfl : i = 0 := by omega
      go_wp2
      go_roundg 1
      case measure => omega
      case rel => exact ⟨1, by omega, rfl⟩
    | k + 3, hig => omega

set_option maxRecDepth 100000 in
/-- which runes end a line -/
theorem irune_calls (r : Nat) (hr : r ≤ 1114111) (w : World) :
    Calls Tryd.prog 51 #[.string ⟨#[13, 10]⟩, .int .i32 r] w fun e w' => ∃ i : Int, e = .returned (.int .i64 i) ∧ decide (0 ≤ i) = endR r ∧ Below w.heap.size w w' := by
  by_cases h1 : r < 128
  · refine (Tryd.strings_IndexRune_ascii ⟨#[13, 10]⟩ r w (by omega) (by omega)).mono ?_
    rintro e w' ⟨rfl, rfl⟩
    refine ⟨_, rfl, ?_, Below.refl _ _⟩
    have key : ∀ x : Fin 128, decide (0 ≤ Lib.indexByte [13, 10] ((x.val : Int).toNat.toUInt8)) = endR x.val := by decide
    exact key ⟨r, h1⟩
  · have he : endR r = false := by unfold endR; simp; omega
    by_cases h2 : r = 65533
    · subst h2
      exact (irune_err w).mono fun e w' h => ⟨_, h.1, he.symm ▸ rfl, h.2⟩
    · have hne : ((r : Int) == 65533) = false := by simp; omega
      cases hv : Lib.validRune (r : Int)
      · exact (irune_bad r w (by omega) hne hv).mono fun e w' h => ⟨_, h.1, he.symm ▸ rfl, h.2⟩
      · by_cases h3 : r ≤ 2047
        · exact (irune_two r w (by omega) (by omega)).mono fun e w' h => ⟨_, h.1, he.symm ▸ rfl, h.2⟩
        · have hv' : Utf8.valid (r : Int) = true := by
            rw [validRune_eq]; unfold Lib.validRune at hv; unfold validRune; exact hv
          exact (irune_long r w (by omega) (by omega) hne hv').mono fun e w' h => ⟨_, h.1, he.symm ▸ rfl, h.2⟩

set_option maxRecDepth 100000 in
set_option maxHeartbeats 1000000 in
theorem crune_calls (r : Nat) (hr : r ≤ 1114111) (w : World) :
    Calls Tryd.prog 37 #[.string ⟨#[13, 10]⟩, .int .i32 r] w fun e w' => e = .returned (.bool (endR r)) ∧ Below w.heap.size w w' := by
  have H := Lib.hid (irune_calls r hr)
  go_enter Tryd.func37, Tryd.ntmps37
  go_wp2_with fail
  refine (H.out _).mono ?_
  rintro e w1 ⟨i, rfl, hi, hb⟩
  go_wp2
  go_ret
  exact ⟨by rw [← hi]; rfl, hb⟩

/-- what a rune becomes -/
def blankR (r : Nat) : Nat := if endR r then 32 else r
set_option maxRecDepth 100000 in
set_option maxHeartbeats 1000000 in
theorem blank_calls (r : Nat) (hr : r ≤ 1114111) (w : World) :
    Calls Tryd.prog 36 #[.int .i32 r] w fun e w' => e = .returned (.int .i32 (blankR r)) ∧ Below w.heap.size w w' := by
  have H := Lib.hid (crune_calls r hr)
  cases hr2 : endR r
  · rw [hr2] at H
    have hb : blankR r = r := by unfold blankR; rw [hr2]; rfl
    rw [hb]
    clear hr2 hb
    go_enter Tryd.func36, Tryd.ntmps36
    go_wp2_with fail
    refine (H.out _).mono ?_
    rintro e w1 ⟨rfl, hb⟩
    go_wp2
    go_ret
    exact ⟨rfl, hb⟩
  · rw [hr2] at H
    have hb : blankR r = 32 := by unfold blankR; rw [hr2]; rfl
    rw [hb]
    clear hr2 hb
    go_enter Tryd.func36, Tryd.ntmps36
    go_wp2_with fail
    refine (H.out _).mono ?_
    rintro e w1 ⟨rfl, hb⟩
    go_wp2
    go_ret
    exact ⟨rfl, hb⟩
end Ry
end Go.Proofs.YtflmolhkbpicbaaDoor
