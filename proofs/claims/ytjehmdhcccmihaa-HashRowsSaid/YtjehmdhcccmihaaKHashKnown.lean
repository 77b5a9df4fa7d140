/-
  The chapter's example holds, in any world.
-/
import Derived.Test.YtjehmdhcccmihaaKHashKey
namespace Go.Proofs.Ytjehmdhcccmihaa
open Go.RowKit
namespace Hs

theorem below_then {w a b : World} (h : Below w.heap.size w a) (k : Below a.heap.size a b) : Below w.heap.size w b := h.trans (k.mono h.size)

theorem sum_none (w : World) : Calls Try.prog 13 #[.string ⟨#[]⟩] w fun e w' => e = .returned (.int .u64 14695981039346656037) ∧ w = w' := by
  refine (sum_calls ⟨#[]⟩ w (Nat.zero_le _)).mono ?_
  rintro e w' ⟨rfl, rfl⟩
  exact ⟨ret_int (by show ((sum [] : Nat) : Int) = _; rw [sum_nil]; unfold base; omega), rfl⟩
theorem sum_97 (w : World) : Calls Try.prog 13 #[.string ⟨#[97]⟩] w fun e w' => e = .returned (.int .u64 12638187200555641996) ∧ w = w' := by
  refine (sum_calls ⟨#[97]⟩ w (by unfold maxLen; show 1 ≤ _; omega)).mono ?_
  rintro e w' ⟨rfl, rfl⟩
  exact ⟨ret_int (by show ((sum [97] : Nat) : Int) = _; rw [sum_a]; omega), rfl⟩

theorem known_texts (w : World) : Texts (w.alloc (.cells #[.string ⟨#[97]⟩, .string ⟨#[98, 58, 99]⟩] 9)) (some ⟨w.heap.size, 0, none⟩) [⟨#[97]⟩, ⟨#[98, 58, 99]⟩] := by
  intro i hi
  refine ⟨_, rfl, ?_⟩
  have hi2 : i < 2 := by simpa using hi
  rw [Addr.add_lit, cell_of_row _ _ _ _ _ _ (heap_alloc_new _ _)]
  match i, hi2 with
  | 0, _ => rfl
  | 1, _ => rfl
theorem key_known (w : World) : Calls Try.prog 14 #[.slice (some ⟨w.heap.size, 0, none⟩) 2 2] (w.alloc (.cells #[.string ⟨#[97]⟩, .string ⟨#[98, 58, 99]⟩] 9)) fun e w' => e = .returned (.string ⟨#[97, 58, 98, 92, 58, 99, 58]⟩) ∧ Below w.heap.size w w' := by
  refine (key_calls (some ⟨w.heap.size, 0, none⟩) 2 [⟨#[97]⟩, ⟨#[98, 58, 99]⟩] _ (known_texts w) (fun p hp => ?_) (by decide)).mono ?_
  · simp only [List.mem_cons, List.not_mem_nil, or_false] at hp
    rcases hp with rfl | rfl
    · unfold maxLen; show 1 ≤ _; omega
    · unfold maxLen; show 3 ≤ _; omega
  · rintro e w' ⟨rfl, hb⟩
    have e1 : key (bys [⟨#[97]⟩, ⟨#[98, 58, 99]⟩]) = [97, 58, 98, 92, 58, 99, 58] := by decide
    exact ⟨by rw [e1], below_then ((Below.refl _ _).alloc (Nat.le_refl _) _) hb⟩

set_option maxHeartbeats 400000 in
theorem known_calls (w : World) :
    Calls Try.prog 7 #[] w fun e w' => e = .returned (.bool true) ∧ Below w.heap.size w w' := by
  go_enter Try.func7, Try.ntmps7
  go_wp2_with fail
  refine (sum_none _).mono ?_
  rintro e w1 ⟨rfl, rfl⟩
  go_wp2_with fail
  refine (sum_97 _).mono ?_
  rintro e w1 ⟨rfl, rfl⟩
  go_wp2_with fail
  refine (key_known _).mono ?_
  rintro e w1 ⟨rfl, hb⟩
  go_wp2
  go_ret
  exact ⟨rfl, hb⟩

end Hs
end Go.Proofs.Ytjehmdhcccmihaa
