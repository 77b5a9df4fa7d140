/-
  What digits.Print, digits.read answer, in any world.
-/
import Derived.Test.YtgjedhdnnfdcgaaDigLay
import Derived.Laws.IdiomStrings
namespace Go.Proofs.Ytgjedhdnnfdcgaa
open Go.RowKit
namespace Dg

theorem alen : Try.prog.arrayLen 76 = 20 := by kernel_rfl
theorem aelem : Try.prog.elem 76 = 5 := by kernel_rfl
theorem asize (w : World) : (Go.sizeOf 5).run Try.prog w = .ok 1 w := by kernel_rfl
theorem arr_slice (w : World) (b k : Nat) (hk : k < 20) : (Instr.sliceAt 76 (.pointer (some ⟨b, 0, none⟩)) (some (.int .i64 (k : Int))) none none).run Try.prog w = .ok (.slice (some ⟨b, k, none⟩) (20 - k) (20 - k)) w := by
  rw [run_sliceAt_array_l w 76 ⟨b, 0, none⟩ (by kernel_rfl) .i64 (k : Int) (by omega) (by rw [alen]; omega), aelem, asize]
  simp only [Result.andThen, slicedAt, alen, Int.toNat_natCast]
  rw [if_neg (by omega)]
  simp [Addr.add_lit]
theorem cells_txt (k : Nat) (l : List UInt8) (j : Nat) (hj : j < l.length) : (cellsOf k l)[k + j]? = some (Value.int .u8 (l[j].toNat : Int)) := by
  unfold cellsOf
  rw [List.getElem?_toArray, List.getElem?_append_right (by simp)]
  simp [hj]
theorem arr_conv (w : World) (b k : Nat) (l : List UInt8) (t : TypeId) (fr : Nat × Nat) (hk : l.length + k = 20) (h : w.heap[b]? = some (.cells (cellsOf k l) t fr)) :
    (convert 23 9 (.slice (some ⟨b, k, none⟩) (20 - k) (20 - k))).run Try.prog w = .ok (.string ⟨l.toArray⟩) w := by
  have e : 20 - k = l.length := by omega
  rw [e]
  refine run_convert_bytes_back w 23 9 5 ⟨b, k, none⟩ l.length l Try.underlying23 Try.underlying5 Try.underlying9 fun j hj => ?_
  rw [Addr.add_lit, cell_of_row w b (k + j) _ t fr h, cells_txt k l j hj]

set_option maxHeartbeats 400000 in
theorem print_calls (n : Int) (w : World) (h1 : -9223372036854775808 ≤ n) (h2 : n ≤ 9223372036854775807) :
    Calls Try.prog 39 #[.int .i64 n] w fun e w' => e = .returned (.string ⟨(txt n).toArray⟩) ∧ Below w.heap.size w w' := by
  have hl := txt_len n h1 h2
  obtain ⟨k, hk⟩ : ∃ k, k = 20 - (txt n).length := ⟨_, rfl⟩
  have hk20 : k < 20 := by omega
  have HK := Lib.hid (show (txt n).length + k = 20 by omega)
  have hlay := Lib.hid (lay_calls n)
  rw [← hk] at hlay
  have hz := Lib.hid (show (cellsOf k (txt n)).size = 20 by rw [cells_size]; omega)
  clear hk hl
  have hsl := fun (w : World) (b : Nat) => arr_slice w b k hk20
  go_enter Try.func39, Try.ntmps39
  go_wp2_with fail
  refine (hlay.out _ h1 h2).mono ?_
  rintro e w1 ⟨rfl, hb⟩
  go_wp2_with (refine wpList_store_row rfl 76 _ _ rfl w1.heap.size (cellsOf k (txt n)) rfl rfl 76 _ (heap_alloc_new _ _) (by rw [hz.out]; exact info20) (by rw [hz.out]; rfl) (cells_one _ _) ?_)
  rw [arr_conv _ _ _ (txt n) 76 (0, 0) HK.out (setRow_heap _ _ _ _ _ _ (heap_alloc_new _ _))]
  go_wp2
  go_ret
  exact ⟨rfl, below_setRow (hb.alloc hb.size _) hb.size _⟩

end Dg
end Go.Proofs.Ytgjedhdnnfdcgaa
