/-
  What digits.size and digits.lay answer, in any world.
-/
import Derived.Test.YtgjedhdnnfdcgaaRows
import Derived.Test.YtgjedhdnnfdcgaaDigMath
import Derived.WalkKit
import Derived.WalkSpells
import Derived.WalkLawsBesides
import Derived.Deep.LoopGhost
import Derived.Lib.Hide
import Derived.Laws.Tables
import Derived.Laws.CopyOwn
namespace Go.Proofs.Ytgjedhdnnfdcgaa
open Go.RowKit
namespace Dg

theorem ret_int {k : IntKind} {a b : Int} (h : a = b) : Ending.returned (.int k a) = .returned (.int k b) := by rw [h]
theorem neg_u64 (n : Int) (h1 : -9223372036854775808 ≤ n) (h : n < 0) : IntKind.u64.wrap (-IntKind.u64.wrap n) = (n.natAbs : Int) := by
  rw [IntKind.wrap_u64, IntKind.wrap_u64]; omega

set_option maxHeartbeats 400000 in
theorem size_calls (n : Int) (w : World) (h1 : -9223372036854775808 ≤ n) (h2 : n ≤ 9223372036854775807) :
    Calls Try.prog 48 #[.int .i64 n] w fun e w' => e = .returned (.int .u64 n.natAbs) ∧ w = w' := by
  by_cases h : n < 0
  · go_enter Try.func48, Try.ntmps48
    go_wp2
    go_ret
    exact ⟨ret_int (neg_u64 n h1 h), rfl⟩
  · go_enter Try.func48, Try.ntmps48
    go_wp2
    go_ret
    exact ⟨ret_int (by omega), rfl⟩

/-- the array, laid from k on -/
def cellsOf (k : Nat) (l : List UInt8) : Array Value := (List.replicate k (Value.int .u8 0) ++ l.map fun c => Value.int .u8 (c.toNat : Int)).toArray

theorem cells_get (k : Nat) (l : List UInt8) (i : Nat) (hi : i < k) : (cellsOf k l)[i]? = some (Value.int .u8 0) := by
  unfold cellsOf
  rw [List.getElem?_toArray, List.getElem?_append_left (by simpa using hi), List.getElem?_replicate, if_pos hi]

theorem cells_set (k : Nat) (l : List UInt8) (c : UInt8) (h : 1 ≤ k) : (cellsOf k l).setIfInBounds (k - 1) (Value.int .u8 (c.toNat : Int)) = cellsOf (k - 1) (c :: l) := by
  obtain ⟨j, rfl⟩ : ∃ j, k = j + 1 := ⟨k - 1, by omega⟩
  unfold cellsOf
  rw [List.setIfInBounds_toArray]
  congr 1
  simp [List.replicate_succ']

theorem dig_val (m : Nat) : (Value.int IntKind.u8 (48 + (m : Int) % 10)) = Value.int .u8 ((dig m).toNat : Int) := by
  rw [dig_toNat]; congr 1

theorem cells_size (k : Nat) (l : List UInt8) : (cellsOf k l).size = k + l.length := by simp [cellsOf]
theorem cells_one (k : Nat) (l : List UInt8) : (cellsOf k l).all (·.oneCell') = true := by
  unfold cellsOf
  rw [List.all_toArray, List.all_eq_true]
  intro v hv
  rcases List.mem_append.1 hv with hv | hv
  · rw [List.eq_of_mem_replicate hv]; rfl
  · obtain ⟨c, _, rfl⟩ := List.mem_map.1 hv; rfl
theorem info20 : (Try.prog.info? 76).map (·.size) = some 20 := by kernel_rfl

/-- two results, the first of which is an array in memory -/
theorem results_two_row {P : Program} {fn : Func} {p q : Tmp} {ty : TypeId} (h : fn.results = #[.cell p ty, .tmp q]) (tmps : Array Value) (w : World) (g : Nat) (t : TypeId) (cs : Array Value) (fr : Nat × Nat) (d : TypeDesc) (x : Value)
    (hp : tmps.getD p undef = .pointer (some ⟨g, 0, none⟩)) (hq : tmps.getD q undef = x) (hg : w.heap[g]? = some (.cells cs t fr))
    (hu : P.underlying ty = some d) (hd : (match d with | .struct _ | .array _ _ => true | _ => false) = true) (hi : (P.info? ty).map (·.size) = some cs.size) :
    (results fn tmps).run P w = .ok (.tuple #[.agg cs, x]) w := by
  have hp' : tmps[p]?.getD undef = .pointer (some ⟨g, 0, none⟩) := by simpa using hp
  have hq' : tmps[q]?.getD undef = x := by simpa using hq
  simp [results, h, hp', hq', asAddr, run_loadVar_row w g t ty cs fr d hg hu hd hi]

theorem lay_m (N m : Nat) (l : List UInt8) (hN : N ≤ 9223372036854775808) (h : dec N = dec m ++ l) : m ≤ 9223372036854775808 := by
  have a : val (dec N) = N := val_dec N
  rw [h] at a
  have key : ∀ (l : List UInt8) (p : List UInt8), (∀ c ∈ l, isD c = true) → 0 ≤ val p → val p ≤ val (p ++ l) := by
    intro l
    induction l with
    | nil => intro p _ _; simp
    | cons c l ih =>
      intro p hl hp
      have hc := hl c (by simp)
      have e1 : val (p ++ [c]) = 10 * val p + ((c.toNat : Int) - 48) := val_snoc p c
      have hd : 48 ≤ c.toNat := by unfold isD at hc; simp at hc; omega
      have e2 := ih (p ++ [c]) (fun x hx => hl x (by simp [hx])) (by omega)
      rw [List.append_assoc] at e2
      simp only [List.singleton_append] at e2
      omega
  have hl : ∀ c ∈ l, isD c = true := fun c hc => dec_all N c (by rw [h]; simp [hc])
  have b := key l (dec m) hl (by rw [val_dec]; omega)
  rw [val_dec, a] at b
  omega

theorem lay_end_neg {n : Int} {m g : Nat} {l : List UInt8} (h : g + l.length = 20 ∧ dec n.natAbs = dec m ++ l) (hm : m < 10) (hn : n < 0) : txt n = 45 :: dig m :: l ∧ 20 - (txt n).length = g - 1 - 1 := by
  have e : txt n = 45 :: dig m :: l := by
    unfold txt; rw [if_pos hn, h.2, dec_lt hm]; rfl
  rw [e]; refine ⟨rfl, ?_⟩
  have := h.1
  simp; omega
theorem lay_end_pos {n : Int} {m g : Nat} {l : List UInt8} (h : g + l.length = 20 ∧ dec n.natAbs = dec m ++ l) (hm : m < 10) (hn : ¬ n < 0) : txt n = dig m :: l ∧ 20 - (txt n).length = g - 1 := by
  have e : txt n = dig m :: l := by
    unfold txt; rw [if_neg hn, h.2, dec_lt hm]; rfl
  rw [e]; refine ⟨rfl, ?_⟩
  have := h.1
  simp; omega

set_option maxHeartbeats 400000 in
theorem lay_calls (n : Int) (w : World) (h1 : -9223372036854775808 ≤ n) (h2 : n ≤ 9223372036854775807) :
    Calls Try.prog 45 #[.int .i64 n] w fun e w' => e = .returned (.tuple #[.agg (cellsOf (20 - (txt n).length) (txt n)), .int .i64 (20 - (txt n).length : Nat)]) ∧ Below w.heap.size w w' := by
  go_enter Try.func45, Try.ntmps45
  go_wp2
  go_step3
  go_wp2_with (go_at_call 48; refine (size_calls n _ h1 h2).mono ?_; rintro e w' ⟨rfl, rfl⟩)
  go_step3
  go_wp2
  go_loopg [5, 6] 20 (fun g f r wr => ∃ (m : Nat) (l : List UInt8), f = .int .i64 g ∧ r = .int .u64 m ∧ Hid (g + l.length = 20 ∧ dec n.natAbs = dec m ++ l) ∧ wr = (w.alloc (.cells (cellsOf 20 []) 76)).alloc (.cells (cellsOf g l) 76))
  case atStart => exact ⟨n.natAbs, [], rfl, rfl, ⟨rfl, by simp⟩, rfl⟩
  case round =>
    obtain ⟨m, l, rfl, rfl, hm, rfl⟩ := hrel
    have b19 := dec_len19 n.natAbs (by omega)
    have hml := dec_len_pos m
    obtain ⟨hg2, hg20, hmm⟩ : 2 ≤ gk ∧ gk ≤ 20 ∧ m ≤ 9223372036854775808 := by
      obtain ⟨a, b⟩ := hm.out
      have c := lay_m n.natAbs m l (by omega) b
      rw [b, List.length_append] at b19
      exact ⟨by omega, by omega, c⟩
    clear b19 hml
    have hc1 := cells_get gk l (gk - 1) (by omega)
    have hs1 : (cellsOf gk l).setIfInBounds (gk - 1) (Value.int IntKind.u8 (48 + (m : Int) % 10)) = cellsOf (gk - 1) (dig m :: l) := by
      rw [dig_val]; exact cells_set gk l (dig m) (by omega)
    by_cases hten : 10 ≤ m
    · go_wp2
      go_roundg (gk - 1)
      case rel =>
        refine ⟨m / 10, dig m :: l, by go_num, by go_num, ⟨?_, ?_⟩, rfl⟩
        · have := hm.out.1; simp; omega
        · rw [hm.out.2, dec_ge (by omega)]; simp
      case measure => omega
    · by_cases hn : n < 0
      · have hc2 := cells_get (gk - 1) (dig m :: l) (gk - 1 - 1) (by omega)
        have hs2 : (cellsOf (gk - 1) (dig m :: l)).setIfInBounds (gk - 1 - 1) (Value.int IntKind.u8 45) = cellsOf (gk - 1 - 1) (45 :: dig m :: l) := cells_set (gk - 1) (dig m :: l) 45 (by omega)
        have E := Lib.hid (lay_end_neg hm.out (by omega) hn)
        have hz := Lib.hid (show (cellsOf (gk - 1 - 1) (45 :: dig m :: l)).size = 20 by rw [cells_size]; have := hm.out.1; simp; omega)
        go_wp2_with (first | (refine wpList_load_row rfl 76 _ rfl (w.heap.size + 1) rfl 76 (cellsOf (gk - 1 - 1) (45 :: dig m :: l)) (0, 0) _ (heap_alloc2_new _ _ _) Try.underlying76 rfl (by rw [hz.out]; exact info20) ?_) | (refine wpList_store_row rfl 76 _ _ rfl w.heap.size (cellsOf (gk - 1 - 1) (45 :: dig m :: l)) rfl rfl 76 (cellsOf 20 []) (heap_alloc2_old _ _ _) (by rw [hz.out]; exact info20) (by rw [hz.out]; rfl) (cells_one _ _) ?_))
        rw [Exit.noGoto_ret]
        refine bodyPost_ret (v := .tuple #[.agg (cellsOf (gk - 1 - 1) (45 :: dig m :: l)), .int .i64 ((gk : Int) - 1 - 1)]) (results_two_row (p := 2) (q := 3) (ty := 76) Try.results45 _ _ w.heap.size 76 (cellsOf (gk - 1 - 1) (45 :: dig m :: l)) (0, 0) _ _ rfl rfl (setRow_heap _ _ (cellsOf 20 []) _ _ _ (heap_alloc2_old _ _ _)) Try.underlying76 rfl (by rw [hz.out]; exact info20)) rfl ⟨?_, ?_⟩
        · rw [E.out.2, E.out.1, show ((gk - 1 - 1 : Nat) : Int) = (gk : Int) - 1 - 1 from by omega]
        · exact below_setRow (((Below.refl _ _).alloc (Nat.le_refl _) _).alloc (by simp) _) (Nat.le_refl _) _
      · have E := Lib.hid (lay_end_pos hm.out (by omega) hn)
        have hz := Lib.hid (show (cellsOf (gk - 1) (dig m :: l)).size = 20 by rw [cells_size]; have := hm.out.1; simp; omega)
        go_wp2_with (first | (refine wpList_load_row rfl 76 _ rfl (w.heap.size + 1) rfl 76 (cellsOf (gk - 1) (dig m :: l)) (0, 0) _ (heap_alloc2_new _ _ _) Try.underlying76 rfl (by rw [hz.out]; exact info20) ?_) | (refine wpList_store_row rfl 76 _ _ rfl w.heap.size (cellsOf (gk - 1) (dig m :: l)) rfl rfl 76 (cellsOf 20 []) (heap_alloc2_old _ _ _) (by rw [hz.out]; exact info20) (by rw [hz.out]; rfl) (cells_one _ _) ?_))
        refine bodyPost_ret (v := .tuple #[.agg (cellsOf (gk - 1) (dig m :: l)), .int .i64 ((gk : Int) - 1)]) (results_two_row (p := 2) (q := 3) (ty := 76) Try.results45 _ _ w.heap.size 76 (cellsOf (gk - 1) (dig m :: l)) (0, 0) _ _ rfl rfl (setRow_heap _ _ (cellsOf 20 []) _ _ _ (heap_alloc2_old _ _ _)) Try.underlying76 rfl (by rw [hz.out]; exact info20)) rfl ⟨?_, ?_⟩
        · rw [E.out.2, E.out.1, show ((gk - 1 : Nat) : Int) = (gk : Int) - 1 from by omega]
        · exact below_setRow (((Below.refl _ _).alloc (Nat.le_refl _) _).alloc (by simp) _) (Nat.le_refl _) _

end Dg
end Go.Proofs.Ytgjedhdnnfdcgaa
