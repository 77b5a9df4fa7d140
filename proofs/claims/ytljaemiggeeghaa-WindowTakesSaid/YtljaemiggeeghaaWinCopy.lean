/-
  Rows of entries of the call's own; what window.copied answers, in any world. (run_copy_pairs: after the library's own law for elements of one cell, Derived/Laws/CopyRow.)
-/
import Derived.Test.YtljaemiggeeghaaWinRoom
import Derived.Laws.CopyOwn
import Derived.Laws.MakeOwn
import Derived.Laws.OwnMore
namespace Go.Proofs.Ytljaemiggeeghaa
open Go.RowKit
namespace Wn

/-- entries as cells -/
def ecells : List (Int × Int) → List Value
  | [] => []
  | e :: l => .int .i64 e.1 :: .int .i64 e.2 :: ecells l
theorem ecells_length (l : List (Int × Int)) : (ecells l).length = l.length * 2 := by
  induction l with
  | nil => rfl
  | cons e l ih => simp [ecells, ih]; omega
theorem ecells_append (k l : List (Int × Int)) : ecells (k ++ l) = ecells k ++ ecells l := by
  induction k with
  | nil => rfl
  | cons e k ih => simp [ecells, ih]
theorem ecells_one (l : List (Int × Int)) : ∀ u ∈ ecells l, u.oneCell' = true := by
  induction l with
  | nil => simp [ecells]
  | cons e l ih =>
    intro u hu
    simp [ecells] at hu
    rcases hu with rfl | rfl | hu
    · rfl
    · rfl
    · exact ih u hu
theorem ecells_fst (l : List (Int × Int)) (i : Nat) (h : i < l.length) : (ecells l)[i * 2]? = some (.int .i64 l[i].1) := by
  induction l generalizing i with
  | nil => simp at h
  | cons e l ih =>
    cases i with
    | zero => rfl
    | succ i =>
      rw [show (i + 1) * 2 = i * 2 + 1 + 1 by omega]
      simpa [ecells] using ih i (by simpa using h)
theorem ecells_snd (l : List (Int × Int)) (i : Nat) (h : i < l.length) : (ecells l)[i * 2 + 1]? = some (.int .i64 l[i].2) := by
  induction l generalizing i with
  | nil => simp at h
  | cons e l ih =>
    cases i with
    | zero => rfl
    | succ i =>
      rw [show (i + 1) * 2 + 1 = i * 2 + 1 + 1 + 1 by omega]
      simpa [ecells] using ih i (by simpa using h)

theorem add_two (a : Addr) (n : Nat) : (⟨(a.add n).block, (a.add n).off + 1, none⟩ : Addr) = a.add (n + 1) := by
  unfold Addr.add
  by_cases h : n = 0
  · subst h; simp
  · simp [h]; omega
theorem add_block (a : Addr) (n : Nat) : (a.add n).block = a.block := by unfold Addr.add; split <;> rfl

/-- what a reading gives: cell by cell -/
theorem Ents.cells {w : World} {a : Addr} {l : List (Int × Int)} (h : Ents w (some a) l) : ∀ j v, (ecells l)[j]? = some v → w.cell? (a.add j) = some v := by
  intro j v hv
  have hj : j < l.length * 2 := by
    have := (List.getElem?_eq_some_iff.1 hv).1
    rwa [ecells_length] at this
  obtain ⟨a', e, c1, c2⟩ := h (j / 2) (by omega)
  injection e with e
  subst e
  rcases Nat.mod_two_eq_zero_or_one j with h0 | h0
  · have e2 : j = j / 2 * 2 := by omega
    have := ecells_fst l (j / 2) (by omega)
    rw [← e2] at this c1
    rw [c1, ← hv, this]
  · have e2 : j = j / 2 * 2 + 1 := by omega
    have := ecells_snd l (j / 2) (by omega)
    rw [add_two, ← e2] at c2
    rw [← e2] at this
    rw [c2, ← hv, this]
/-- and back -/
theorem Ents.of_cells {w : World} {a : Addr} {l : List (Int × Int)} (h : ∀ j v, (ecells l)[j]? = some v → w.cell? (a.add j) = some v) : Ents w (some a) l := fun i hi =>
  ⟨a, rfl, h _ _ (ecells_fst l i hi), by rw [add_two]; exact h _ _ (ecells_snd l i hi)⟩

/-- a row of the call's own, from block B on, holds these entries -/
def Own (w : World) (B : Nat) (v : Value) (l : List (Int × Int)) : Prop := w.ownsRow B 62 2 v l.length (ecells l)
theorem Own.ents {w : World} {B : Nat} {v : Value} {l : List (Int × Int)} (h : Own w B v l) : ∃ A cap, v = .slice A l.length cap ∧ Ents w A l := by
  rcases h.2 with ⟨rfl, h0⟩ | ⟨g, cap, cur, rfl, hb, hg, hnc, hm, hs, ht⟩
  · obtain rfl : l = [] := List.eq_nil_of_length_eq_zero h0
    exact ⟨none, 0, rfl, Ents.nil _ _⟩
  · exact ⟨some ⟨g, 0, none⟩, cap, rfl, Ents.of_cells fun j v hv => World.ownsRow.cells h (g := g) rfl j v hv⟩
theorem Own.view {w : World} {B : Nat} {v : Value} {l : List (Int × Int)} (h : Own w B v l) : ∃ A cap, v = .slice A l.length cap ∧ l.length ≤ cap ∧ Ents w A l := by
  rcases h.2 with ⟨rfl, h0⟩ | ⟨g, cap, cur, rfl, hb, hg, hnc, hm, hs, ht⟩
  · obtain rfl : l = [] := List.eq_nil_of_length_eq_zero h0
    exact ⟨none, 0, rfl, Nat.le_refl _, Ents.nil _ _⟩
  · exact ⟨some ⟨g, 0, none⟩, cap, rfl, hnc, Ents.of_cells fun j v hv => World.ownsRow.cells h (g := g) rfl j v hv⟩
theorem Own.nil (w : World) (B : Nat) : Own w B (.slice none 0 0) [] := World.ownsRow_nil _ _ _ _
theorem Own.mono {w : World} {B B' : Nat} {v : Value} {l : List (Int × Int)} (h : Own w B v l) (hB : B' ≤ B) : Own w B' v l := by
  refine ⟨h.1, ?_⟩
  rcases h.2 with h2 | ⟨g, cap, cur, hv, hb, r⟩
  · exact .inl h2
  · exact .inr ⟨g, cap, cur, hv, by omega, r⟩
theorem Own.keep {w w' : World} {B : Nat} {v : Value} {l : List (Int × Int)} (h : Own w B v l) (hb : Below w.heap.size w w') : Own w' B v l := by
  refine ⟨h.1, ?_⟩
  rcases h.2 with h2 | ⟨g, cap, cur, hv, hbg, hg, r⟩
  · exact .inl h2
  · exact .inr ⟨g, cap, cur, hv, hbg, by rw [hb.block g (Array.getElem?_eq_some_iff.1 hg).1]; exact hg, r⟩

theorem run_copy_pairs {P : Program} (w : World) (dT sT ty elem : TypeId) (g o dLen dCap : Nat) (a : Addr) (sLen sCap : Nat) (cur : Array Value) (t : TypeId) (cs : List Value)
    (hu : P.underlying dT = some (.slice elem)) (hs : (P.info? elem).map (·.size) = some 2)
    (hg : w.heap[g]? = some (.cells cur t (0, 0))) (hn : cs.length = Nat.min sLen dLen * 2)
    (hsrc : ∀ j v, cs[j]? = some v → w.cell? (a.add j) = some v) (hfit : o + cs.length ≤ cur.size) (h1 : ∀ v ∈ cs, v.oneCell' = true) :
    (Builtin.copy_ #[dT, sT] ty #[.slice (some ⟨g, o, none⟩) dLen dCap, .slice (some a) sLen sCap]).run P w =
      .ok (goInt (Nat.min sLen dLen)) (w.setRow g (cur.toList.take o ++ cs ++ cur.toList.drop (o + cs.length)).toArray) := by
  have hl := run_loadCells_list (P := P) w a cs hsrc
  have hst := run_storeCells_at P g o t cs 0 cur w hg (by simpa using hfit) h1
  rw [hn] at hl
  cases hq : P.info? elem with
  | none => simp [hq] at hs
  | some i =>
    have hi : i.size = 2 := by simpa [hq] using hs
    simp [Builtin.copy_, run_underlying hu, Builtin.lenOf, Builtin.firstCells, sizeOf, typeInfo, hq, hi, hl, hst]

theorem entry_info : (Try.prog.info? 62).map (fun i => (i.zero, i.size, i.bytes)) = some (some (.agg #[.int .i64 0, .int .i64 0]), 2, 16) := by kernel_rfl
theorem entry_size : (Try.prog.info? 62).map (·.size) = some 2 := by kernel_rfl

/-- make of as many entries -/
theorem make_ents (n : Nat) (w : World) (hn : n ≤ 1000) : (Instr.makeSlice 30 (.int .i64 (n : Int)) (.int .i64 (n : Int))).run Try.prog w = .ok (.slice (some ⟨w.heap.size, 0, none⟩) n n) (w.alloc (.cells (madeCells #[.int .i64 0, .int .i64 0] (n * 2)) 62)) := by
  obtain ⟨i0, hi, hz0, hz1, hz2⟩ := info_parts entry_info
  have h := run_make (P := Try.prog) w 30 62 i0 _ Try.underlying30 hi hz0 .i64 .i64 n n (by omega) (Int.le_refl _) (by rw [hz2]; omega) (by omega)
  simp only [Int.toNat_natCast, hz1] at h
  exact h

theorem copy_ents (a : Addr) (cap : Nat) (l : List (Int × Int)) (w : World) (hn : l.length ≤ 1000) (hA : ∀ j v, (ecells l)[j]? = some v → w.cell? (a.add j) = some v) :
    ∃ w', (Builtin.copy_ #[30, 30] 3 #[.slice (some ⟨w.heap.size, 0, none⟩) l.length l.length, .slice (some a) l.length cap]).run Try.prog (w.alloc (.cells (madeCells #[.int .i64 0, .int .i64 0] (l.length * 2)) 62)) = .ok (goInt l.length) w' ∧
      Own w' w.heap.size (.slice (some ⟨w.heap.size, 0, none⟩) l.length l.length) l ∧ Below w.heap.size w w' := by
  have hz : (madeCells #[Value.int .i64 0, .int .i64 0] (l.length * 2)).size = l.length * 2 := size_madeCells _ _
  have h := run_copy_pairs (P := Try.prog) (w.alloc (.cells (madeCells #[.int .i64 0, .int .i64 0] (l.length * 2)) 62)) 30 30 3 62 w.heap.size 0 l.length l.length a l.length cap _ 62 (ecells l)
    Try.underlying30 entry_size (heap_alloc_new w _) (by rw [ecells_length]; simp) (fun j v hv => by
      have hc := hA j v hv
      have hlt := World.block_lt_of_cell? w _ hc
      rw [World.cell?_alloc_lt _ _ _ hlt]; exact hc) (by rw [ecells_length]; omega) (ecells_one l)
  rw [show l.length.min l.length = l.length from Nat.min_self _] at h
  refine ⟨_, h, ⟨ecells_length l, .inr ⟨w.heap.size, l.length, _, rfl, Nat.le_refl _, setRow_heap _ _ _ _ _ _ (heap_alloc_new w _), Nat.le_refl _, by unfold maxLen; omega, ?_, ?_⟩⟩, below_setRow ((Below.refl _ _).alloc (Nat.le_refl _) _) (Nat.le_refl _) _⟩
  · simp [ecells_length, hz]
  · simp [ecells_length]

set_option maxHeartbeats 2000000 in
theorem copied_calls (A : Option Addr) (cap : Nat) (l : List (Int × Int)) (w : World) (hA : Ents w A l) (hn : l.length ≤ 1000) :
    Calls Try.prog 36 #[.slice A l.length cap] w fun e w' => ∃ v, e = .returned v ∧ Own w' w.heap.size v l ∧ Below w.heap.size w w' := by
  by_cases h0 : l = []
  · subst h0
    go_enter Try.func36, Try.ntmps36
    go_wp2
    go_ret
    exact ⟨_, rfl, Own.nil _ _, Below.refl _ _⟩
  · have h1 : 0 < l.length := by cases l <;> simp_all
    have h2 : ((l.length : Int) == 0) = false := by simp; omega
    obtain ⟨a, rfl, -⟩ := hA 0 h1
    have HA := Lib.hid hA.cells
    have hmk := fun w => make_ents l.length w hn
    obtain ⟨w2, hcp, ho, hb⟩ := copy_ents a cap l w hn HA.out
    have HO := Lib.hid ho
    have HB := Lib.hid hb
    clear h0 hA ho hb
    go_enter Try.func36, Try.ntmps36
    go_wp2_with fail
    go_ret
    exact ⟨_, rfl, HO.out, HB.out⟩

end Wn
end Go.Proofs.Ytljaemiggeeghaa
