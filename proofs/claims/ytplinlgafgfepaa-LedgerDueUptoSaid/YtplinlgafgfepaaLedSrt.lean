/-
  The two orders; a row of dues as numbers; what a sort leaves.
-/
import Derived.Test.YtplinlgafgfepaaLedCmp
namespace Go.Proofs.Ytplinlgafgfepaa.Ld
open Go.RowKit Go.Maps Pr Go.Sort Go.Shelf
open Go.Lib (compareInt)

/-- a due of the list, by its number -/
def fnd (L : LL (List Lim)) (id : Nat) : Du (List Lim) := (getO L (id : Int)).getD (0, 0, [])
theorem fnd_is {last : Nat} {L : LL (List Lim)} (h : Good last L) {x : Du (List Lim)} (hx : x ∈ L) : fnd L x.1 = x := by
  unfold fnd
  rw [getO_some h hx]; rfl
/-- its three cells, its limits in block bl -/
def enc (L : LL (List Lim)) (bl : Nat → Nat) (id : Nat) : List Value :=
  [.int .i64 (id : Nat), .int .i64 ((fnd L id).2.1 : Nat), .slice (la (bl id) (fnd L id).2.2.length) (fnd L id).2.2.length (fnd L id).2.2.length]
theorem enc_len (L : LL (List Lim)) (bl : Nat → Nat) (id : Nat) : (enc L bl id).length = 3 := rfl
theorem enc_one (L : LL (List Lim)) (bl : Nat → Nat) (id : Nat) : ∀ v ∈ enc L bl id, v.oneCell' = true := by
  intro v hv
  simp only [enc, List.mem_cons, List.not_mem_nil, or_false] at hv
  rcases hv with rfl | rfl | rfl <;> rfl
def flat (L : LL (List Lim)) (bl : Nat → Nat) : List Nat → List Value
  | [] => []
  | x :: l => enc L bl x ++ flat L bl l
theorem flat_length (L : LL (List Lim)) (bl : Nat → Nat) (l : List Nat) : (flat L bl l).length = l.length * 3 := by
  induction l with
  | nil => rfl
  | cons x l ih => simp only [flat, List.length_append, ih, enc_len, List.length_cons]; omega
theorem flat_append (L : LL (List Lim)) (bl : Nat → Nat) (k l : List Nat) : flat L bl (k ++ l) = flat L bl k ++ flat L bl l := by
  induction k with
  | nil => rfl
  | cons x k ih => simp [flat, ih]
theorem flat_one (L : LL (List Lim)) (bl : Nat → Nat) (l : List Nat) : ∀ u ∈ flat L bl l, u.oneCell' = true := by
  induction l with
  | nil => simp [flat]
  | cons x l ih =>
    intro u hu
    rcases List.mem_append.1 hu with hu | hu
    · exact enc_one L bl x u hu
    · exact ih u hu
theorem flat_at (L : LL (List Lim)) (bl : Nat → Nat) (l : List Nat) (i : Nat) (h : i < l.length) (j : Nat) (hj : j < 3) : (flat L bl l)[i * 3 + j]? = (enc L bl l[i])[j]? := by
  induction l generalizing i with
  | nil => simp at h
  | cons x l ih =>
    cases i with
    | zero => rw [flat, List.getElem?_append_left (by rw [enc_len]; omega)]; simp
    | succ i =>
      rw [flat, List.getElem?_append_right (by rw [enc_len]; omega), enc_len, show (i + 1) * 3 + j - 3 = i * 3 + j by omega]
      simpa using ih i (by simpa using h)
theorem flat_flatK (L : LL (List Lim)) (bl : Nat → Nat) (l : List Nat) : flatK (enc L bl) 3 l.toArray = (flat L bl l).toArray := by
  apply Array.ext
  · simp [flat_length]
  · intro i h1 h2
    have hi : i < l.length * 3 := by simpa using h1
    have e1 := get_flatK (enc L bl) 3 l.toArray i (by simpa using hi)
    have e2 := flat_at L bl l (i / 3) (by omega) (i % 3) (by omega)
    rw [show i / 3 * 3 + i % 3 = i by omega] at e2
    have h3 : i < (flat L bl l).length := by rw [flat_length]; exact hi
    rw [getElem!_pos (flatK (enc L bl) 3 l.toArray) i h1] at e1
    rw [e1, List.getElem_toArray]
    rw [List.getElem?_eq_getElem h3] at e2
    have h4 : i % 3 < (enc L bl l[i / 3]).length := by rw [enc_len]; omega
    rw [List.getElem?_eq_getElem h4] at e2
    have e3 : l.toArray[i / 3]! = l[i / 3]'(by omega) := by rw [getElem!_pos l.toArray (i / 3) (by simp; omega)]; simp
    rw [e3, getElem!_pos (enc L bl (l[i / 3]'(by omega))) (i % 3) h4]
    exact (Option.some.inj e2).symm

/-- a block of dues that holds these numbers' dues from its begin on -/
def DRow (w : World) (g : Nat) (L : LL (List Lim)) (bl : Nat → Nat) (ids : List Nat) : Prop := ∃ cur : Array Value, w.heap[g]? = some (.cells cur 38 (0, 0)) ∧ cur.toList.take (ids.length * 3) = flat L bl ids
theorem DRow.lt {w : World} {g : Nat} {L : LL (List Lim)} {bl : Nat → Nat} {ids : List Nat} (h : DRow w g L bl ids) : g < w.heap.size := by
  obtain ⟨cur, h1, _⟩ := h
  exact (Array.getElem?_eq_some_iff.1 h1).1
theorem DRow.of {w w' : World} {g : Nat} {L : LL (List Lim)} {bl : Nat → Nat} {ids : List Nat} (h : DRow w g L bl ids) (e : w'.heap[g]? = w.heap[g]?) : DRow w' g L bl ids := by
  obtain ⟨cur, h1, h2⟩ := h
  exact ⟨cur, e.trans h1, h2⟩
theorem DRow.cell {w : World} {g : Nat} {L : LL (List Lim)} {bl : Nat → Nat} {ids : List Nat} (h : DRow w g L bl ids) (j : Nat) (v : Value) (hv : (flat L bl ids)[j]? = some v) : w.cell? ⟨g, j, none⟩ = some v := by
  obtain ⟨cur, h1, h2⟩ := h
  rw [cell_of_row _ _ _ _ _ _ h1, ← Array.getElem?_toList]
  have hj : j < ids.length * 3 := by
    have := (List.getElem?_eq_some_iff.1 hv).1
    rwa [flat_length] at this
  rw [← h2, List.getElem?_take_of_lt hj] at hv
  exact hv
theorem DRow.at_ {w : World} {g : Nat} {L : LL (List Lim)} {bl : Nat → Nat} {ids : List Nat} (h : DRow w g L bl ids) (i : Nat) (hi : i < ids.length) :
    w.cell? ⟨g, i * 3, none⟩ = some (.int .i64 (ids[i] : Nat)) ∧ w.cell? ⟨g, i * 3 + 1, none⟩ = some (.int .i64 ((fnd L ids[i]).2.1 : Nat)) ∧ w.cell? ⟨g, i * 3 + 2, none⟩ = some (.slice (la (bl ids[i]) (fnd L ids[i]).2.2.length) (fnd L ids[i]).2.2.length (fnd L ids[i]).2.2.length) :=
  ⟨h.cell _ _ (flat_at L bl ids i hi 0 (by omega)), h.cell _ _ (flat_at L bl ids i hi 1 (by omega)), h.cell _ _ (flat_at L bl ids i hi 2 (by omega))⟩
theorem DRow.holds {w : World} {g : Nat} {L : LL (List Lim)} {bl : Nat → Nat} {ids : List Nat} (h : DRow w g L bl ids) : HoldsK (enc L bl) 3 w g 0 ids.toArray := by
  intro j hj
  have hj' : j < ids.length * 3 := by simpa using hj
  have h3 : j < (flat L bl ids).length := by rw [flat_length]; exact hj'
  rw [flat_flatK, getElem!_pos (flat L bl ids).toArray j (by simpa using h3), List.getElem_toArray, Nat.zero_add]
  refine ⟨h.cell j _ (List.getElem?_eq_getElem h3), ?_⟩
  obtain ⟨cur, h1, _⟩ := h
  exact frozen_of_row _ _ _ _ _ h1

theorem heap_sortedK {w : World} {g n : Nat} {os : Array Obj} {cur : Array Value} {e : TypeId} {fr : Nat × Nat} (F : Array Value) (hb : w.heap[g]? = some (.cells cur e fr)) :
    (grow (putRow id (Sort.ahead w n) g 0 F) os).heap[g]? = some (.cells (putCells id 0 F cur) e fr) := by
  have hg : g < w.heap.size := (Array.getElem?_eq_some_iff.1 hb).1
  rw [heap_grow_old _ _ (by simpa using hg)]
  simp [putRow, mapBlock, Sort.ahead, Array.getElem?_modify, hb, onCells]
theorem grownBy_sortedK {w : World} {g n : Nat} {os : Array Obj} (F : Array Value) : w.grownBy (grow (putRow id (Sort.ahead w n) g 0 F) os) (some g) := by
  refine ⟨rfl, rfl, rfl, by simp, fun k hk hne => ?_⟩
  rw [heap_grow_old _ _ (by simpa using hk)]
  have : g ≠ k := fun e => hne (by rw [e])
  simp [putRow, mapBlock, Sort.ahead, Array.getElem?_modify, this]

theorem sort_calls {cf : Nat → Nat → Int} (hO : SWO (ltOf cf)) (hT : ∀ x y, ltOf cf x y = false → ltOf cf y x = false → x = y) (L : LL (List Lim)) (bl : Nat → Nat) (gf : Nat)
    (eg : ∀ args w, (callFunc gf args).run Try.prog w = .ok (.enter gf args) w)
    (hcl : ∀ (x y : Nat) (W : World), Calls Try.prog gf #[.agg (enc L bl x).toArray, .agg (enc L bl y).toArray] W fun e w' => e = .returned (.int .i64 (cf x y)) ∧ ∃ q os', w' = grow (W.drewN q) os')
    (g cap : Nat) (ids : List Nat) (w : World) (hR : DRow w g L bl ids) (hl : ids.length ≤ 1000) :
    Calls Try.prog 47 #[.slice (some ⟨g, 0, none⟩) ids.length cap, .func (.func gf) #[] #[]] w fun e w' => e = .returned (.tuple #[]) ∧ DRow w' g L bl (ids.mergeSort fun x y => !ltOf cf y x) ∧ w.grownBy w' (some g) := by
  have h := AnyQ.slices_SortFunc_total sortLays 3 Try.isAgg38 Try.sizeOf38 (enc L bl) (fun _ => rfl) (enc_one L bl) cf hO gf #[] g 0 cap ids.toArray w eg (fun m os dk hs x y => hcl x y _) hR.holds hR.lt (by simp; omega) hT
  change Calls Try.prog 47 _ _ _ at h
  rw [List.size_toArray] at h
  refine h.mono ?_
  rintro e w' ⟨rfl, n, os, rfl⟩
  refine ⟨rfl, ?_, grownBy_sortedK _⟩
  obtain ⟨cur, h1, h2⟩ := hR
  refine ⟨_, heap_sortedK _ h1, ?_⟩
  have hsz : ids.length * 3 ≤ cur.size := by
    have := congrArg List.length h2
    rw [flat_length, List.length_take] at this
    simp at this
    omega
  rw [List.toList_toArray, flat_flatK]
  apply List.ext_getElem?
  intro j
  by_cases hj : j < ids.length * 3
  · have hj2 : j < (flat L bl (ids.mergeSort fun x y => !ltOf cf y x)).length := by rw [flat_length, List.length_mergeSort]; exact hj
    rw [List.getElem?_take_of_lt (by rw [List.length_mergeSort]; exact hj), Array.getElem?_toList]
    simp [putCells, hj2, show j < cur.size by omega]
  · rw [List.getElem?_take_eq_none (by rw [List.length_mergeSort]; omega), List.getElem?_eq_none (by rw [flat_length, List.length_mergeSort]; omega)]
end Go.Proofs.Ytplinlgafgfepaa.Ld
