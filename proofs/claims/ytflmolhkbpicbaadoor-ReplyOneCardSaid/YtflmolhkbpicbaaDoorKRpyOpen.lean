/-
  Answers, rows of answers, and bytes among the arguments, opened; what their bulk gives. (open_slice_fields: the guide's own plain theorem, extra-structs, 1.)
-/
import Derived.Test.YtflmolhkbpicbaaDoorKRpyBx4
import Derived.ProofKit
import Derived.OpenShut
import Derived.ShutString
import Derived.ChangeSlices
import Derived.IntWalk
import Derived.Carry
import Derived.JoinedCond
import Derived.Deep.Slices
import Derived.Deep.Strs
import Derived.Deep.Fields
import Derived.ChangeSame
import Derived.Lib.SmallJoins
namespace Go.Proofs.YtflmolhkbpicbaaDoor.Ry
open Go.Joins Go.ChangeShapes Go.WideShapes Go.ChangeAt Go.RowKit Go.Deep

set_option maxRecDepth 100000 in
theorem knob : ownKnob Tryd.prog.godebug = none := by kernel_rfl
set_option maxRecDepth 100000 in
theorem laidOut : laidOutB Tryd.prog = true := by kernel_rfl
set_option maxRecDepth 100000 in
theorem str_cells : Tryd.prog.cellsOf 9 = 1 := by kernel_rfl
set_option maxRecDepth 100000 in
theorem byte_cells : Tryd.prog.cellsOf 5 = 1 := by kernel_rfl

section
variable {H : Type} {enc : TypeId × Value → H} {P : Program} {w : World} {base : Nat} {spare : Nat → Bool} {held : Bool}
set_option maxRecDepth 100000 in
theorem open_slice_fields {t e : TypeId} {fs : Array Field} {fuel : Nat} {cs : List Value} {x : DataW H × List MemPlace} (ht : P.underlying t = some (.slice e)) (he : P.underlying e = some (.struct fs))
    (hone : oneCellFields P fs = true) (hC : P.cellsOf e = fs.size) (h : DataW.trod enc P w base spare held fuel t cs = some x) :
    (cs = [.slice none 0 0] ∧ x = (.nil, [])) ∨
    ∃ (a : Addr) (len cap m : Nat) (D : Nat → DataW H) (Pl : Nat → List MemPlace), cs = [.slice (some a) len cap] ∧ base ≤ a.block ∧ len ≤ cap ∧ cap ≤ maxLen ∧ m = (if spare a.block then cap else len) ∧
      x = (.slice ((List.range len).map D) ((List.range (m - len)).map fun j => D (len + j)), MemPlace.row a (m * fs.size) ++ (List.range m).flatMap Pl) ∧
      ∀ i, i < m → ∃ (ys : List (DataW H × List MemPlace)) (n : Nat), D i = .agg (ys.map (·.1)) ∧ Pl i = ys.flatMap (·.2) ∧ ys.length = fs.size ∧
        ∀ (j : Nat) (f : Field), fs[j]? = some f → ∃ (v : Value) (y : DataW H × List MemPlace), w.cell? (a.add (i * fs.size + j)) = some v ∧ ys[j]? = some y ∧ DataW.trod enc P w base spare held n f.type [v] = some y := by
  rcases open_slice ht h with h0 | ⟨a, len, cap, m, n, D, Pl, hcs, hb, hl, hm, hmm, hx, hi⟩
  · exact .inl h0
  · refine .inr ⟨a, len, cap, m, D, Pl, hcs, hb, hl, hm, hmm, by rw [hC] at hx; exact hx, fun i him => ?_⟩
    obtain ⟨cs', hc, ht'⟩ := hi i him
    rw [hC] at hc
    obtain ⟨ys, n', hn', hy, hlen, hyl, hf⟩ := DataW.trod_struct he ht'
    obtain ⟨_, hcl, hat⟩ := World.cells?_some hc
    simp only [Prod.mk.injEq] at hy
    refine ⟨ys, n', hy.1, hy.2, hyl, fun j f hj => ?_⟩
    obtain ⟨ho, hk⟩ := hone_of hone j f hj
    have hjl : j < fs.size := (Array.getElem?_eq_some_iff.1 hj).1
    have hcell := hat j hjl
    have hv : cs'[j]? = some (cs'[j]'(by omega)) := List.getElem?_eq_getElem (by omega)
    have h1 := hf j f hj
    rw [ho, hk] at h1
    have hone' : (cs'.drop j).take 1 = [cs'[j]'(by omega)] := by
      rw [List.drop_eq_getElem_cons (by omega)]
      rfl
    rw [hone'] at h1
    have hys : ys[j]? = some (ys[j]'(by omega)) := List.getElem?_eq_getElem (by omega)
    refine ⟨_, _, ?_, hys, h1.trans hys⟩
    rw [← Go.Deep.add_add, hcell, hv]
end

set_option maxRecDepth 100000 in
theorem u16_nat {n : Int} (h : (Lit.int .u16 n).wf = true) : ∃ k : Nat, n = k ∧ k < 65536 := by
  have := bounds_u16 h
  exact ⟨n.toNat, by omega, by omega⟩

section
variable {H : Type} {enc : TypeId × Value → H} {W : World}
set_option maxRecDepth 100000 in
theorem bulk_sum (D : Nat → DataW H) (g : Nat → Nat) (l : List Nat) (h : ∀ i ∈ l, g i ≤ Rows.uptoBulk (D i)) : (l.map g).sum ≤ Rows.uptoBulkAll (l.map D) := by
  induction l with
  | nil => exact Nat.zero_le _
  | cons i l ih =>
    have h1 := h i (by simp)
    have h2 := ih (fun j hj => h j (by simp [hj]))
    simp only [List.map_cons, List.sum_cons, Rows.uptoBulkAll]
    omega
set_option maxRecDepth 100000 in
theorem sum_ge (l : List Nat) (g : Nat → Nat) (h : ∀ i ∈ l, 1 ≤ g i) : l.length ≤ (l.map g).sum := by
  induction l with
  | nil => exact Nat.zero_le _
  | cons i l ih =>
    have h1 := h i (by simp)
    have h2 := ih (fun j hj => h j (by simp [hj]))
    simp only [List.map_cons, List.sum_cons, List.length_cons]
    omega
set_option maxRecDepth 100000 in
/-- bytes -/
theorem open_bts {fuel : Nat} {v : Value} {x : DataW H × List MemPlace} (h : DataW.trod enc Tryd.prog W 0 (fun _ => true) true fuel 32 [v] = some x) :
    ∃ (A : Option Addr) (cap : Nat) (l : Bytes), v = .slice A l.length cap ∧ Bts W A l ∧ l.length ≤ cap ∧ (A = none → cap = 0) ∧ l.length ≤ maxLen ∧ l.length < Rows.uptoBulk x.1 := by
  rcases open_ints Tryd.underlying32 Tryd.underlying5 byte_cells h with ⟨hcs, hx⟩ | ⟨a, len, cap, zs, hcs, _, hl, hm, hmm, hx, hi, hw⟩
  · simp at hcs
    refine ⟨none, 0, [], hcs, (fun i hi => absurd hi (by simp)), Nat.le_refl _, (fun _ => rfl), Nat.zero_le _, ?_⟩
    rw [hx]; simp [Rows.uptoBulk]
  · simp at hcs
    have hlm : len ≤ zs.length := by rw [hmm]; split <;> omega
    have hle : ((zs.take len).map fun n => UInt8.ofNat n.toNat).length = len := by rw [List.length_map, List.length_take]; omega
    have hcell : ∀ i, (h : i < ((zs.take len).map fun n => UInt8.ofNat n.toNat).length) → W.cell? (a.add i) = some (.int .u8 ((((zs.take len).map fun n => UInt8.ofNat n.toNat)[i].toNat : Nat) : Int)) := fun i h2 => by
      have h3 : i < zs.length := by omega
      rw [hi i h3, List.getElem_map, List.getElem_take]
      have hb := bounds_u8 (hw zs[i] (List.getElem_mem h3))
      rw [UInt8.toNat_ofNat']
      simp only [List.getD_eq_getElem?_getD, List.getElem?_eq_getElem h3, Option.getD_some]
      congr 2
      omega
    refine ⟨some a, cap, (zs.take len).map fun n => UInt8.ofNat n.toNat, by rw [hle]; exact hcs, (fun i h2 => ⟨a, rfl, hcell i h2⟩), by rw [hle]; exact hl, (fun e => by cases e), by omega, ?_⟩
    · rw [hx, hle]
      simp only [Rows.uptoBulk]
      have h1 : ∀ l : List Int, l.length ≤ Rows.uptoBulkAll (H := H) (lits .u8 l) := fun l => by
        induction l with
        | nil => exact Nat.zero_le _
        | cons n l ih =>
          have e : (lits .u8 (n :: l) : List (DataW H)) = .lit (.int .u8 n) :: lits .u8 l := rfl
          rw [e]
          simp only [Rows.uptoBulkAll, Rows.uptoBulk, List.length_cons]
          omega
      have := h1 (zs.take len)
      rw [List.length_take] at this
      omega
set_option maxRecDepth 100000 in
/-- texts -/
theorem open_txs {fuel : Nat} {v : Value} {x : DataW H × List MemPlace} (h : DataW.trod enc Tryd.prog W 0 (fun _ => true) true fuel 23 [v] = some x) :
    ∃ (A : Option Addr) (cap : Nat) (l : List Bytes), v = .slice A l.length cap ∧ Texts W A (l.map bat) ∧ l.length ≤ cap ∧ (A = none → cap = 0) ∧ txL l < Rows.uptoBulk x.1 := by
  rcases open_strs Tryd.underlying23 Tryd.underlying9 str_cells h with ⟨hcs, hx⟩ | ⟨a, len, cap, m, Sx, hcs, _, hl, hm, hmm, hx, hcell⟩
  · simp at hcs
    refine ⟨none, 0, [], hcs, Texts.nil _ _, Nat.le_refl _, fun _ => rfl, ?_⟩
    rw [hx]; simp [Rows.uptoBulk, txL]
  · simp at hcs
    have hlm : len ≤ m := by rw [hmm]; split <;> omega
    refine ⟨some a, cap, (List.range len).map fun i => (Sx i).data.toList, by simpa using hcs, fun i hi => ⟨a, rfl, ?_⟩, by simpa using hl, (fun e => by cases e), ?_⟩
    · have hi' : i < len := by simpa using hi
      rw [(hcell i (by omega)).1]
      simp [bat]
    · rw [hx]
      simp only [Rows.uptoBulk]
      have := bulk_sum (fun i => DataW.lit (H := H) (.string (Sx i).data.toList)) (fun i => 1 + (Sx i).data.toList.length) (List.range len) (fun i _ => by simp only [Rows.uptoBulk]; omega)
      have e : txL ((List.range len).map fun i => (Sx i).data.toList) = ((List.range len).map fun i => 1 + (Sx i).data.toList.length).sum := by
        unfold txL
        rw [List.map_map]
        rfl
      rw [e]
      omega
def repFields : Array Field := #[{ name := "Kind", type := 3, offset := 0, embedded := false, tag := "", pkgPath := "", byteOffset := 0 }, { name := "Text", type := 9, offset := 1, embedded := false, tag := "", pkgPath := "", byteOffset := 8 }, { name := "N", type := 3, offset := 2, embedded := false, tag := "", pkgPath := "", byteOffset := 24 }, { name := "L", type := 23, offset := 3, embedded := false, tag := "", pkgPath := "", byteOffset := 32 }]
set_option maxRecDepth 100000 in
theorem rep_struct : Tryd.prog.underlying 25 = some (.struct repFields) := Tryd.underlying25
set_option maxRecDepth 100000 in
theorem rep_one : oneCellFields Tryd.prog repFields = true := by kernel_rfl
set_option maxRecDepth 100000 in
theorem rep_cells : Tryd.prog.cellsOf 25 = repFields.size := by kernel_rfl
set_option maxRecDepth 100000 in
/-- four fields that are read -/
theorem open_four (hTB : Tb W) {n : Nat} {v0 v1 v2 v3 : Value} {y0 y1 y2 y3 : DataW H × List MemPlace} (t0 : DataW.trod enc Tryd.prog W 0 (fun _ => true) true n 3 [v0] = some y0) (t1 : DataW.trod enc Tryd.prog W 0 (fun _ => true) true n 9 [v1] = some y1)
    (t2 : DataW.trod enc Tryd.prog W 0 (fun _ => true) true n 3 [v2] = some y2) (t3 : DataW.trod enc Tryd.prog W 0 (fun _ => true) true n 23 [v3] = some y3) :
    ∃ (x : Rep) (A : Option Addr) (cap : Nat), v0 = .int .i64 x.k ∧ v1 = .string (bat x.t) ∧ v2 = .int .i64 x.n ∧ v3 = .slice A x.l.length cap ∧ Rd4 W x A cap ∧ N64 x ∧ longR x ≤ Rows.uptoBulkAll [y0.1, y1.1, y2.1, y3.1] := by
  obtain ⟨k, e0, _⟩ := DataW.trod_int Tryd.underlying3 t0
  obtain ⟨s, e1, w1⟩ := DataW.trod_string Tryd.underlying9 t1
  obtain ⟨m, e2, w2⟩ := DataW.trod_int Tryd.underlying3 t2
  obtain ⟨A, cap, l, e3, hT, hC, hZ, hB⟩ := open_txs t3
  simp at e0 e1 e2
  have hb := bounds_i64 w2.2
  refine ⟨⟨k, s.data.toList, m, l⟩, A, cap, e0, by rw [e1], e2, e3, ⟨hT, hC, hZ, fun _ => hTB⟩, ⟨by show -9223372036854775808 ≤ m; omega, by show m ≤ 9223372036854775807; omega⟩, ?_⟩
  unfold longR
  rw [w1.1]
  simp only [Rows.uptoBulkAll, Rows.uptoBulk]
  have h4 : ∀ d : DataW H, 1 ≤ Rows.uptoBulk d := fun d => by
    cases d with
    | lit l => cases l <;> simp [Rows.uptoBulk]
    | _ => simp [Rows.uptoBulk]
  have := h4 y0.1
  have := h4 y2.1
  have h5 : txL l < Rows.uptoBulk y3.1 := hB
  omega
set_option maxRecDepth 100000 in
/-- an answer -/
theorem open_rep (hTB : Tb W) {r : Reach} {b0 : Nat} {v : Value} {d : DataW H} {p : List MemPlace} (hv : Value.okWide Tryd.prog W r b0 25 v)
    (h : DataW.Trod enc Tryd.prog W 0 (fun _ => true) true 25 v d p) : ∃ (x : Rep) (A : Option Addr) (cap : Nat), v = rv x A cap ∧ Rd4 W x A cap ∧ N64 x ∧ longR x ≤ Rows.uptoBulk d := by
  obtain ⟨v0, v1, v2, v3, y0, y1, y2, y3, n, rfl, rfl, _, t0, t1, t2, t3⟩ := open_agg4 Tryd.underlying25 (by kernel_rfl) (by kernel_rfl) hv h
  obtain ⟨x, A, cap, rfl, rfl, rfl, rfl, h1, h2, h3⟩ := open_four hTB t0 t1 t2 t3
  refine ⟨x, A, cap, rfl, h1, h2, ?_⟩
  simp only [Rows.uptoBulk]
  omega
set_option maxRecDepth 100000 in
/-- rows of answers -/
theorem open_reps (hTB : Tb W) {fuel : Nat} {v : Value} {x : DataW H × List MemPlace} (h : DataW.trod enc Tryd.prog W 0 (fun _ => true) true fuel 22 [v] = some x) :
    ∃ (A : Option Addr) (cap : Nat) (L : List Qe), v = .slice A L.length cap ∧ RdQ W A cap L ∧ (∀ y ∈ rs L, N64 y) ∧ longs (rs L) ≤ Rows.uptoBulk x.1 := by
  rcases open_slice_fields Tryd.underlying22 rep_struct rep_one rep_cells h with ⟨hcs, hx⟩ | ⟨a, len, cap, m, D, Pl, hcs, _, hl, hm, hmm, hx, hi⟩
  · simp at hcs
    refine ⟨none, 0, [], hcs, ⟨Reps.nil _ _, (fun y hy => by cases hy), Nat.le_refl _, (fun _ => rfl), fun y hy => by cases hy⟩, (fun y hy => by cases hy), Nat.zero_le _⟩
  · simp at hcs
    have hlm : len ≤ m := by rw [hmm]; split <;> omega
    have key : ∀ i : Fin len, ∃ e : Qe, (∀ j < 4, W.cell? (a.add (i.1 * 4 + j)) = (q4 e)[j]?) ∧ Rd4 W e.1 e.2.1 e.2.2 ∧ N64 e.1 ∧ longR e.1 ≤ Rows.uptoBulk (D i.1) := by
      intro i
      obtain ⟨ys, n, hD, _, hyl, hfl⟩ := hi i.1 (by omega)
      obtain ⟨v0, y0, c0, hy0, t0⟩ := hfl 0 _ rfl
      obtain ⟨v1, y1, c1, hy1, t1⟩ := hfl 1 _ rfl
      obtain ⟨v2, y2, c2, hy2, t2⟩ := hfl 2 _ rfl
      obtain ⟨v3, y3, c3, hy3, t3⟩ := hfl 3 _ rfl
      obtain ⟨x, A, cp, rfl, rfl, rfl, rfl, h1, h2, h3⟩ := open_four hTB t0 t1 t2 t3
      have hys : ys = [y0, y1, y2, y3] := by
        have h4 : ys.length = 4 := hyl
        match ys, h4 with
        | [z0, z1, z2, z3], _ =>
          simp at hy0 hy1 hy2 hy3
          rw [hy0, hy1, hy2, hy3]
      refine ⟨(x, A, cp), ?_, h1, h2, ?_⟩
      · intro j hj
        match j, hj with
        | 0, _ => exact c0
        | 1, _ => exact c1
        | 2, _ => exact c2
        | 3, _ => exact c3
      · rw [hD, hys]
        simp only [Rows.uptoBulk, List.map_cons, List.map_nil]
        show longR x ≤ _
        omega
    obtain ⟨f, hf⟩ := Classical.axiomOfChoice key
    refine ⟨some a, cap, List.ofFn f, by rw [List.length_ofFn]; exact hcs, ⟨fun i hi' => ?_, fun y hy => ?_, by rw [List.length_ofFn]; exact hl, (fun e => by cases e), fun _ _ _ => hTB⟩, fun y hy => ?_, ?_⟩
    · have hil : i < len := by simpa using hi'
      have e1 : (List.ofFn f)[i] = f ⟨i, hil⟩ := by simp
      rw [e1]
      exact ⟨a, rfl, (hf ⟨i, hil⟩).1⟩
    · obtain ⟨i, rfl⟩ := List.mem_ofFn.1 hy
      exact ⟨(hf i).2.1.txs, (hf i).2.1.le, (hf i).2.1.nil⟩
    · obtain ⟨q, hq, rfl⟩ := List.mem_map.1 hy
      obtain ⟨i, rfl⟩ := List.mem_ofFn.1 hq
      exact (hf i).2.2.1
    · rw [hx]
      simp only [Rows.uptoBulk]
      have h1 : ∀ k, k ≤ len → longs (rs ((List.ofFn f).take k)) ≤ Rows.uptoBulkAll ((List.range k).map D) := fun k => by
        induction k with
        | zero => intro _; simp [longs]
        | succ k ih =>
          intro hk
          have h2 := ih (by omega)
          have hkl : k < (List.ofFn f).length := by rw [List.length_ofFn]; omega
          have h3 := (hf ⟨k, by omega⟩).2.2.2
          rw [rs_succ hkl, longs_snoc, List.getElem_ofFn, List.range_succ, List.map_append]
          have e4 : ∀ (p : List (DataW H)) (d : DataW H), Rows.uptoBulkAll (p ++ [d]) = Rows.uptoBulkAll p + Rows.uptoBulk d := fun p d => by
            induction p with
            | nil => simp [Rows.uptoBulkAll]
            | cons e p ih => simp only [List.cons_append, Rows.uptoBulkAll, ih]; omega
          rw [List.map_singleton, e4]
          simp only at h3
          omega
      have h5 := h1 len (Nat.le_refl _)
      rw [List.take_of_length_le (by rw [List.length_ofFn]; omega)] at h5
      omega
end
end Go.Proofs.YtflmolhkbpicbaaDoor.Ry
