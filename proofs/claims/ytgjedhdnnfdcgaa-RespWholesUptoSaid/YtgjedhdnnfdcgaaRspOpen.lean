/-
  Bytes, rows of bytes, texts, and rows of texts among the arguments, opened; what their bulk gives.
-/
import Derived.Test.YtgjedhdnnfdcgaaRspFed
import Derived.ProofKit
import Derived.OpenShut
import Derived.ShutString
import Derived.ChangeSlices
import Derived.IntWalk
import Derived.Carry
import Derived.JoinedCond
import Derived.Deep.Slices
import Derived.Deep.Strs
namespace Go.Proofs.Ytgjedhdnnfdcgaa.Rp
open Go.ChangeShapes Go.WideShapes Go.ChangeAt Go.RowKit Go.Deep

theorem knob : ownKnob Try.prog.godebug = none := by kernel_rfl
theorem laidOut : laidOutB Try.prog = true := by kernel_rfl
theorem str_cells : Try.prog.cellsOf 9 = 1 := by kernel_rfl
theorem byte_cells : Try.prog.cellsOf 5 = 1 := by kernel_rfl
theorem bts_cells : Try.prog.cellsOf 23 = 1 := by kernel_rfl
theorem txs_cells : Try.prog.cellsOf 36 = 1 := by kernel_rfl
theorem u16_nat {n : Int} (h : (Lit.int .u16 n).wf = true) : ∃ k : Nat, n = k ∧ k < 65536 := by
  have := bounds_u16 h
  exact ⟨n.toNat, by omega, by omega⟩
theorem u8_byte {n : Int} (h : (Lit.int .u8 n).wf = true) : ∃ c : UInt8, n = (c.toNat : Int) := by
  have := bounds_u8 h
  exact ⟨UInt8.ofNat n.toNat, by rw [UInt8.toNat_ofNat']; omega⟩

section
variable {H : Type} {enc : TypeId × Value → H} {W : World}
theorem bulk_sum (D : Nat → DataW H) (g : Nat → Nat) (l : List Nat) (h : ∀ i ∈ l, g i ≤ Rows.uptoBulk (D i)) : (l.map g).sum ≤ Rows.uptoBulkAll (l.map D) := by
  induction l with
  | nil => exact Nat.zero_le _
  | cons i l ih =>
    have h1 := h i (by simp)
    have h2 := ih (fun j hj => h j (by simp [hj]))
    simp only [List.map_cons, List.sum_cons, Rows.uptoBulkAll]
    omega
theorem sum_ge (l : List Nat) (g : Nat → Nat) (h : ∀ i ∈ l, 1 ≤ g i) : l.length ≤ (l.map g).sum := by
  induction l with
  | nil => exact Nat.zero_le _
  | cons i l ih =>
    have h1 := h i (by simp)
    have h2 := ih (fun j hj => h j (by simp [hj]))
    simp only [List.map_cons, List.sum_cons, List.length_cons]
    omega
/-- bytes -/
theorem open_bts {fuel : Nat} {v : Value} {x : DataW H × List MemPlace} (h : DataW.trod enc Try.prog W 0 (fun _ => true) true fuel 23 [v] = some x) :
    ∃ (A : Option Addr) (cap : Nat) (l : Bytes), v = .slice A l.length cap ∧ BS (fun b => b < W.heap.size) W A cap l ∧ l.length ≤ maxLen ∧ l.length < Rows.uptoBulk x.1 := by
  rcases open_ints Try.underlying23 Try.underlying5 byte_cells h with ⟨hcs, hx⟩ | ⟨a, len, cap, zs, hcs, _, hl, hm, hmm, hx, hi, hw⟩
  · simp at hcs
    refine ⟨none, 0, [], hcs, ⟨fun i hi => absurd hi (by simp), Nat.le_refl _, (fun _ => rfl), (fun a e => by cases e)⟩, Nat.zero_le _, ?_⟩
    rw [hx]; simp [Rows.uptoBulk]
  · simp at hcs
    have hlm : len ≤ zs.length := by rw [hmm]; split <;> omega
    have hle : ((zs.take len).map fun n => UInt8.ofNat n.toNat).length = len := by rw [List.length_map, List.length_take]; omega
    have hcell : ∀ i, (h : i < ((zs.take len).map fun n => UInt8.ofNat n.toNat).length) → W.cell? (a.add i) = some (.int .u8 ((((zs.take len).map fun n => UInt8.ofNat n.toNat)[i].toNat : Nat) : Int)) := fun i h2 => by
      have h3 : i < zs.length := by omega
      rw [hi i h3, List.getElem_map, List.getElem_take]
      have hb := bounds_u8 (hw zs[i] (List.getElem_mem h3))
      rw [UInt8.toNat_ofNat']
      simp only [List.getD_eq_getElem?_getD, List.getElem?_eq_getElem h3, Option.getD_some]
      congr 2
      omega
    refine ⟨some a, cap, (zs.take len).map fun n => UInt8.ofNat n.toNat, by rw [hle]; exact hcs, ?_, by omega, ?_⟩
    · refine ⟨fun i h2 => ⟨a, rfl, hcell i h2⟩, by rw [hle]; exact hl, (fun e => by cases e), fun a' e hne => ?_⟩
      injection e with e
      subst e
      have h0 : 0 < ((zs.take len).map fun n => UInt8.ofNat n.toNat).length := List.length_pos_iff.2 hne
      have := World.block_lt_of_cell? W _ (hcell 0 h0)
      rwa [add_blk] at this
    · rw [hx, hle]
      simp only [Rows.uptoBulk]
      have h1 : ∀ l : List Int, l.length ≤ Rows.uptoBulkAll (H := H) (lits .u8 l) := fun l => by
        induction l with
        | nil => exact Nat.zero_le _
        | cons n l ih =>
          have e : (lits .u8 (n :: l) : List (DataW H)) = .lit (.int .u8 n) :: lits .u8 l := rfl
          rw [e]
          simp only [Rows.uptoBulkAll, Rows.uptoBulk, List.length_cons]
          omega
      have := h1 (zs.take len)
      rw [List.length_take] at this
      omega
/-- texts -/
theorem open_txs {fuel : Nat} {v : Value} {x : DataW H × List MemPlace} (h : DataW.trod enc Try.prog W 0 (fun _ => true) true fuel 36 [v] = some x) :
    ∃ (A : Option Addr) (cap : Nat) (l : List Bytes), v = .slice A l.length cap ∧ Texts W A (l.map bat) ∧ l.length ≤ cap ∧ (A = none → cap = 0) ∧ longA l < Rows.uptoBulk x.1 := by
  rcases open_strs Try.underlying36 Try.underlying9 str_cells h with ⟨hcs, hx⟩ | ⟨a, len, cap, m, Sx, hcs, _, hl, hm, hmm, hx, hcell⟩
  · simp at hcs
    refine ⟨none, 0, [], hcs, Texts.nil _ _, Nat.le_refl _, fun _ => rfl, ?_⟩
    rw [hx]; simp [Rows.uptoBulk, longA]
  · simp at hcs
    have hlm : len ≤ m := by rw [hmm]; split <;> omega
    refine ⟨some a, cap, (List.range len).map fun i => (Sx i).data.toList, by simpa using hcs, fun i hi => ⟨a, rfl, ?_⟩, by simpa using hl, (fun e => by cases e), ?_⟩
    · have hi' : i < len := by simpa using hi
      rw [(hcell i (by omega)).1]
      simp [bat]
    · rw [hx]
      simp only [Rows.uptoBulk]
      have := bulk_sum (fun i => DataW.lit (H := H) (.string (Sx i).data.toList)) (fun i => 1 + (Sx i).data.toList.length) (List.range len) (fun i _ => by simp only [Rows.uptoBulk]; omega)
      have e : longA ((List.range len).map fun i => (Sx i).data.toList) = ((List.range len).map fun i => 1 + (Sx i).data.toList.length).sum := by
        unfold longA
        rw [List.map_map]
        rfl
      rw [e]
      omega
/-- rows of bytes -/
theorem open_brows {fuel : Nat} {v : Value} {x : DataW H × List MemPlace} (h : DataW.trod enc Try.prog W 0 (fun _ => true) true fuel 22 [v] = some x) :
    ∃ (A : Option Addr) (cap : Nat) (l : List Bytes), v = .slice A l.length cap ∧ BRows (fun b => b < W.heap.size) W A l ∧ l.length ≤ cap ∧ l.length + l.flatten.length ≤ Rows.uptoBulk x.1 := by
  rcases open_slice Try.underlying22 h with ⟨hcs, hx⟩ | ⟨a, len, cap, m, n, D, Pl, hcs, hb, hl, hm, hmm, hx, hi⟩
  · simp at hcs
    exact ⟨none, 0, [], hcs, fun i hi => absurd hi (by simp), Nat.le_refl _, by simp⟩
  · simp at hcs
    have hlm : len ≤ m := by rw [hmm]; split <;> omega
    have key : ∀ i : Fin len, ∃ l : Bytes, (∃ A cap, W.cell? (a.add i.1) = some (.slice A l.length cap) ∧ BS (fun b => b < W.heap.size) W A cap l) ∧ l.length < Rows.uptoBulk (D i.1) := fun i => by
      obtain ⟨cs', hc, ht⟩ := hi i.1 (by omega)
      rw [bts_cells, Nat.mul_one] at hc
      obtain ⟨_, hcl, hat⟩ := World.cells?_some hc
      match cs', hcl, hat, ht with
      | [v0], _, hat, ht =>
        obtain ⟨A, cap, l, e, hB, _, hz⟩ := open_bts ht
        have h0 := hat 0 (by simp)
        refine ⟨l, ⟨A, cap, ?_, hB⟩, hz⟩
        rw [← e]
        simpa [Addr.add] using h0
    obtain ⟨f, hf⟩ := Classical.axiomOfChoice key
    refine ⟨some a, cap, List.ofFn f, by rw [List.length_ofFn]; exact hcs, fun i hi' => ?_, by rw [List.length_ofFn]; exact hl, ?_⟩
    · have hil : i < len := by simpa using hi'
      obtain ⟨⟨A, cp, hc, hB⟩, _⟩ := hf ⟨i, hil⟩
      have e1 : (List.ofFn f)[i] = f ⟨i, hil⟩ := by simp
      rw [e1]
      have hblk := World.block_lt_of_cell? W _ hc
      rw [add_blk] at hblk
      exact ⟨a, rfl, hblk, A, cp, hc, hB⟩
    · rw [hx, List.length_ofFn]
      simp only [Rows.uptoBulk]
      have h1 : ∀ k, k ≤ len → k + ((List.ofFn f).take k).flatten.length ≤ Rows.uptoBulkAll ((List.range k).map D) := fun k => by
        induction k with
        | zero => intro _; simp
        | succ k ih =>
          intro hk
          have h2 := ih (by omega)
          have hkl : k < (List.ofFn f).length := by rw [List.length_ofFn]; omega
          have h3 := (hf ⟨k, by omega⟩).2
          rw [flat_take hkl, List.length_append, List.getElem_ofFn, List.range_succ, List.map_append]
          have e4 : ∀ (p : List (DataW H)) (d : DataW H), Rows.uptoBulkAll (p ++ [d]) = Rows.uptoBulkAll p + Rows.uptoBulk d := fun p d => by
            induction p with
            | nil => simp [Rows.uptoBulkAll]
            | cons e p ih => simp only [List.cons_append, Rows.uptoBulkAll, ih]; omega
          rw [List.map_singleton, e4]
          simp only at h3
          omega
      have h5 := h1 len (Nat.le_refl _)
      rw [List.take_of_length_le (by rw [List.length_ofFn]; omega)] at h5
      omega
/-- rows of texts -/
theorem open_trows {fuel : Nat} {v : Value} {x : DataW H × List MemPlace} (h : DataW.trod enc Try.prog W 0 (fun _ => true) true fuel 27 [v] = some x) :
    ∃ (A : Option Addr) (cap : Nat) (l : List (List Bytes)), v = .slice A l.length cap ∧ Rows W A l ∧ l.length ≤ cap ∧ l.length + sumA l ≤ Rows.uptoBulk x.1 := by
  rcases open_slice Try.underlying27 h with ⟨hcs, hx⟩ | ⟨a, len, cap, m, n, D, Pl, hcs, hb, hl, hm, hmm, hx, hi⟩
  · simp at hcs
    exact ⟨none, 0, [], hcs, fun i hi => absurd hi (by simp), Nat.le_refl _, by simp [sumA]⟩
  · simp at hcs
    have hlm : len ≤ m := by rw [hmm]; split <;> omega
    have key : ∀ i : Fin len, ∃ l : List Bytes, (∃ A cap, W.cell? (a.add i.1) = some (.slice A l.length cap) ∧ Texts W A (l.map bat) ∧ l.length ≤ cap ∧ (A = none → cap = 0)) ∧ longA l < Rows.uptoBulk (D i.1) := fun i => by
      obtain ⟨cs', hc, ht⟩ := hi i.1 (by omega)
      rw [txs_cells, Nat.mul_one] at hc
      obtain ⟨_, hcl, hat⟩ := World.cells?_some hc
      match cs', hcl, hat, ht with
      | [v0], _, hat, ht =>
        obtain ⟨A, cap, l, e, hB, h5, h6, hz⟩ := open_txs ht
        have h0 := hat 0 (by simp)
        refine ⟨l, ⟨A, cap, ?_, hB, h5, h6⟩, hz⟩
        rw [← e]
        simpa [Addr.add] using h0
    obtain ⟨f, hf⟩ := Classical.axiomOfChoice key
    refine ⟨some a, cap, List.ofFn f, by rw [List.length_ofFn]; exact hcs, fun i hi' => ?_, by rw [List.length_ofFn]; exact hl, ?_⟩
    · have hil : i < len := by simpa using hi'
      obtain ⟨⟨A, cp, hc, hB⟩, _⟩ := hf ⟨i, hil⟩
      have e1 : (List.ofFn f)[i] = f ⟨i, hil⟩ := by simp
      rw [e1]
      exact ⟨a, rfl, A, cp, hc, hB⟩
    · rw [hx, List.length_ofFn]
      simp only [Rows.uptoBulk]
      have h1 : ∀ k, k ≤ len → k + sumA ((List.ofFn f).take k) ≤ Rows.uptoBulkAll ((List.range k).map D) := fun k => by
        induction k with
        | zero => intro _; simp [sumA]
        | succ k ih =>
          intro hk
          have h2 := ih (by omega)
          have hkl : k < (List.ofFn f).length := by rw [List.length_ofFn]; omega
          have h3 := (hf ⟨k, by omega⟩).2
          rw [List.take_succ_eq_append_getElem hkl, sumA_snoc, List.getElem_ofFn, List.range_succ, List.map_append]
          have e4 : ∀ (p : List (DataW H)) (d : DataW H), Rows.uptoBulkAll (p ++ [d]) = Rows.uptoBulkAll p + Rows.uptoBulk d := fun p d => by
            induction p with
            | nil => simp [Rows.uptoBulkAll]
            | cons e p ih => simp only [List.cons_append, Rows.uptoBulkAll, ih]; omega
          rw [List.map_singleton, e4]
          simp only at h3
          omega
      have h5 := h1 len (Nat.le_refl _)
      rw [List.take_of_length_le (by rw [List.length_ofFn]; omega)] at h5
      omega
end
end Go.Proofs.Ytgjedhdnnfdcgaa.Rp
