/-
  Rows of things to do, and of limits, among the arguments, opened; what their bulk gives. (open_slice_fields: the guide's own plain theorem, extra-structs, 1.)
-/
import Derived.Test.YtplinlgafgfepaaLedOwn
import Derived.ProofKit
import Derived.OpenShut
import Derived.ShutString
import Derived.ChangeSlices
import Derived.IntWalk
import Derived.Carry
import Derived.JoinedCond
import Derived.Deep.Slices
import Derived.Deep.Fields
import Derived.ChangeSame
import Derived.Lib.SmallJoins
namespace Go.Proofs.Ytplinlgafgfepaa.Ld
open Go.Joins Go.ChangeShapes Go.WideShapes Go.ChangeAt Go.RowKit Go.Deep

theorem knob : ownKnob Try.prog.godebug = none := by kernel_rfl
theorem laidOut : laidOutB Try.prog = true := by kernel_rfl

section
variable {H : Type} {enc : TypeId × Value → H} {P : Program} {w : World} {base : Nat} {spare : Nat → Bool} {held : Bool}
theorem open_slice_fields {t e : TypeId} {fs : Array Field} {fuel : Nat} {cs : List Value} {x : DataW H × List MemPlace} (ht : P.underlying t = some (.slice e)) (he : P.underlying e = some (.struct fs))
    (hone : oneCellFields P fs = true) (hC : P.cellsOf e = fs.size) (h : DataW.trod enc P w base spare held fuel t cs = some x) :
    (cs = [.slice none 0 0] ∧ x = (.nil, [])) ∨
    ∃ (a : Addr) (len cap m : Nat) (D : Nat → DataW H) (Pl : Nat → List MemPlace), cs = [.slice (some a) len cap] ∧ base ≤ a.block ∧ len ≤ cap ∧ cap ≤ maxLen ∧ m = (if spare a.block then cap else len) ∧
      x = (.slice ((List.range len).map D) ((List.range (m - len)).map fun j => D (len + j)), MemPlace.row a (m * fs.size) ++ (List.range m).flatMap Pl) ∧
      ∀ i, i < m → ∃ (ys : List (DataW H × List MemPlace)) (n : Nat), D i = .agg (ys.map (·.1)) ∧ Pl i = ys.flatMap (·.2) ∧ ys.length = fs.size ∧
        ∀ (j : Nat) (f : Field), fs[j]? = some f → ∃ (v : Value) (y : DataW H × List MemPlace), w.cell? (a.add (i * fs.size + j)) = some v ∧ ys[j]? = some y ∧ DataW.trod enc P w base spare held n f.type [v] = some y := by
  rcases open_slice ht h with h0 | ⟨a, len, cap, m, n, D, Pl, hcs, hb, hl, hm, hmm, hx, hi⟩
  · exact .inl h0
  · refine .inr ⟨a, len, cap, m, D, Pl, hcs, hb, hl, hm, hmm, by rw [hC] at hx; exact hx, fun i him => ?_⟩
    obtain ⟨cs', hc, ht'⟩ := hi i him
    rw [hC] at hc
    obtain ⟨ys, n', hn', hy, hlen, hyl, hf⟩ := DataW.trod_struct he ht'
    obtain ⟨_, hcl, hat⟩ := World.cells?_some hc
    simp only [Prod.mk.injEq] at hy
    refine ⟨ys, n', hy.1, hy.2, hyl, fun j f hj => ?_⟩
    obtain ⟨ho, hk⟩ := hone_of hone j f hj
    have hjl : j < fs.size := (Array.getElem?_eq_some_iff.1 hj).1
    have hcell := hat j hjl
    have hv : cs'[j]? = some (cs'[j]'(by omega)) := List.getElem?_eq_getElem (by omega)
    have h1 := hf j f hj
    rw [ho, hk] at h1
    have hone' : (cs'.drop j).take 1 = [cs'[j]'(by omega)] := by
      rw [List.drop_eq_getElem_cons (by omega)]
      rfl
    rw [hone'] at h1
    have hys : ys[j]? = some (ys[j]'(by omega)) := List.getElem?_eq_getElem (by omega)
    refine ⟨_, _, ?_, hys, h1.trans hys⟩
    rw [← Go.Deep.add_add, hcell, hv]
end

theorem i64_bounds {n : Int} (h : (Lit.int .i64 n).wf = true) : -9223372036854775808 ≤ n ∧ n < 9223372036854775808 := by
  have := bounds_i64 h
  omega
theorem u32_bounds {n : Int} (h : (Lit.int .u32 n).wf = true) : 0 ≤ n ∧ n < 4294967296 := by
  have := bounds_u32 h
  omega
theorem u16_nat {n : Int} (h : (Lit.int .u16 n).wf = true) : ∃ k : Nat, n = k ∧ k < 65536 := by
  have := bounds_u16 h
  exact ⟨n.toNat, by omega, by omega⟩

section
variable {H : Type} {enc : TypeId × Value → H} {W : World}
theorem bulk_pos (d : DataW H) : 1 ≤ Rows.uptoBulk d := by
  cases d with
  | lit l => cases l <;> simp [Rows.uptoBulk]
  | _ => simp [Rows.uptoBulk]
theorem bulk_len (l : List (DataW H)) : l.length ≤ Rows.uptoBulkAll l := by
  induction l with
  | nil => exact Nat.zero_le _
  | cons d l ih =>
    have := bulk_pos d
    simp only [Rows.uptoBulkAll, List.length_cons]
    omega
theorem bulk_mem {l : List (DataW H)} {d : DataW H} (h : d ∈ l) : Rows.uptoBulk d ≤ Rows.uptoBulkAll l := by
  induction l with
  | nil => simp at h
  | cons e l ih =>
    simp only [Rows.uptoBulkAll]
    rcases List.mem_cons.1 h with rfl | h
    · omega
    · have := ih h; omega
theorem lim_cells : Try.prog.cellsOf 58 = 8 := by kernel_rfl
theorem pol_cells : Try.prog.cellsOf 56 = 6 := by kernel_rfl
theorem int_cells : Try.prog.cellsOf 3 = 1 := by kernel_rfl
theorem str_cells : Try.prog.cellsOf 9 = 1 := by kernel_rfl
theorem bool_cells : Try.prog.cellsOf 4 = 1 := by kernel_rfl

theorem open_pol {fuel : Nat} {cs : List Value} {x : DataW H × List MemPlace} (h : DataW.trod enc Try.prog W 0 (fun _ => true) true fuel 56 cs = some x) :
    ∃ p : Pl, cs = [.int .i64 p.1, .int .i64 p.2.1, .int .i64 p.2.2.1, .int .i64 p.2.2.2.1, .int .i64 p.2.2.2.2.1, .bool p.2.2.2.2.2] := by
  obtain ⟨ys, n, _, _, hl, hyl, hf⟩ := DataW.trod_struct Try.underlying56 h
  rw [pol_cells] at hl
  rcases cs with _ | ⟨c0, _ | ⟨c1, _ | ⟨c2, _ | ⟨c3, _ | ⟨c4, _ | ⟨c5, _ | ⟨c6, cs⟩⟩⟩⟩⟩⟩⟩ <;> simp at hl
  have hy : ys.length = 6 := hyl
  have g0 : DataW.trod enc Try.prog W 0 (fun _ => true) true n 3 (([c0, c1, c2, c3, c4, c5].drop 0).take (Try.prog.cellsOf 3)) = ys[0]? := hf 0 _ rfl
  have g1 : DataW.trod enc Try.prog W 0 (fun _ => true) true n 3 (([c0, c1, c2, c3, c4, c5].drop 1).take (Try.prog.cellsOf 3)) = ys[1]? := hf 1 _ rfl
  have g2 : DataW.trod enc Try.prog W 0 (fun _ => true) true n 3 (([c0, c1, c2, c3, c4, c5].drop 2).take (Try.prog.cellsOf 3)) = ys[2]? := hf 2 _ rfl
  have g3 : DataW.trod enc Try.prog W 0 (fun _ => true) true n 3 (([c0, c1, c2, c3, c4, c5].drop 3).take (Try.prog.cellsOf 3)) = ys[3]? := hf 3 _ rfl
  have g4 : DataW.trod enc Try.prog W 0 (fun _ => true) true n 3 (([c0, c1, c2, c3, c4, c5].drop 4).take (Try.prog.cellsOf 3)) = ys[4]? := hf 4 _ rfl
  have g5 : DataW.trod enc Try.prog W 0 (fun _ => true) true n 4 (([c0, c1, c2, c3, c4, c5].drop 5).take (Try.prog.cellsOf 4)) = ys[5]? := hf 5 _ rfl
  rw [int_cells] at g0 g1 g2 g3 g4
  rw [bool_cells] at g5
  rw [List.getElem?_eq_getElem (by omega)] at g0 g1 g2 g3 g4 g5
  obtain ⟨n0, e0, _⟩ := DataW.trod_int Try.underlying3 g0
  obtain ⟨n1, e1, _⟩ := DataW.trod_int Try.underlying3 g1
  obtain ⟨n2, e2, _⟩ := DataW.trod_int Try.underlying3 g2
  obtain ⟨n3, e3, _⟩ := DataW.trod_int Try.underlying3 g3
  obtain ⟨n4, e4, _⟩ := DataW.trod_int Try.underlying3 g4
  obtain ⟨b5, e5, _⟩ := DataW.trod_bool Try.underlying4 g5
  simp at e0 e1 e2 e3 e4 e5
  exact ⟨(n0, n1, n2, n3, n4, b5), by rw [e0, e1, e2, e3, e4, e5]⟩
theorem open_limit {fuel : Nat} {cs : List Value} {x : DataW H × List MemPlace} (h : DataW.trod enc Try.prog W 0 (fun _ => true) true fuel 58 cs = some x) : ∃ x : Lim, cs = lcells x := by
  obtain ⟨ys, n, _, _, hl, hyl, hf⟩ := DataW.trod_struct Try.underlying58 h
  rw [lim_cells] at hl
  rcases cs with _ | ⟨c0, _ | ⟨c1, _ | ⟨c2, _ | ⟨c3, _ | ⟨c4, _ | ⟨c5, _ | ⟨c6, _ | ⟨c7, _ | ⟨c8, cs⟩⟩⟩⟩⟩⟩⟩⟩⟩ <;> simp at hl
  have hy : ys.length = 3 := hyl
  have g0 : DataW.trod enc Try.prog W 0 (fun _ => true) true n 9 (([c0, c1, c2, c3, c4, c5, c6, c7].drop 0).take (Try.prog.cellsOf 9)) = ys[0]? := hf 0 _ rfl
  have g1 : DataW.trod enc Try.prog W 0 (fun _ => true) true n 56 (([c0, c1, c2, c3, c4, c5, c6, c7].drop 1).take (Try.prog.cellsOf 56)) = ys[1]? := hf 1 _ rfl
  have g2 : DataW.trod enc Try.prog W 0 (fun _ => true) true n 3 (([c0, c1, c2, c3, c4, c5, c6, c7].drop 7).take (Try.prog.cellsOf 3)) = ys[2]? := hf 2 _ rfl
  rw [str_cells] at g0
  rw [pol_cells] at g1
  rw [int_cells] at g2
  rw [List.getElem?_eq_getElem (by omega)] at g0 g1 g2
  obtain ⟨t0, e0, _⟩ := DataW.trod_string Try.underlying9 g0
  obtain ⟨p, e1⟩ := open_pol g1
  obtain ⟨n2, e2, _⟩ := DataW.trod_int Try.underlying3 g2
  simp at e0 e1 e2
  obtain ⟨e11, e12, e13, e14, e15, e16⟩ := e1
  exact ⟨(t0, p, n2), by rw [e0, e2, e11, e12, e13, e14, e15, e16]; rfl⟩
/-- a slice of limits that is read has so many limits, and no more than its bulk -/
theorem open_lims {fuel : Nat} {v : Value} {x : DataW H × List MemPlace} (h : DataW.trod enc Try.prog W 0 (fun _ => true) true fuel 32 [v] = some x) :
    ∃ (A : Option Addr) (cap : Nat) (l : List Lim), v = .slice A l.length cap ∧ (A = none → cap = 0) ∧ Lims (fun b => b < W.heap.size) W A l ∧ l.length ≤ Rows.uptoBulk x.1 := by
  rcases open_slice Try.underlying32 h with ⟨hcs, hx⟩ | ⟨a, len, cap, m, n, D, Pl, hcs, hb, hl, hm, hmm, hx, hi⟩
  · simp at hcs
    exact ⟨none, 0, [], hcs, fun _ => rfl, Lims.nil _ _ _, Nat.zero_le _⟩
  · simp at hcs
    have hlm : len ≤ m := by rw [hmm]; split <;> omega
    have key : ∀ i : Fin len, ∃ y : Lim, W.cells? 0 (a.add (i.1 * 8)) 8 = some (lcells y) := fun i => by
      obtain ⟨cs', hc, ht⟩ := hi i.1 (by omega)
      rw [lim_cells] at hc
      obtain ⟨y, e⟩ := open_limit ht
      exact ⟨y, by rw [← e]; exact hc⟩
    obtain ⟨f, hf⟩ := Classical.axiomOfChoice key
    refine ⟨some a, cap, List.ofFn f, by rw [List.length_ofFn]; exact hcs, (by intro e; cases e), fun i hi' => ?_, ?_⟩
    · have hil : i < len := by simpa using hi'
      obtain ⟨_, hcl, hat⟩ := World.cells?_some (hf ⟨i, hil⟩)
      have h0 := hat 0 (by omega)
      have hblk : a.block < W.heap.size := by
        have h1 : W.cell? ((a.add (i * 8)).add 0) = some (lcells (f ⟨i, hil⟩))[0] := by rw [h0]; rfl
        have := World.block_lt_of_cell? W _ h1
        rw [add_blk, add_blk] at this
        exact this
      refine ⟨a, rfl, hblk, fun j u hu => ?_⟩
      have e1 : (List.ofFn f)[i] = f ⟨i, hil⟩ := by simp
      rw [e1] at hu
      rw [← Go.Deep.add_add, hat j (lcells_lt hu)]
      exact hu
    · rw [hx, List.length_ofFn]
      simp only [Rows.uptoBulk]
      have := bulk_len ((List.range len).map D)
      rw [List.length_map, List.length_range] at this
      omega
theorem open_row {a0 : Option Addr} {len cap : Nat} {d : DataW H} {p : List MemPlace} (h : DataW.Trod enc Try.prog W 0 (fun _ => true) true 32 (.slice a0 len cap) d p) :
    ∃ l : List Lim, l.length = len ∧ (a0 = none → cap = 0) ∧ Lims (fun b => b < W.heap.size) W a0 l ∧ l.length ≤ Rows.uptoBulk d := by
  obtain ⟨fuel, hf⟩ := h
  obtain ⟨A, cp, l, e, h1, h2, h3⟩ := open_lims (v := .slice a0 len cap) hf
  injection e with e1 e2 e3
  subst e1 e3
  exact ⟨l, e2.symm, h1, h2, h3⟩

def doFields : Array Field := #[{ name := "Kind", type := 3, offset := 0, embedded := false, tag := "", pkgPath := "", byteOffset := 0 }, { name := "N", type := 3, offset := 1, embedded := false, tag := "", pkgPath := "", byteOffset := 8 }, { name := "X", type := 32, offset := 2, embedded := false, tag := "", pkgPath := "", byteOffset := 16 }]
theorem do_struct : Try.prog.underlying 34 = some (.struct doFields) := Try.underlying34
theorem do_one : oneCellFields Try.prog doFields = true := by kernel_rfl
theorem do_cells : Try.prog.cellsOf 34 = doFields.size := by kernel_rfl

theorem open_dos {a0 : Option Addr} {len cap : Nat} {d : DataW H} {p : List MemPlace}
    (h : DataW.Trod enc Try.prog W 0 (fun _ => true) true 22 (.slice a0 len cap) d p) (hd : Rows.uptoBulk d ≤ 1048576) : ∃ L : List Dow, L.length = len ∧ Dos (fun b => b < W.heap.size) W a0 L ∧ Fits L ∧ len ≤ 1048576 := by
  obtain ⟨fuel, hf⟩ := h
  rcases open_slice_fields Try.underlying22 do_struct do_one do_cells hf with ⟨hcs, hx⟩ | ⟨a, len', cap', m, D, Pl, hcs, _, hl, hm, hmm, hx, hi⟩
  · simp [Value.cells] at hcs
    obtain ⟨rfl, rfl, rfl⟩ := hcs
    exact ⟨[], rfl, fun i hi => absurd hi (by simp), fun d hd => by simp at hd, Nat.zero_le _⟩
  · simp [Value.cells] at hcs
    obtain ⟨rfl, rfl, rfl⟩ := hcs
    simp only [Prod.mk.injEq] at hx
    rw [hx.1] at hd
    simp only [Rows.uptoBulk] at hd
    have hlm : len ≤ m := by rw [hmm]; split <;> omega
    have hblen := bulk_len ((List.range len).map D)
    rw [List.length_map, List.length_range] at hblen
    have key : ∀ i : Fin len, ∃ e : Dow, W.cell? (a.add (i.1 * 3)) = some (.int .i64 e.1) ∧ W.cell? ⟨(a.add (i.1 * 3)).block, (a.add (i.1 * 3)).off + 1, none⟩ = some (.int .i64 e.2.1) ∧
        (∃ A' cap, (A' = none → cap = 0) ∧ W.cell? ⟨(a.add (i.1 * 3)).block, (a.add (i.1 * 3)).off + 2, none⟩ = some (.slice A' e.2.2.length cap) ∧ Lims (fun b => b < W.heap.size) W A' e.2.2) ∧ I64 e.2.1 ∧ e.2.2.length ≤ 1048576 := by
      intro i
      obtain ⟨ys, n, hD, _, hyl, hfl⟩ := hi i.1 (by omega)
      obtain ⟨v0, y0, c0, _, t0⟩ := hfl 0 _ rfl
      obtain ⟨v1, y1, c1, _, t1⟩ := hfl 1 _ rfl
      obtain ⟨v2, y2, c2, hy2, t2⟩ := hfl 2 _ rfl
      obtain ⟨k, e0, _⟩ := DataW.trod_int Try.underlying3 t0
      obtain ⟨c, e1, w1⟩ := DataW.trod_int Try.underlying3 t1
      obtain ⟨A', cap2, l, e2, hz, hlm2, hlb⟩ := open_lims t2
      simp at e0 e1
      subst e0 e1 e2
      have hmem : y2.1 ∈ ys.map (·.1) := List.mem_map.2 ⟨y2, List.mem_of_getElem? hy2, rfl⟩
      have hb1 := bulk_mem hmem
      have hb2 := bulk_mem (l := (List.range len).map D) (d := D i.1) (List.mem_map.2 ⟨i.1, List.mem_range.2 i.2, rfl⟩)
      rw [hD] at hb2
      simp only [Rows.uptoBulk] at hb2
      refine ⟨(k, c, l), c0, ?_, ⟨A', cap2, hz, ?_, hlm2⟩, i64_bounds w1.2, by show l.length ≤ _; omega⟩
      · rw [← add_off a (i.1 * 3) 1 (by omega)]; exact c1
      · rw [← add_off a (i.1 * 3) 2 (by omega)]; exact c2
    obtain ⟨f, hf⟩ := Classical.axiomOfChoice key
    refine ⟨List.ofFn f, by simp, fun i hi => ?_, fun d hd => ?_, by omega⟩
    · have hil : i < len := by simpa using hi
      have := hf ⟨i, hil⟩
      have e1 : (List.ofFn f)[i] = f ⟨i, hil⟩ := by simp
      rw [e1]
      exact ⟨a, rfl, this.1, this.2.1, this.2.2.1⟩
    · obtain ⟨i, rfl⟩ := List.mem_ofFn.1 hd
      exact (hf i).2.2.2
end
end Go.Proofs.Ytplinlgafgfepaa.Ld
