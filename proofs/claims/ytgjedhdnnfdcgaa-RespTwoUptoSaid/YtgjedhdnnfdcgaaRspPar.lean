/-
  What a reader's parser holds, and what its functions do that write nothing but numbers.
-/
import Derived.Test.YtgjedhdnnfdcgaaRspByt
import Derived.Test.YtgjedhdnnfdcgaaDigParse
import Derived.Deep.RegionLaw
import Derived.BigRegion
import Derived.Laws.Tables
import Derived.Laws.EntriesVeiled
namespace Go.Proofs.Ytgjedhdnnfdcgaa.Rp
open Go.RowKit
open Dg (dec txt)

def Box (w : World) (b : Nat) (t : TypeId) (cs : Array Value) : Prop := w.heap[b]? = some (.cells cs t (0, 0))
theorem Box.keep {w w' : World} {b : Nat} {t : TypeId} {cs : Array Value} (h : Box w b t cs) (hb : Below w.heap.size w w') : Box w' b t cs := by
  unfold Box at *
  rw [hb.block b (Array.getElem?_eq_some_iff.1 h).1]; exact h
theorem Box.alloc {w : World} {b : Nat} {t : TypeId} {cs : Array Value} (h : Box w b t cs) (o : Obj) : Box (w.alloc o) b t cs := h.keep ((Below.refl _ _).alloc (Nat.le_refl _) _)
theorem Box.new (w : World) (t : TypeId) (cs : Array Value) : Box (w.alloc (.cells cs t)) w.heap.size t cs := heap_alloc_new w _
theorem Box.lt {w : World} {b : Nat} {t : TypeId} {cs : Array Value} (h : Box w b t cs) : b < w.heap.size := (Array.getElem?_eq_some_iff.1 h).1
theorem Box.cell {w : World} {b : Nat} {t : TypeId} {cs : Array Value} (h : Box w b t cs) (i : Nat) : w.cell? ⟨b, i, none⟩ = cs[i]? := cell_of_row _ _ _ _ _ _ h
theorem Box.free {w : World} {b : Nat} {t : TypeId} {cs : Array Value} (h : Box w b t cs) (i : Nat) : w.frozen? ⟨b, i, none⟩ = false := frozen_of_row _ _ _ _ _ h
theorem Box.far {w : World} {g b : Nat} {t : TypeId} {cs : Array Value} (h : Box w b t cs) (hne : b ≠ g) (j : Nat) (x : Value) : Box (w.setCell ⟨g, j, none⟩ x) b t cs := by
  unfold Box at *; rw [Below.heap_setCell _ _ _ _ hne]; exact h
theorem Box.set {w : World} {b : Nat} {t : TypeId} {cs : Array Value} (h : Box w b t cs) (j : Nat) (x : Value) : Box (w.setCell ⟨b, j, none⟩ x) b t (cs.setIfInBounds j x) := by
  unfold Box
  rw [setCell_eq_setRow w b j cs t (0, 0) x h]
  exact setRow_heap w b _ _ _ _ h
theorem Box.only {w w' : World} {own : List Nat} {b : Nat} {t : TypeId} {cs : Array Value} (h : Box w b t cs) (k : Only own w w') (hn : b ∉ own) : Box w' b t cs := by
  unfold Box at *
  rw [k.block b (Array.getElem?_eq_some_iff.1 h).1 hn]; exact h

abbrev fnv (f : Nat) : Value := .func (.func f) #[] #[]
abbrev pcs (nx : Value) (tk : Int) (vt : Value) (num cnt : Int) (va : Value) : Array Value := #[nx, .int .i64 tk, vt, .int .i64 num, .int .i64 cnt, va]
/-- what lies in a parser's memory -/
structure PM (w : World) (pb : Nat) (nx : Value) (tk : Int) (vt : Value) (tx : Bytes) (num cnt : Int) (va : Value) (ar : List Bytes) : Prop where
  box : Box w pb 62 (pcs nx tk vt num cnt va)
  txt : BRow w 0 vt tx
  arg : SRow w 0 va (ar.map bat)
def pblk (pb : Nat) (vt va : Value) : List Nat := pb :: (vt.ownBlock.toList ++ va.ownBlock.toList)
theorem mem_pblk {x pb : Nat} {vt va : Value} : x ∈ pblk pb vt va ↔ x = pb ∨ vt.ownBlock = some x ∨ va.ownBlock = some x := by
  unfold pblk
  simp [Option.mem_toList]
theorem row_ty {w : World} {B n k : Nat} {T : TypeId} {v : Value} {xs : List Value} (h : w.ownsRow B T 1 v n xs) (e : v.ownBlock = some k) : ∃ cur, w.heap[k]? = some (.cells cur T (0, 0)) := by
  rcases h.2 with ⟨rfl, _⟩ | ⟨g, cap, cur, rfl, _, hb, _⟩
  · simp [Value.ownBlock] at e
  · simp only [Value.ownBlock, Option.some.injEq] at e
    subst e
    exact ⟨cur, hb⟩
theorem row_only {w w' : World} {own : List Nat} {B n : Nat} {T : TypeId} {v : Value} {xs : List Value} (h : w.ownsRow B T 1 v n xs) (k : Only own w w') (hn : ∀ x ∈ own, v.ownBlock ≠ some x) : w'.ownsRow B T 1 v n xs := by
  refine ⟨h.1, ?_⟩
  rcases h.2 with h2 | ⟨g, cap, cur, rfl, hB, hg, r⟩
  · exact .inl h2
  · refine .inr ⟨g, cap, cur, rfl, hB, ?_, r⟩
    rw [k.block g (Array.getElem?_eq_some_iff.1 hg).1 (fun hc => hn g hc rfl)]; exact hg
theorem row_box {w : World} {B n b : Nat} {T T' : TypeId} {v : Value} {xs : List Value} {cs : Array Value} (h : w.ownsRow B T 1 v n xs) (hb : Box w b T' cs) (ht : T ≠ T') : v.ownBlock ≠ some b := fun e => by
  obtain ⟨cur, hk⟩ := row_ty h e
  rw [show w.heap[b]? = _ from hb] at hk
  injection hk with hk
  injection hk with _ hk _
  exact ht hk.symm
section
variable {w w' : World} {pb : Nat} {nx vt va : Value} {tk num cnt : Int} {tx : Bytes} {ar : List Bytes}
theorem PM.lt (h : PM w pb nx tk vt tx num cnt va ar) : ∀ x ∈ pblk pb vt va, x < w.heap.size := fun x hx => by
  rcases mem_pblk.1 hx with rfl | e | e
  · exact h.box.lt
  · exact (World.ownsRow.lt h.txt x e).2
  · exact (World.ownsRow.lt h.arg x e).2
theorem PM.only {own : List Nat} (h : PM w pb nx tk vt tx num cnt va ar) (k : Only own w w') (hn : ∀ x ∈ pblk pb vt va, x ∉ own) : PM w' pb nx tk vt tx num cnt va ar :=
  ⟨h.box.only k (hn _ (mem_pblk.2 (.inl rfl))), row_only h.txt k (fun x hx e => hn x (mem_pblk.2 (.inr (.inl e))) hx), row_only h.arg k (fun x hx e => hn x (mem_pblk.2 (.inr (.inr e))) hx)⟩
theorem PM.keep (h : PM w pb nx tk vt tx num cnt va ar) (hb : Below w.heap.size w w') : PM w' pb nx tk vt tx num cnt va ar := h.only (Only.of_below [] hb) (by simp)
theorem PM.alloc (h : PM w pb nx tk vt tx num cnt va ar) (o : Obj) : PM (w.alloc o) pb nx tk vt tx num cnt va ar := h.keep ((Below.refl _ _).alloc (Nat.le_refl _) _)
theorem PM.ntp (h : PM w pb nx tk vt tx num cnt va ar) : vt.ownBlock ≠ some pb := row_box h.txt h.box (by decide)
theorem PM.nap (h : PM w pb nx tk vt tx num cnt va ar) : va.ownBlock ≠ some pb := row_box h.arg h.box (by decide)
/-- one cell of the parser is written -/
theorem PM.put (h : PM w pb nx tk vt tx num cnt va ar) (j : Nat) (x : Value) {nx' : Value} {tk' num' cnt' : Int} (e : (pcs nx tk vt num cnt va).setIfInBounds j x = pcs nx' tk' vt num' cnt' va) :
    PM (w.setCell ⟨pb, j, none⟩ x) pb nx' tk' vt tx num' cnt' va ar ∧ Only [pb] w (w.setCell ⟨pb, j, none⟩ x) := by
  have ho : Only [pb] w (w.setCell ⟨pb, j, none⟩ x) := (Only.refl [pb] w).set (p := ⟨pb, j, none⟩) (by simp) x
  refine ⟨⟨?_, row_only h.txt ho (fun y hy e2 => ?_), row_only h.arg ho (fun y hy e2 => ?_)⟩, ho⟩
  · have := h.box.set j x
    rw [e] at this
    exact this
  · rw [List.mem_singleton] at hy; subst hy; exact h.ntp e2
  · rw [List.mem_singleton] at hy; subst hy; exact h.nap e2
end

theorem eqf_in (d : Nat) (f : Nat) (w : World) : (Op.equalIn (d + 1) 60 (fnv f) .nilFunc).run Try.prog w = .ok false w := by
  simp [Op.equalIn, run_underlying Try.underlying60]
theorem eqn_in (d : Nat) (w : World) : (Op.equalIn (d + 1) 60 .nilFunc .nilFunc).run Try.prog w = .ok true w := by
  simp [Op.equalIn, run_underlying Try.underlying60]
theorem eqf_no (f : Nat) (w : World) : (Go.binOp .eql 60 (fnv f) .nilFunc).run Try.prog w = .ok (.bool false) w := by
  have h : (Op.equal 60 (fnv f) .nilFunc).run Try.prog w = .ok false w := eqf_in 9999 f w
  simp only [Go.binOp]
  simp [h]
theorem eqf_yes (w : World) : (Go.binOp .eql 60 .nilFunc .nilFunc).run Try.prog w = .ok (.bool true) w := by
  have h : (Op.equal 60 .nilFunc .nilFunc).run Try.prog w = .ok true w := eqn_in 9999 w
  simp only [Go.binOp]
  simp [h]
/-- what 'only' tells -/
def onlyV (c d : Int) (v : Value) : Value := if c = d then v else .nilFunc
theorem only_yes (c d : Int) (v : Value) (w : World) (h : c = d) : Calls Try.prog 41 #[.int .u8 c, .int .u8 d, v] w fun e w' => e = .returned v ∧ w' = w := by
  have t1 : (c != d) = false := by simp [h]
  clear h
  go_enter Try.func41, Try.ntmps41
  go_wp2_with fail
  go_ret
  exact ⟨rfl, rfl⟩
theorem only_no (c d : Int) (v : Value) (w : World) (h : c ≠ d) : Calls Try.prog 41 #[.int .u8 c, .int .u8 d, v] w fun e w' => e = .returned .nilFunc ∧ w' = w := by
  have t1 : (c != d) = true := by simpa using h
  clear h
  go_enter Try.func41, Try.ntmps41
  go_wp2_with fail
  go_ret
  exact ⟨rfl, rfl⟩
theorem only_calls (c d : Int) (v : Value) (w : World) : Calls Try.prog 41 #[.int .u8 c, .int .u8 d, v] w fun e w' => e = .returned (onlyV c d v) ∧ w' = w := by
  by_cases h : c = d
  · unfold onlyV; rw [if_pos h]; exact only_yes c d v w h
  · unfold onlyV; rw [if_neg h]; exact only_no c d v w h
theorem star_calls (p : Value) (c : Int) (w : World) : Calls Try.prog 36 #[p, .int .u8 c] w fun e w' => e = .returned (onlyV c 42 (fnv 42)) ∧ w' = w := by
  go_enter Try.func36, Try.ntmps36
  go_wp2_with fail
  refine (only_calls _ _ _ _).mono ?_
  rintro e w1 ⟨rfl, rfl⟩
  go_wp2_with fail
  go_ret
  exact ⟨rfl, rfl⟩
theorem dollar_calls (p : Value) (c : Int) (w : World) : Calls Try.prog 50 #[p, .int .u8 c] w fun e w' => e = .returned (onlyV c 36 (fnv 52)) ∧ w' = w := by
  go_enter Try.func50, Try.ntmps50
  go_wp2_with fail
  refine (only_calls _ _ _ _).mono ?_
  rintro e w1 ⟨rfl, rfl⟩
  go_wp2_with fail
  go_ret
  exact ⟨rfl, rfl⟩
theorem measured_calls (p : Value) (c : Int) (w : World) : Calls Try.prog 54 #[p, .int .u8 c] w fun e w' => e = .returned (onlyV c 10 (fnv 55)) ∧ w' = w := by
  go_enter Try.func54, Try.ntmps54
  go_wp2_with fail
  refine (only_calls _ _ _ _).mono ?_
  rintro e w1 ⟨rfl, rfl⟩
  go_wp2_with fail
  go_ret
  exact ⟨rfl, rfl⟩

section
variable {w w' : World} {pb : Nat} {nx vt va : Value} {tk num cnt : Int} {tx : Bytes} {ar : List Bytes}
theorem counted_calls (h : PM w pb nx tk vt tx num cnt va ar) (c : Int) :
    Calls Try.prog 47 #[.pointer (some ⟨pb, 0, none⟩), .int .u8 c] w fun e w' => e = .returned (onlyV c 10 (fnv 50)) ∧ PM w' pb nx tk vt tx num num va ar ∧ Only [pb] w w' := by
  have c3 := h.box.cell 3
  have c4 := h.box.cell 4
  have f4 := h.box.free 4
  have HP := Lib.hid (h.put 4 (.int .i64 num) (cnt' := num) rfl)
  simp only [pcs, List.getElem?_toArray, List.getElem?_cons_zero, List.getElem?_cons_succ] at c3 c4
  clear h
  go_enter Try.func47, Try.ntmps47
  go_wp2_with fail
  refine (only_calls _ _ _ _).mono ?_
  rintro e w1 ⟨rfl, rfl⟩
  go_wp2_with fail
  go_ret
  exact ⟨rfl, HP.out⟩
theorem wrong_calls (h : PM w pb nx tk vt tx num cnt va ar) (f : Nat) (hn : nx = fnv f) :
    Calls Try.prog 31 #[.pointer (some ⟨pb, 0, none⟩)] w fun e w' => e = .returned (.bool false) ∧ w' = w := by
  subst hn
  have c0 := h.box.cell 0
  simp only [pcs, List.getElem?_toArray, List.getElem?_cons_zero, List.getElem?_cons_succ] at c0
  clear h
  have hq := eqf_no f w
  go_enter Try.func31, Try.ntmps31
  go_wp2_with fail
  go_ret
  exact ⟨rfl, rfl⟩
theorem bad_calls (h : PM w pb .nilFunc tk vt tx num cnt va ar) :
    Calls Try.prog 31 #[.pointer (some ⟨pb, 0, none⟩)] w fun e w' => e = .returned (.bool true) ∧ w' = w := by
  have c0 := h.box.cell 0
  simp only [pcs, List.getElem?_toArray, List.getElem?_cons_zero, List.getElem?_cons_succ] at c0
  clear h
  have hq := eqf_yes w
  go_enter Try.func31, Try.ntmps31
  go_wp2_with fail
  go_ret
  exact ⟨rfl, rfl⟩
theorem fresh_calls (w : World) :
    Calls Try.prog 27 #[] w fun e w' => e = .returned (.pointer (some ⟨w.heap.size, 0, none⟩)) ∧ w' = w.alloc (.cells (pcs (fnv 36) 0 (.slice none 0 0) 0 0 (.slice none 0 0)) 62) := by
  go_enter Try.func27, Try.ntmps27
  go_wp2_with fail
  go_ret
  exact ⟨rfl, rfl⟩
end
end Go.Proofs.Ytgjedhdnnfdcgaa.Rp
