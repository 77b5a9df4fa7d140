/-
  What the program's own reply owes, as a bundle of contracts.
-/
import Derived.Test.YtflmolhkbpicbaaDoorKGFor
import Derived.Test.YtflmolhkbpicbaaDoorKRpyTb
namespace Go.Proofs.YtflmolhkbpicbaaDoor.Ry
open Go.RowKit

/-- the texts of an answer that is handed about -/
structure Rd4 (w : World) (x : Rep) (A : Option Addr) (cap : Nat) : Prop where
  txs : Texts w A (x.l.map bat)
  le : x.l.length ≤ cap
  nil : A = none → cap = 0
  tab : x.k = 1 ∨ x.k = 2 → Tb w
set_option maxRecDepth 100000 in
theorem Rd4.keep {w w' : World} {x : Rep} {A : Option Addr} {cap : Nat} (h : Rd4 w x A cap) (hb : Below w.heap.size w w') : Rd4 w' x A cap := ⟨h.txs.keep hb, h.le, h.nil, fun q => (h.tab q).keep hb⟩
set_option maxRecDepth 100000 in
theorem Rd4.zero (w : World) : Rd4 w zero none 0 := ⟨(fun i hi => absurd hi (Nat.not_lt_zero i)), Nat.le_refl _, fun _ => rfl, fun q => by rcases q with q | q <;> cases q⟩
/-- a row of answers that is handed about -/
structure RdQ (w : World) (A : Option Addr) (cap : Nat) (l : List Qe) : Prop where
  reps : Reps w A l
  txs : Txs w l
  le : l.length ≤ cap
  nil : A = none → cap = 0
  tab : ∀ y ∈ rs l, y.k = 1 ∨ y.k = 2 → Tb w
set_option maxRecDepth 100000 in
theorem RdQ.keep {w w' : World} {A : Option Addr} {cap : Nat} {l : List Qe} (h : RdQ w A cap l) (hb : Below w.heap.size w w') : RdQ w' A cap l := ⟨h.reps.keep hb, h.txs.keep hb, h.le, h.nil, fun y hy q => (h.tab y hy q).keep hb⟩
set_option maxRecDepth 100000 in
theorem RdQ.rd {w : World} {A : Option Addr} {cap : Nat} {l : List Qe} (h : RdQ w A cap l) {x : Qe} (hx : x ∈ l) : Rd4 w x.1 x.2.1 x.2.2 := ⟨(h.txs x hx).1, (h.txs x hx).2.1, (h.txs x hx).2.2, h.tab _ (List.mem_map_of_mem hx)⟩
set_option maxRecDepth 100000 in
/-- answers of a block that is known whole -/
theorem RdQ.lit {w : World} {g : Nat} {L : List Qe} (hg : w.heap[g]? = some (.cells (qcells L).toArray 25 (0, 0))) (hT : Txs w L) (ht : ∀ y ∈ rs L, y.k = 1 ∨ y.k = 2 → Tb w) : RdQ w (some ⟨g, 0, none⟩) L.length L := by
  refine ⟨Reps.of_cells fun j u hj => ?_, hT, Nat.le_refl _, (fun e => by cases e), ht⟩
  have : ((⟨g, 0, none⟩ : Addr).add j) = ⟨g, j, none⟩ := by unfold Addr.add; split <;> simp_all
  rw [this, cell_of_row _ _ _ _ _ _ hg]
  simpa using hj
set_option maxRecDepth 100000 in
theorem Rd4.one {w : World} {x : Rep} {A : Option Addr} {cap : Nat} (h : Rd4 w x A cap) : Txs w [(x, A, cap)] := fun y hy => by
  rw [List.mem_singleton] at hy
  subst hy
  exact ⟨h.txs, h.le, h.nil⟩
set_option maxRecDepth 100000 in
theorem Rd4.two {w : World} {x y : Rep} {A C : Option Addr} {cap cap2 : Nat} (h : Rd4 w x A cap) (k : Rd4 w y C cap2) : Txs w [(x, A, cap), (y, C, cap2)] := fun z hz => by
  rcases List.mem_cons.1 hz with rfl | hz
  · exact ⟨h.txs, h.le, h.nil⟩
  · exact k.one z hz
/-- an answer that was read, or an error -/
def YDec (R : Rd Rep) (n : Nat) (e : Ending) (w' : World) : Prop := match R with
  | .ok x r => ∃ A c, e = .returned (.tuple #[rv x A c, .int .i64 ((n - r.length : Nat) : Int), .int .i64 0]) ∧ Rd4 w' x A c
  | .err k => ∃ A c, e = .returned (.tuple #[rv zero A c, .int .i64 0, .int .i64 (k : Nat)]) ∧ Rd4 w' zero A c
/-- all that were read, or an error -/
def YAll (R : List Rep × Nat) (e : Ending) (w' : World) : Prop := ∃ A c l, e = .returned (.tuple #[.slice A l.length c, .int .i64 (R.2 : Nat)]) ∧ RdQ w' A c l ∧ rs l = R.1

/-- what the program owes -/
structure YC : Prop where
  plain_ : ∀ (x : Rep) (A : Option Addr) (cap : Nat) (w : World), Rd4 w x A cap → longR x ≤ 1500 → N64 x →
    Calls Tryd.prog 13 #[rv x A cap] w fun e w' => (∃ A' c', e = .returned (rv (plain x) A' c') ∧ Rd4 w' (plain x) A' c') ∧ Below w.heap.size w w'
  right_ : ∀ (x : Rep) (A : Option Addr) (cap : Nat) (w : World), Rd4 w x A cap → longR x ≤ 1500 → N64 x →
    Calls Tryd.prog 14 #[rv x A cap] w fun e w' => e = .returned (.bool (decide (plain x = x))) ∧ Below w.heap.size w w'
  same_ : ∀ (x y : Rep) (A C : Option Addr) (cap cap2 : Nat) (w : World), Rd4 w x A cap → Rd4 w y C cap2 → longR x ≤ 1500 → longR y ≤ 1500 → N64 x → N64 y →
    Calls Tryd.prog 18 #[rv x A cap, rv y C cap2] w fun e w' => e = .returned (.bool (decide (x = y))) ∧ Below w.heap.size w w'
  encode_ : ∀ (A : Option Addr) (cap : Nat) (l : List Qe) (w : World), RdQ w A cap l → longs (rs l) ≤ 3000 → (∀ x ∈ rs l, N64 x) →
    Calls Tryd.prog 16 #[.slice A l.length cap] w fun e w' => (∃ v, e = .returned v ∧ BRow w' w.heap.size v (encs (rs l))) ∧ Below w.heap.size w w'
  decode_ : ∀ (A : Option Addr) (cap : Nat) (l : Bytes) (w : World), Bts w A l → l.length ≤ cap → (A = none → cap = 0) → l.length ≤ 65000 → Tb w →
    Calls Tryd.prog 19 #[.slice A l.length cap] w fun e w' => YDec (decR l) l.length e w' ∧ Below w.heap.size w w'
  all_ : ∀ (A : Option Addr) (cap : Nat) (l : Bytes) (w : World), Bts w A l → l.length ≤ cap → (A = none → cap = 0) → l.length ≤ 65000 → Tb w →
    Calls Tryd.prog 21 #[.slice A l.length cap] w fun e w' => YAll (all l) e w' ∧ Below w.heap.size w w'
end Go.Proofs.YtflmolhkbpicbaaDoor.Ry
/-
  What the laws hold fixed of the chapter's example.
-/
namespace Go.Proofs.YtflmolhkbpicbaaDoor.Ry
open Go.RowKit

abbrev kq : List Qe := [(⟨3, [], -5, []⟩, none, 0), (⟨5, [], 0, []⟩, none, 0)]
set_option maxRecDepth 100000 in
theorem kq_enc : encs (rs kq) = [58, 45, 53, 13, 10, 36, 45, 49, 13, 10] := by decide
set_option maxRecDepth 100000 in
theorem rd_none (w : World) (x : Rep) (h : x.l = []) (hk : x.k = 1 ∨ x.k = 2 → Tb w) : Rd4 w x none 0 := ⟨(fun i hi => absurd hi (by simp [h])), by simp [h], fun _ => rfl, hk⟩
set_option maxHeartbeats 4000000 in
set_option maxRecDepth 100000 in
theorem known_calls (C : YC) (w : World) :
    Calls Tryd.prog 10 #[] w fun e w' => e = .returned (.bool true) ∧ Below w.heap.size w w' := by
  go_enter Tryd.func10, Tryd.ntmps10
  go_wp2_with fail
  have hb0 : Below w.heap.size w (w.alloc (.cells (qcells kq).toArray 25)) := (Below.refl _ _).alloc (Nat.le_refl _) _
  refine (C.encode_ (some ⟨w.heap.size, 0, none⟩) 2 kq _ (RdQ.lit (heap_alloc_new w _) ((rd_none _ _ rfl (fun q => by rcases q with q | q <;> cases q)).two (rd_none _ _ rfl (fun q => by rcases q with q | q <;> cases q))) (fun y hy q => by simp [rs] at hy; rcases hy with rfl | rfl <;> (rcases q with q | q <;> cases q))) (by decide) (by intro x hx; simp at hx; rcases hx with rfl | rfl <;> simp [N64])).mono ?_
  rintro e w1 ⟨⟨v, rfl, hr⟩, hb1⟩
  rw [kq_enc] at hr
  obtain ⟨A1, c1, rfl, hB1, -⟩ := hr.view
  have hcv : (convert 32 9 (.slice A1 10 c1)).run Tryd.prog w1 = .ok (.string ⟨#[58, 45, 53, 13, 10, 36, 45, 49, 13, 10]⟩) w1 := conv_all hB1 c1
  have HB := Lib.hid (hb0.trans (hb1.mono (by simp)))
  clear hb0 hb1 hr hB1
  go_wp2_with fail
  have hrr := C.right_ zero none 0 w1 (Rd4.zero _) (by decide) ⟨by decide, by decide⟩
  refine hrr.mono ?_
  clear hrr
  rintro e w2 ⟨rfl, hb2⟩
  rw [show decide (plain zero = zero) = false by decide]
  have HB2 := Lib.hid (HB.out.trans (hb2.mono HB.out.size))
  clear hb2 HB
  go_wp2_with fail
  go_ret
  exact ⟨rfl, HB2.out⟩
end Go.Proofs.YtflmolhkbpicbaaDoor.Ry
