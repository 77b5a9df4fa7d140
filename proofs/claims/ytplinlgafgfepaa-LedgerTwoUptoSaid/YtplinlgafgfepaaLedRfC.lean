/-
  What the document's own Add (of a ledger) answers, in any world.
-/
import Derived.Test.YtplinlgafgfepaaLedRfB
namespace Go.Proofs.Ytplinlgafgfepaa.Ld
open Go.RowKit
namespace Pr

/-- a row of dues as the document's ledger has it: read, in a block of dues; nothing has no room -/
def Row (w : World) (A : Option Addr) (n cap : Nat) (l : LL Sl) : Prop := n = l.length ∧ PR w A l ∧ (A = none → cap = 0) ∧ ∀ a, A = some a → a.block < w.heap.size
theorem Row.keep {w w' : World} {A : Option Addr} {n cap : Nat} {l : LL Sl} (h : Row w A n cap l) (hb : Below w.heap.size w w') : Row w' A n cap l := ⟨h.1, h.2.1.keep hb, h.2.2.1, fun a ha => Nat.lt_of_lt_of_le (h.2.2.2 a ha) hb.size⟩
theorem Own.row {w : World} {B n cap : Nat} {A : Option Addr} {l : LL Sl} (h : Own w B (.slice A n cap) l) : Row w A n cap l := by
  obtain ⟨A2, cap2, e, _, _⟩ := h.view
  injection e with e1 e2 e3
  refine ⟨e2, h.pr, fun hn => ?_, fun a ha => ?_⟩
  · rcases h.2 with ⟨e, _⟩ | ⟨g, _, _, e, _⟩
    · injection e
    · injection e with e1 _ _
      rw [hn] at e1
      cases e1
  · subst ha
    have h1 : (Value.slice (some a) n cap).ownBlock = some a.block := rfl
    exact (World.ownsRow.lt h _ h1).2
theorem Row.setBox {w : World} {b : Nat} {cs : Array Value} {ty : TypeId} {A : Option Addr} {n cap : Nat} {l : LL Sl} (h : Row w A n cap l) (hb : Box w b ty cs) (ht : ty ≠ 38) (j : Nat) (u : Value) : Row (w.setCell ⟨b, j, none⟩ u) A n cap l := ⟨h.1, h.2.1.setBox hb ht j u, h.2.2.1, fun a ha => by rw [World.size_setCell]; exact h.2.2.2 a ha⟩

/-- what is handed on lies where it lay, or in memory made since -/
def Src (B : Nat) (A A' : Option Addr) : Prop := ∀ a, A' = some a → A = some a ∨ B ≤ a.block
theorem Src.refl (B : Nat) (A : Option Addr) : Src B A A := fun _ h => .inl h
theorem Own.src {w : World} {B B' n cap : Nat} {A A' : Option Addr} {l : LL Sl} (h : Own w B (.slice A' n cap) l) (hB : B' ≤ B) : Src B' A A' := fun a ha => by
  subst ha
  have h1 : (Value.slice (some a) n cap).ownBlock = some a.block := rfl
  exact .inr (Nat.le_trans hB (World.ownsRow.lt h _ h1).1)
/-- what stands behind the first append -/
def Mid (w wr : World) (last : Nat) (v : Value) (l : LL Sl) : Prop :=
  Below w.heap.size w wr ∧ Box wr (w.heap.size + 1) 29 #[.slice none 0 0, .int .i64 0] ∧ Box wr (w.heap.size + 1 + 1) 29 #[v, .int .i64 ((last : Int) + 1)] ∧ Own wr (w.heap.size + 1 + 1 + 1) v l
abbrev tz : Obj := .cells #[.slice none 0 0, .int .i64 0] 29
theorem Mid.pre {w w4 : World} {last : Nat} {v : Value} {l : LL Sl} (o : Obj) (ho : Own w4 (w.heap.size + 1 + 1 + 1) v l) (hg : (((w.alloc o).alloc tz).alloc (.cells #[.slice none 0 0, .int .i64 ((last : Int) + 1)] 29)).grownBy w4 (Value.slice none 0 0).ownBlock) :
    Box w4 (w.heap.size + 1 + 1) 29 #[.slice none 0 0, .int .i64 ((last : Int) + 1)] ∧ Mid w (w4.setCell ⟨w.heap.size + 1 + 1, 0, none⟩ v) last v l := by
  have hn : (Value.slice none 0 0).ownBlock = none := rfl
  have hb3 : Below w.heap.size w (((w.alloc o).alloc tz).alloc (.cells #[.slice none 0 0, .int .i64 ((last : Int) + 1)] 29)) := (((Below.refl _ _).alloc (Nat.le_refl _) _).alloc (by simp) _).alloc (by simp; omega) _
  have b1 : Box (((w.alloc o).alloc tz).alloc (.cells #[.slice none 0 0, .int .i64 ((last : Int) + 1)] 29)) (w.heap.size + 1) 29 #[.slice none 0 0, .int .i64 0] := (Box.new1 w _ _ o).alloc _
  have b2 : Box (((w.alloc o).alloc tz).alloc (.cells #[.slice none 0 0, .int .i64 ((last : Int) + 1)] 29)) (w.heap.size + 1 + 1) 29 #[.slice none 0 0, .int .i64 ((last : Int) + 1)] := by
    have := Box.new1 (w.alloc o) 29 #[.slice none 0 0, .int .i64 ((last : Int) + 1)] tz
    simpa using this
  have l1 := b1.lt
  have l2 := b2.lt
  have c1 : Box w4 (w.heap.size + 1) 29 #[.slice none 0 0, .int .i64 0] := by
    unfold Box at *; rw [hg.block _ l1 (by rw [hn]; simp)]; exact b1
  have c2 : Box w4 (w.heap.size + 1 + 1) 29 #[.slice none 0 0, .int .i64 ((last : Int) + 1)] := by
    unfold Box at *; rw [hg.block _ l2 (by rw [hn]; simp)]; exact b2
  exact ⟨c2, (hb3.grown hg hb3.size (by rw [hn]; simp)).setCell (by show w.heap.size ≤ w.heap.size + 1 + 1; omega) _, c1.far1 (by omega) _ _, heap_setCell_same _ _ 0 _ _ v c2, ho.setBox c2 (by decide) _ _⟩
theorem Mid.more {w wr w5 : World} {last : Nat} {v v' : Value} {l l' : LL Sl} (h : Mid w wr last v l) (o : Obj) (ho : Own w5 (w.heap.size + 1 + 1 + 1) v' l') (hgr : ((wr.alloc o).drew).grownBy w5 v.ownBlock) : Mid w (w5.setCell ⟨w.heap.size + 1 + 1, 0, none⟩ v') last v' l' := by
  obtain ⟨h1, h3, h4, h5⟩ := h
  have hoa : Own ((wr.alloc o).drew) (w.heap.size + 1 + 1 + 1) v l := (h5.alloc o).drewN 1
  have hbel : Below w.heap.size w w5 := (below_drewN (h1.alloc h1.size o) 1).grown hgr (Nat.le_trans h1.size (by simp)) (fun q hq => by have := (World.ownsRow.lt hoa q hq).1; omega)
  have hb4 : Box w5 (w.heap.size + 1 + 1) 29 #[v, .int .i64 ((last : Int) + 1)] := Box.grownOther ((h4.alloc o).drewN 1) hoa (by decide) hgr
  exact ⟨hbel.setCell (by show w.heap.size ≤ w.heap.size + 1 + 1; omega) _, (Box.grownOther ((h3.alloc o).drewN 1) hoa (by decide) hgr).far1 (by omega) _ _, heap_setCell_same _ _ 0 _ _ v' hb4, ho.setBox hb4 (by decide) _ _⟩

set_option maxHeartbeats 4000000 in
set_option maxRecDepth 100000 in
theorem radd_calls (l : LL Sl) (A : Option Addr) (n cap last : Nat) (till : Int) (x : Sl) (w : World) (hA : Row w A n cap l) (hg : Good last l) (hlast : last < 4611686018427387904) :
    Calls Try.prog 27 #[tv A n cap last, .int .i64 till, slv x] w fun e w' => ∃ A' n' cap', e = .returned (.tuple #[tv A' n' cap' (addN l last), .int .i64 (addI l last), .int .i64 (addE l)]) ∧ Row w' A' n' cap' (add l last till x) ∧ Src w.heap.size A A' ∧ Below w.heap.size w w' := by
  have hl : l.length ≤ 1000 := hg.few
  obtain ⟨rfl, hP, hnil, hlt0⟩ := hA
  have HLT0 := Lib.hid hlt0
  clear hlt0
  by_cases hfull : 1000 ≤ l.length
  · have E1 := Lib.hid (show add l last till x = l by unfold add; rw [if_pos hfull])
    have E2 := Lib.hid (show addN l last = last by unfold addN; rw [if_pos hfull])
    have E3 := Lib.hid (show addI l last = 0 by unfold addI; rw [if_pos hfull])
    have E4 := Lib.hid (show addE l = 5 by unfold addE; rw [if_pos hfull])
    have HP := Lib.hid hP
    have HNIL := Lib.hid hnil
    have t1 : ¬ ((l.length : Int) < 1000) := by omega
    clear hg hP hnil
    go_enter Try.func27, Try.ntmps27
    go_wp2_with fail
    refine ret_t3 Try.results27 rfl rfl rfl rfl (two_boxes w _ _ _).2 ?_
    rw [E1.out, E2.out, E3.out, E4.out]
    exact ⟨_, _, _, rfl, ⟨rfl, HP.out.keep (two_boxes w _ _ _).1, HNIL.out, fun a ha => Nat.lt_of_lt_of_le (HLT0.out a ha) (two_boxes w _ _ _).1.size⟩, Src.refl _ _, (two_boxes w _ _ _).1⟩
  · have E1 := Lib.hid (show add l last till x = l ++ [(last + 1, clip till, x)] by unfold add; rw [if_neg hfull])
    have E2 := Lib.hid (show addN l last = last + 1 by unfold addN; rw [if_neg hfull])
    have E3 := Lib.hid (show addI l last = ((last + 1 : Nat) : Int) by unfold addI; rw [if_neg hfull])
    have E4 := Lib.hid (show addE l = 0 by unfold addE; rw [if_neg hfull])
    have HP := Lib.hid hP
    have HNIL := Lib.hid hnil
    have t1 : (l.length : Int) < 1000 := by omega
    have t3 : l.length < 1000 := by omega
    have t4 : ¬ (1000 : Int) ≤ (l.length : Int) := by omega
    have t5 : decide ((l.length : Int) < 1000) = true := decide_eq_true t1
    clear hfull
    have t2 : IntKind.i64.wrap ((last : Int) + 1) = (last : Int) + 1 := by rw [IntKind.wrap_i64]; omega
    clear hg hP hnil
    go_enter Try.func27, Try.ntmps27
    go_wp2_with (at_builtin; refine wpList_append_any rfl _ _ rfl (w.heap.size + 1 + 1 + 1) (.slice none 0 0) [] rfl (Own.nil _ _) A l.length cap l rfl rfl HNIL.out (HP.out.1.keep ?b5) (by simp; omega) (by simp) ?_)
    case b5 => exact (((Below.refl _ _).alloc (Nat.le_refl _) _).alloc (by simp) _).alloc (by simp; omega) _
    intro v4 w4 ho4 hg4
    obtain ⟨A4, n4, cap4, rfl, e4⟩ := ho4.form
    have EN4 := Lib.hid e4
    clear e4
    obtain ⟨c4, m4⟩ := Mid.pre (tbox A l.length cap last) ho4 hg4
    have q0 : w4.cell? ⟨w.heap.size + 1 + 1, 0, none⟩ = some (.slice none 0 0) := c4.cell 0
    have qf : w4.frozen? ⟨w.heap.size + 1 + 1, 0, none⟩ = false := c4.free 0
    have HM := Lib.hid m4
    clear ho4 hg4 c4 m4
    go_upto_region 5 with (fail)
    generalize w4.setCell ⟨w.heap.size + 1 + 1, 0, none⟩ (.slice A4 n4 cap4) = wr at HM ⊢
    clear q0 qf
    have u0 : wr.cell? ⟨w.heap.size + 1 + 1, 0, none⟩ = some (.slice A4 n4 cap4) := HM.out.2.2.1.cell 0
    have u1 : wr.cell? ⟨w.heap.size + 1 + 1, 1, none⟩ = some (.int .i64 ((last : Int) + 1)) := HM.out.2.2.1.cell 1
    have uf : wr.frozen? ⟨w.heap.size + 1 + 1, 0, none⟩ = false := HM.out.2.2.1.free 0
    have zt : w.heap.size + 1 + 1 < wr.heap.size := HM.out.2.2.1.lt
    have ag : Value.ownBlock (.slice A4 n4 cap4) ≠ some (w.heap.size + 1 + 1) := fun e => by have := (World.ownsRow.lt HM.out.2.2.2 _ e).1; omega
    have HKL := Lib.hid (show l.length ≤ 10000 by omega)
    have HTF := Lib.hid (show ∀ o, ((wr.alloc o).drew).frozen? ⟨w.heap.size + 1 + 1, 0, none⟩ = false from fun o => (World.frozen?_alloc_past o _ _ zt).trans uf)
    have HTC := Lib.hid (show ∀ o, ((wr.alloc o).drew).cell? ⟨w.heap.size + 1 + 1, 0, none⟩ = some (.slice A4 n4 cap4) from fun o => (World.cell?_alloc_past o _ _ zt).trans u0)
    have HLT := Lib.hid (show ∀ o, w.heap.size + 1 + 1 < ((wr.alloc o).drew).heap.size from fun o => by simp; omega)
    have HZB := Lib.hid (show ∀ o, w.heap.size + 1 + 1 + 1 ≤ ((wr.alloc o).drew).heap.size from fun o => by simp; omega)
    go_region_law (first | (refine step_append_due (by rfl) _ _ (by rfl) (w.heap.size + 1 + 1 + 1) (.slice A4 n4 cap4) l (by rfl) ((HM.out.2.2.2.alloc _).keep (Below.refl _ _).drew) wr.heap.size (last + 1, clip till, x) (by rfl) (heap_alloc_new wr _) HKL.out (HZB.out _) ?_; intro g5 cap5 w5 ho5 hgr5; have tf5 := (hgr5.frozen_far ⟨w.heap.size + 1 + 1, 0, none⟩ (HLT.out _) (Ne.symm ag)).trans (HTF.out _); have tc5 := (hgr5.cell_far ⟨w.heap.size + 1 + 1, 0, none⟩ (HLT.out _) (Ne.symm ag)).trans (HTC.out _); have HM5 := Lib.hid (HM.out.more _ ho5 hgr5); clear hgr5 ho5) | (go_simp; go_wp2_with (go_at_call 38; refine (rclamp_calls till _).mono ?_; rintro e w' ⟨rfl, rfl⟩)))
    all_goals
      clear tf5 tc5
      generalize w5.setCell ⟨w.heap.size + 1 + 1, 0, none⟩ (.slice (some ⟨g5, 0, none⟩) (l.length + 1) cap5) = wq at HM5 ⊢
      have q0 : wq.cell? ⟨w.heap.size + 1 + 1, 0, none⟩ = some (.slice (some ⟨g5, 0, none⟩) (l.length + 1) cap5) := HM5.out.2.2.1.cell 0
      have q1 : wq.cell? ⟨w.heap.size + 1 + 1, 1, none⟩ = some (.int .i64 ((last : Int) + 1)) := HM5.out.2.2.1.cell 1
      have r0 : wq.cell? ⟨w.heap.size + 1, 0, none⟩ = some (.slice none 0 0) := HM5.out.2.1.cell 0
      have r1 : wq.cell? ⟨w.heap.size + 1, 1, none⟩ = some (.int .i64 0) := HM5.out.2.1.cell 1
      have f0 : wq.frozen? ⟨w.heap.size + 1, 0, none⟩ = false := HM5.out.2.1.free 0
      have f1 : wq.frozen? ⟨w.heap.size + 1, 1, none⟩ = false := HM5.out.2.1.free 1
      go_wp2_with fail
      go_region_law (fail)
      all_goals
        go_wp2_with fail
        refine ret_t3 (b := .int .i64 ((last : Int) + 1)) (c := .int .i64 0) Try.results27 ?_ ?_ ?_ ?_ (Box.drew (Box.set2 HM5.out.2.1 _ _)) ?_
        · rfl
        · rfl
        · rfl
        · rfl
        · rw [E1.out, E2.out, E3.out, E4.out]
          refine ⟨some ⟨g5, 0, none⟩, l.length + 1, cap5, rfl, ?_, HM5.out.2.2.2.src (by omega), below_drewN (below_set2 HM5.out.1 (by omega) _ _) 1⟩
          have h := (HM5.out.2.2.2.setBox HM5.out.2.1 (by decide) 0 (.slice (some ⟨g5, 0, none⟩) (l.length + 1) cap5)).setBox (heap_setCell_same _ _ 0 _ _ _ HM5.out.2.1) (by decide) 1 (.int .i64 ((last : Int) + 1))
          exact (h.drewN 1).row
end Pr
end Go.Proofs.Ytplinlgafgfepaa.Ld
