/-
  The iterator: all its keys and values, in order.
-/
import Derived.Test.YtdnaecmihgcelaaTabL
import Derived.RangeFuncFrom
import Derived.RangeFuncNested
import Derived.RangeFuncBound
import Derived.RangeFuncCalls
import Derived.RangeFuncLeaves
import Derived.Shelf.Abstract
import Derived.Shelf.RegionOpen
import Derived.OwnWalkIn
import Derived.TacticsInMore
import Derived.LoopNIn
import Derived.LoopIn
import Derived.Maps.AppendAt
import Derived.Stop.RegionWithIn
import Derived.Sort.CutIn
namespace Go.Proofs.Ytdnaecmihgcelaa.Tb
open Go.RowKit Go.Shelf
attribute [local go_sem] Oper.semAt_some

theorem At.lower {w w' : World} {L : Lay} {S : Sm} {n0 : Nat} (h : At w L S) (hb : Below n0 w w') (hl : ∀ x ∈ L.own, x < n0) : At w' L S := by
  obtain ⟨c1, e1, e2, e3⟩ := h.e
  obtain ⟨c2, p1, p2, p3⟩ := h.p
  exact ⟨by rw [hb.block _ (hl _ (by simp))]; exact h.o, ⟨c1, by rw [hb.block _ (hl _ (by simp))]; exact e1, e2, e3⟩, ⟨c2, by rw [hb.block _ (hl _ (by simp))]; exact p1, p2, p3⟩, h.oe, h.op, h.ep, h.nec, h.ecm, h.nn, h.pow⟩

def fromEnd : List Nat → Nat → Nat
  | [], _ => 0
  | x :: l, i => if x = i then l.length + 1 else fromEnd l i
theorem fromEnd_at {b : List Nat} {i : Nat} : ∀ {a : List Nat}, i ∉ a → fromEnd (a ++ i :: b) i = b.length + 1
  | [], _ => by simp [fromEnd]
  | x :: a, h => by
    have h1 : x ≠ i := fun e => h (by simp [e])
    rw [List.cons_append, fromEnd, if_neg h1]
    exact fromEnd_at (fun hc => h (List.mem_cons_of_mem _ hc))
def left (ids : List Nat) (v : Value) : Nat := if (intOf v).toNat = 0 then 0 else fromEnd ids (intOf v).toNat
theorem left_zero (ids : List Nat) : left ids (.int .i64 ((0 : Nat) : Int)) = 0 := rfl
theorem left_at {ids a b : List Nat} {i : Nat} (h : ids = a ++ i :: b) (hi : i ≠ 0) (hn : ids.Nodup) : left ids (.int .i64 (i : Nat)) = b.length + 1 := by
  unfold left
  have e : (intOf (.int .i64 ((i : Nat) : Int))).toNat = i := by simp [intOf]
  rw [e, if_neg hi]
  have hni : i ∉ a := fun hc => by
    rw [h, List.nodup_append] at hn
    exact hn.2.2 i hc i (by simp) rfl
  rw [h, fromEnd_at hni]
/-- the number at the head of what is still to come -/
def headN : List Nat → Nat | [] => 0 | i :: _ => i

abbrev encs (x : ByteArray × Int) : Array Value := #[.string x.1, .int .i64 x.2]

/-- what a round keeps: what lies below n0, and the box of the table -/
def KpT (n0 Bn : Nat) (W W' : World) : Prop := Below n0 W W' ∧ W'.heap[Bn]? = W.heap[Bn]?
theorem KpT.t {n0 Bn : Nat} {A B C : World} (h : KpT n0 Bn A B) (k : KpT n0 Bn B C) : KpT n0 Bn A C := ⟨h.1.trans k.1, k.2.trans h.2⟩
theorem grownBy_drew (w : World) (row : Option Nat) : w.grownBy w.drew row := ⟨rfl, rfl, rfl, Nat.le_refl _, fun _ _ _ => rfl⟩

theorem yes_no {e : Ending} {A B : Prop} (h : (e = .returned (.bool true) ∧ A) ∨ (e = .returned (.bool false) ∧ B)) : ∃ ok, e = .returned (.bool ok) ∧ ((ok = true → A) ∧ (ok = false → B)) := by
  rcases h with ⟨h1, h2⟩ | ⟨h1, h2⟩
  · exact ⟨true, h1, fun _ => h2, (fun h => by cases h)⟩
  · exact ⟨false, h1, (fun h => by cases h), fun _ => h2⟩

set_option maxRecDepth 100000 in
set_option maxHeartbeats 2000000 in
theorem all1_in (n : Nat) (hn : 1 ≤ n) (l Bn n0 : Nat) {L : Lay} {S : Sm} {ids : List Nat} (g : Good S ids) (hl : ∀ x ∈ L.own, x < n0) (J Jx : List (ByteArray × Int) → World → Prop) {B : Nat} (hJ : AbidesFrom B J)
    (hY : ∀ pre x W, J pre W → pre.length < ids.length → YieldAt Fence.wide (n - 1) Try.prog l (encs x) W fun e W' =>
      (e = .returned (.bool true) ∧ J (pre ++ [x]) W' ∧ KpT n0 Bn W W') ∨ (e = .returned (.bool false) ∧ Jx (pre ++ [x]) W'))
    (W : World) (hc : W.cell? ⟨Bn, 0, none⟩ = some (.pointer (some ⟨L.ob, 0, none⟩))) (h : At W L S) (h0 : J [] W) :
    CallsIn Fence.wide n Try.prog 42 #[.func (.yield l) #[] #[], .pointer (some ⟨Bn, 0, none⟩)] W fun e W' => (∃ v, e = .returned v) ∧
      ((∃ ys, ys = pairs S ids ∧ J ys W') ∨ (∃ pre, pre <+: pairs S ids ∧ Jx pre W')) := by
  refine callsIn_of_wp Try.func42 rfl trivial ?_ rfl
  simp only [Try.ntmps42, List.size_toArray, List.length_cons, List.length_nil, Nat.reduceAdd, Nat.reduceSub, Array.replicate_succ, Array.replicate_zero, List.push_toArray, List.append_toArray, List.nil_append, List.cons_append]
  have nn := h.nn
  have c1 := h.entc
  have c2 := h.new (i := 0) (Nat.zero_le _)
  simp only [Nat.zero_mul, Nat.zero_add] at c2
  have H := Lib.hid h
  have HC := Lib.hid hc
  clear h
  gi_wp2
  gi_loopw [3] (fun p wr => ∃ (a b : List Nat), ids = a ++ b ∧ p = .int .i64 (headN b : Nat) ∧ Hid (At wr L S ∧ wr.cell? ⟨Bn, 0, none⟩ = some (.pointer (some ⟨L.ob, 0, none⟩)) ∧ J (pairs S a) wr)) (fun p _ => left ids p)
  case atStart =>
    refine ⟨[], ids, rfl, ?_, H.out, HC.out, h0⟩
    have hr := g.ring
    cases hh : ids with
    | nil => rw [hh] at hr; rw [hr.1]; rfl
    | cons i r => rw [hh] at hr; rw [hr.1.1]; rfl
  case round =>
    clear c1 c2 hc
    obtain ⟨a, b, hab, rfl, hr⟩ := hrel
    obtain ⟨h1, h2, h3⟩ := hr.out
    clear hr
    have c1 := h1.entc
    cases b with
    | nil =>
      have HJ3 := Lib.hid h3
      clear h1 h3
      have t1 : ((headN [] : Nat) : Int) = 0 := rfl
      gi_wp2
      go_end0
      exact ⟨⟨_, rfl⟩, .inl ⟨pairs S a, by rw [hab]; simp, HJ3.out⟩⟩
    | cons i b =>
      have hi := (g.mem i).1 (by rw [hab]; simp)
      have hi2 := hi.2
      have k1 := h1.key hi2
      have k2 := h1.val hi2
      have hrg := g.ring
      rw [hab] at hrg
      have hnew : S.new i = headN b := by
        have := (Ring.split.1 hrg).2
        cases b with
        | nil => exact this.1
        | cons j b => exact this.1.1
      have HN := Lib.hid hnew
      have d0 : ¬ ((i : Int) < 0) := by omega
      have d1 : (i : Int) < (S.n : Int) + 1 := by omega
      have t1 : ((i : Int) != 0) = true := by rw [nz_eq]; simp; omega
      obtain ⟨fn, tmps, assign, body, hy, hR⟩ := hY (pairs S a) (S.key i, S.val i) wr.drew (hJ _ _ _ none h3 (grownBy_drew wr none) (fun r e => by cases e)) (by unfold pairs; rw [List.length_map, hab]; simp)
      have HR := Lib.hid hR
      have H1 := Lib.hid h1
      have H2 := Lib.hid h2
      simp only [encs] at hy
      clear hR h1 hrg hnew h3
      rw [show headN (i :: b) = i from rfl]
      gi_wp2
      gi_cut [39] from 21 (fun s39 wc => ∃ ok : Bool, s39 = .bool (!ok) ∧ Hid ((ok = true → J (pairs S a ++ [(S.key i, S.val i)]) wc ∧ KpT n0 Bn wr.drew wc) ∧ (ok = false → Jx (pairs S a ++ [(S.key i, S.val i)]) wc)))
      case first =>
        gi_region_with (refine HR.out.mono ?_; intro e W3 hor; obtain ⟨ok, rfl, hq⟩ := yes_no hor; clear hor)
        all_goals
          gi_wp2
          gi_meet
          case rel => exact ⟨ok, rfl, Lib.hid hq⟩
      case rest =>
        obtain ⟨ok, rfl, HQ⟩ := hcut
        cases ok with
        | true =>
          have hJ3 := HQ.out.1 rfl
          have a3 := H1.out.lower ((Below.refl n0 wr).drew.trans hJ3.2.1) hl
          have c3 : wc.cell? ⟨Bn, 0, none⟩ = some (.pointer (some ⟨L.ob, 0, none⟩)) := (World.cell?_of_block (w := wr.drew) (a := ⟨Bn, 0, none⟩) hJ3.2.2).trans h2
          have c4 := a3.entc
          have c5 := a3.new hi2
          have A3 := Lib.hid a3
          have J3 := Lib.hid hJ3.1
          clear a3 hJ3 h2 c1 k1 k2
          gi_wp2
          go_roundw
          case rel => exact ⟨a ++ [i], b, by rw [hab]; simp, by rw [HN.out], Lib.hid ⟨A3.out, c3, by rw [pairs_append]; exact J3.out⟩⟩
          case measure =>
            rw [HN.out, left_at hab (by omega) g.nd]
            cases b with
            | nil => rw [show headN [] = 0 from rfl, left_zero]; omega
            | cons j b =>
              have hj := (g.mem j).1 (by rw [hab]; simp)
              rw [show headN (j :: b) = j from rfl, left_at (a := a ++ [i]) (b := b) (by rw [hab]; simp) (by omega) g.nd]
              simp
        | false =>
          have hJ3 := HQ.out.2 rfl
          have J3 := Lib.hid hJ3
          clear hJ3 h2 c1 k1 k2
          gi_wp2
          refine bodyPost_ret (results_none rfl _ _ _) rfl ?_
          exact ⟨⟨_, rfl⟩, .inr ⟨pairs S a ++ [(S.key i, S.val i)], ⟨pairs S b, by unfold pairs; simp⟩, J3.out⟩⟩

end Go.Proofs.Ytdnaecmihgcelaa.Tb
