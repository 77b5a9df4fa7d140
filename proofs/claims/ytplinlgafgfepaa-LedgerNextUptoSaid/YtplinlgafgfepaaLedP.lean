/-
  What the statements share: rows of things to do, Long, did, known.
-/
import Derived.Test.YtplinlgafgfepaaLedSame
import Derived.Deep.RegionLaw
import Derived.BigRegion
namespace Go.Proofs.Ytplinlgafgfepaa.Ld
open Go.RowKit

/-- one thing done: what is then, the last number, what is told, and which dues -/
def stL {α : Type} (L : LL α) (last : Nat) (k n : Int) (x : α) : LL α := if k = 1 then add L last n x else if k = 2 then rem L n else left L (clip n)
def stN {α : Type} (L : LL α) (last : Nat) (k : Int) : Nat := if k = 1 then addN L last else last
def stI {α : Type} (L : LL α) (last : Nat) (k n : Int) : Int := if k = 1 then addI L last + 2000 * addE L else if k = 2 then (if (getO L n).isSome then 1 else 0) else 0
def stR {α : Type} (L : LL α) (k n : Int) : LL α := if k = 1 then [] else if k = 2 then (match getO L n with | some d => [d] | none => []) else due L (clip n)
theorem stR_two {α : Type} (L : LL α) (n : Int) : stR L 2 n = (match getO L n with | some d => [d] | none => []) := rfl
theorem stN_le {α : Type} (L : LL α) (last : Nat) (k : Int) : stN L last k ≤ last + 1 := by
  unfold stN addN
  split
  · split <;> omega
  · omega
theorem st_good {α : Type} {L : LL α} {last : Nat} (h : Good last L) (k n : Int) (x : α) : Good (stN L last k) (stL L last k n x) := by
  unfold stN stL
  split
  · exact h.add _ _
  · split
    · exact h.rem _
    · exact h.left _

/-- kind, number, limits -/
abbrev Dow := Int × Int × List Lim
def Dos (S : Nat → Prop) (w : World) (A : Option Addr) (L : List Dow) : Prop :=
  ∀ i (h : i < L.length), ∃ a : Addr, A = some a ∧ w.cell? (a.add (i * 3)) = some (.int .i64 L[i].1) ∧ w.cell? ⟨(a.add (i * 3)).block, (a.add (i * 3)).off + 1, none⟩ = some (.int .i64 L[i].2.1) ∧
    ∃ A' cap, (A' = none → cap = 0) ∧ w.cell? ⟨(a.add (i * 3)).block, (a.add (i * 3)).off + 2, none⟩ = some (.slice A' L[i].2.2.length cap) ∧ Lims S w A' L[i].2.2
theorem Dos.at_ {S : Nat → Prop} {w : World} {A : Option Addr} {L : List Dow} (h : Dos S w A L) {i : Nat} (hi : i < L.length) : ∃ a : Addr, A = some a ∧ w.cell? (a.add (i * 3)) = some (.int .i64 L[i].1) ∧ w.cell? ⟨(a.add (i * 3)).block, (a.add (i * 3)).off + 1, none⟩ = some (.int .i64 L[i].2.1) ∧
    ∃ A' cap, (A' = none → cap = 0) ∧ w.cell? ⟨(a.add (i * 3)).block, (a.add (i * 3)).off + 2, none⟩ = some (.slice A' L[i].2.2.length cap) ∧ Lims S w A' L[i].2.2 := h i hi
theorem Dos.keep {S : Nat → Prop} {w w' : World} {A : Option Addr} {L : List Dow} (h : Dos S w A L) (hb : Below w.heap.size w w') : Dos S w' A L := fun i hi => by
  obtain ⟨a, e, h0, h1, A', cap, hz, h2, h3⟩ := h i hi
  exact ⟨a, e, keep2 hb h0, keep2 hb h1, A', cap, hz, keep2 hb h2, h3.keep hb⟩
/-- what the arguments are -/
def Fits (L : List Dow) : Prop := ∀ d ∈ L, I64 d.2.1 ∧ d.2.2.length ≤ 1048576

set_option maxHeartbeats 400000 in
theorem Long_calls {S : Nat → Prop} (A : Option Addr) (cap : Nat) (L : List Dow) (w : World) (hA : Dos S w A L) (hl : L.length ≤ 60) :
    Calls Try.prog 9 #[.slice A L.length cap] w fun e w' => (∃ m : Int, e = .returned (.int .i64 m)) ∧ Below w.heap.size w w' := by
  have HA := Lib.hid hA
  clear hA
  go_enter Try.func9, Try.ntmps9
  go_wp2_with fail
  go_loopw [3, 4] (fun m i wr => ∃ (k : Nat) (n : Int), k ≤ L.length ∧ i = .int .i64 k ∧ m = .int .i64 n ∧ Hid (Below w.heap.size w wr)) (fun _ i _ => L.length - (intOf i).toNat)
  case atStart => exact ⟨0, 0, Nat.zero_le _, rfl, rfl, Below.refl _ _⟩
  case round =>
    obtain ⟨k, n, hkl, rfl, rfl, HB⟩ := hrel
    by_cases hlt : k < L.length
    · obtain ⟨a, rfl, c0, c1, A', cap', -, c2, -⟩ := (HA.out.keep HB.out).at_ hlt
      generalize L[k] = x at c0 c1 c2
      go_wp2
      go_roundw
      case rel => exact ⟨k + 1, _, by omega, by go_num, rfl, HB⟩
      case measure => simp [intOf]; omega
    · go_wp2
      go_ret
      exact ⟨⟨_, rfl⟩, HB⟩

variable {C : LC}
abbrev dbox (k n : Int) (X : Option Addr) (m cap : Nat) : Obj := .cells #[.int .i64 k, .int .i64 n, .slice X m cap] 34
theorem Kept.below {own own' : List Nat} {w w1 w2 : World} (h : Kept own w own' w1) (hb : Below w1.heap.size w1 w2) : Kept own w own' w2 := h.trans (Kept.of_below hb)
theorem addI_lt {α : Type} {L : LL α} {last : Nat} (h : last < 4611686018427387904) : 0 ≤ addI L last ∧ addI L last < 4611686018427387905 ∧ 0 ≤ addE L ∧ addE L ≤ 5 := by
  unfold addI addE
  split <;> omega

/-- one due, in a block made for it -/
theorem one_due {own own' : List Nat} {w0 w : World} {A : Option Addr} {cap : Nat} {d : Du (List Lim)} (h : Lims (Out own own' w0 w) w A d.2.2) (ho : ∀ x ∈ own', x < w.heap.size) (hs : w0.heap.size ≤ w.heap.size) :
    Dues (Out own own' w0 (w.alloc (.cells #[.int .i64 (d.1 : Nat), .int .i64 (d.2.1 : Nat), .slice A d.2.2.length cap] 38))) (w.alloc (.cells #[.int .i64 (d.1 : Nat), .int .i64 (d.2.1 : Nat), .slice A d.2.2.length cap] 38)) (some ⟨w.heap.size, 0, none⟩) [d] := fun i hi => by
  have hb : Below w.heap.size w (w.alloc (.cells #[.int .i64 (d.1 : Nat), .int .i64 (d.2.1 : Nat), .slice A d.2.2.length cap] 38)) := (Below.refl _ _).alloc (Nat.le_refl _) _
  obtain rfl : i = 0 := by simp at hi; omega
  have hg : (w.alloc (.cells #[.int .i64 (d.1 : Nat), .int .i64 (d.2.1 : Nat), .slice A d.2.2.length cap] 38)).heap[w.heap.size]? = some (.cells #[.int .i64 (d.1 : Nat), .int .i64 (d.2.1 : Nat), .slice A d.2.2.length cap] 38 (0, 0)) := heap_alloc_new w _
  refine ⟨⟨w.heap.size, 0, none⟩, rfl, ⟨⟨by simp, fun hc => Nat.lt_irrefl _ (ho _ hc)⟩, .inr hs⟩, ?_, ?_, A, cap, ?_, h.goes fun b hb' => ⟨hb.block b hb'.1.1, ⟨by simp; have := hb'.1.1; omega, hb'.1.2⟩, hb'.2⟩⟩
  · exact cell_of_row _ _ 0 _ _ _ hg
  · exact cell_of_row _ _ 1 _ _ _ hg
  · exact cell_of_row _ _ 2 _ _ _ hg

set_option maxHeartbeats 2000000 in
theorem did_calls {w : World} {own : List Nat} {v last : Nat} {L : LL (List Lim)} (h : C.At w own v last L) (k n : Int) (X : Option Addr) (cap : Nat) (ls : List Lim) (hlast : last < 4611686018427387904) (hn : I64 n) (hX : Lims (Free own w) w X ls) (hXn : X = none → cap = 0) (hl : ls.length ≤ 1048576) :
    Calls Try.prog 12 #[.pointer (some ⟨v, 0, none⟩), .agg #[.int .i64 k, .int .i64 n, .slice X ls.length cap]] w fun e w' => ∃ own' A cap', e = .returned (.tuple #[.int .i64 (stI L last k n), .slice A (stR L k n).length cap']) ∧ Dues (Out own own' w w') w' A (stR L k n) ∧ C.At w' own' v (stN L last k) (stL L last k n ls) ∧ Kept own w own' w' := by
  have hb0 : Below w.heap.size w (w.alloc (dbox k n X ls.length cap)) := (Below.refl _ _).alloc (Nat.le_refl _) _
  have H := Lib.hid (C.below h hb0)
  have O : Hid (Kept own w own (w.alloc (dbox k n X ls.length cap))) := Lib.hid (Kept.of_below hb0)
  have HX := Lib.hid (hX.goes (Below.stands hb0))
  have HXN := Lib.hid hXn
  have HN := Lib.hid hn
  have HLAST := Lib.hid hlast
  have HL := Lib.hid hl
  have hai := addI_lt (L := L) hlast
  have HOUT : Hid (∀ (own' : List Nat) (w2 : World) (b : Nat), Out own own' (w.alloc (dbox k n X ls.length cap)) w2 b → Out own own' w w2 b) := Lib.hid fun own' w2 b hb => ⟨hb.1, hb.2.imp id (fun h => by simp at h; omega)⟩
  have HSZ0 : Hid (w.heap.size ≤ (w.alloc (dbox k n X ls.length cap)).heap.size) := Lib.hid hb0.size
  clear h hb0 hX hn hl hXn
  by_cases h1 : k = 1
  · subst h1
    have E1 := Lib.hid (show stI L last 1 n = addI L last + 2000 * addE L from rfl)
    have E2 := Lib.hid (show stR L 1 n = [] from rfl)
    have E3 := Lib.hid (show stL L last 1 n ls = add L last n ls from rfl)
    have E4 := Lib.hid (show stN L last 1 = addN L last from rfl)
    go_enter Try.func12, Try.ntmps12
    go_wp2_with fail
    refine (C.add_ H.out n X cap ls HLAST.out HN.out HX.out HXN.out HL.out).mono ?_
    rintro e w1 ⟨own', rfl, h2, k2⟩
    have K2 := Lib.hid (O.out.trans k2)
    have H2 := Lib.hid h2
    clear h2 k2
    generalize addI L last = ai at hai E1
    generalize addE L = ae at hai E1
    have hw1 : IntKind.i64.wrap (2000 * ae) = 2000 * ae := by rw [IntKind.wrap_i64]; omega
    have hw2 : IntKind.i64.wrap (ai + 2000 * ae) = ai + 2000 * ae := by rw [IntKind.wrap_i64]; omega
    go_wp2_with fail
    go_ret2
    rw [E1.out, E2.out, E3.out, E4.out]
    exact ⟨_, none, 0, rfl, Dues.nil _ _ _, H2.out, K2.out⟩
  · have t1 : (k == 1) = false := beq_eq_false_iff_ne.2 h1
    by_cases h2 : k = 2
    · subst h2
      have E1 := Lib.hid (show stI L last 2 n = (if (getO L n).isSome then 1 else 0) from rfl)
      have E2 := Lib.hid (stR_two L n)
      have E3 := Lib.hid (show stL L last 2 n ls = rem L n from rfl)
      have E4 := Lib.hid (show stN L last 2 = last from rfl)
      clear h1 t1 hai
      go_enter Try.func12, Try.ntmps12
      go_wp2_with fail
      refine (C.rem_ H.out n HN.out).mono ?_
      cases hgo : getO L n with
      | none =>
        rw [hgo] at E1 E2
        rintro e w1 ⟨own', A, cap', rfl, -, h2, k2⟩
        have K2 := Lib.hid (O.out.trans k2)
        have H2 := Lib.hid h2
        clear h2 k2
        have eO : od none = (0, 0, []) := rfl
        rw [eO]
        simp only [Option.isSome_none]
        go_wp2_with fail
        go_ret2
        rw [E1.out, E2.out, E3.out, E4.out]
        have hb : Below w1.heap.size w1 (w1.alloc (.cells #[.int .i64 0, .int .i64 0, .slice A 0 cap'] 38)) := (Below.refl _ _).alloc (Nat.le_refl _) _
        exact ⟨_, none, ⟨0, rfl⟩, Dues.nil _ _ _, C.below H2.out hb, Kept.below K2.out hb⟩
      | some d =>
        rw [hgo] at E1 E2
        rintro e w1 ⟨own', A, cap', rfl, hr, h2, k2⟩
        have K2 := Lib.hid (O.out.trans k2)
        have H2 := Lib.hid h2
        have hR : Lims (Out own own' w w1) w1 A d.2.2 := (show Lims (Out own own' (w.alloc (dbox 2 n X ls.length cap)) w1) w1 A d.2.2 from hr).mono (HOUT.out _ _)
        have hsz : w.heap.size ≤ w1.heap.size := K2.out.1.size
        have eO : od (some d) = d := rfl
        rw [eO]
        obtain ⟨id, till, l⟩ := d
        simp only [Option.isSome_some]
        have hb : Below w1.heap.size w1 (w1.alloc (.cells #[.int .i64 (id : Nat), .int .i64 (till : Nat), .slice A l.length cap'] 38)) := (Below.refl _ _).alloc (Nat.le_refl _) _
        have HR : Hid (Lims (Out own own' w (w1.alloc (.cells #[.int .i64 (id : Nat), .int .i64 (till : Nat), .slice A l.length cap'] 38))) (w1.alloc (.cells #[.int .i64 (id : Nat), .int .i64 (till : Nat), .slice A l.length cap'] 38)) A l) := Lib.hid (hR.goes fun b hb' => ⟨hb.block b hb'.1.1, ⟨by simp; have := hb'.1.1; omega, hb'.1.2⟩, hb'.2⟩)
        have HSZ := Lib.hid (Nat.le_trans hsz hb.size)
        have H3 := Lib.hid (C.below H2.out hb)
        have K3 := Lib.hid (Kept.below K2.out hb)
        clear h2 k2 hr hR hb eO hsz
        go_wp2_with fail
        go_region
        go_wp2_with fail
        go_ret2
        rw [E1.out, E2.out, E3.out, E4.out]
        have hq := one_due (cap := cap') (d := (id, till, l)) HR.out (C.good H3.out).2.1 HSZ.out
        rw [World.size_alloc] at hq
        have hb3 := ((Below.refl (w1.alloc (.cells #[.int .i64 (id : Nat), .int .i64 (till : Nat), .slice A l.length cap'] 38)).heap.size (w1.alloc (.cells #[.int .i64 (id : Nat), .int .i64 (till : Nat), .slice A l.length cap'] 38))).alloc (Nat.le_refl _) (.cells #[.int .i64 (id : Nat), .int .i64 (till : Nat), .slice A l.length cap'] 38)).drew
        exact ⟨own', some ⟨w1.heap.size + 1, 0, none⟩, 1, rfl, hq.goes (fun b hb => ⟨rfl, hb⟩), C.below H3.out hb3, Kept.below K3.out hb3⟩

    · have t2 : (k == 2) = false := beq_eq_false_iff_ne.2 h2
      have E1 := Lib.hid (show stI L last k n = 0 by unfold stI; rw [if_neg h1, if_neg h2])
      have E2 := Lib.hid (show stR L k n = due L (clip n) by unfold stR; rw [if_neg h1, if_neg h2])
      have E3 := Lib.hid (show stL L last k n ls = left L (clip n) by unfold stL; rw [if_neg h1, if_neg h2])
      have E4 := Lib.hid (show stN L last k = last by unfold stN; rw [if_neg h1])
      clear h1 h2 hai
      go_enter Try.func12, Try.ntmps12
      go_wp2_with fail
      refine (C.due_ H.out n HN.out).mono ?_
      rintro e w1 ⟨own', A, cap', rfl, -, hr, h2, k2⟩
      have K2 := Lib.hid (O.out.trans k2)
      have H2 := Lib.hid h2
      have HR := Lib.hid (hr.mono (HOUT.out _ _))
      clear h2 k2 hr
      go_wp2_with fail
      go_ret2
      rw [E1.out, E2.out, E3.out, E4.out]
      exact ⟨_, _, _, rfl, HR.out, H2.out, K2.out⟩

theorem addr_zero (a : Addr) : a.add 0 = a := by simp [Addr.add]
def three : LL (List Lim) := [(1, 9, []), (2, 5, []), (3, 5, [])]
theorem due_three : due three (clip 5) = [(2, 5, []), (3, 5, [])] := by
  have h1 : clip 5 = 5 := by decide
  rw [h1]
  simp [due, three, srt, insU, Lt]
set_option maxHeartbeats 1000000 in
theorem known_calls (C : LC) (w : World) : Calls Try.prog 10 #[] w fun e w' => e = .returned (.bool true) ∧ Below w.heap.size w w' := by
  go_enter Try.func10, Try.ntmps10
  go_wp2_with fail
  refine (C.new_ _).mono ?_
  rintro e w1 ⟨v, o1, rfl, a1, b1, l1⟩
  have H1 : Hid (One C w w1 o1 v 0 []) := Lib.hid ⟨b1, a1, l1⟩
  clear a1 b1 l1
  go_wp2_with fail
  refine (C.add_ H1.out.2.1 9 none 0 [] (by decide) (by omega) (Lims.nil _ _ _) (fun _ => rfl) (by simp)).mono ?_
  rw [show addI ([] : LL (List Lim)) 0 = 1 by decide, show addE ([] : LL (List Lim)) = 0 by decide, show addN ([] : LL (List Lim)) 0 = 1 by decide, show add ([] : LL (List Lim)) 0 9 [] = [(1, 9, [])] from rfl]
  rintro e w2 ⟨o2, rfl, a2, k2⟩
  have H2 := Lib.hid (H1.out.turn a2 k2)
  clear a2 k2 H1
  go_wp2_with fail
  refine (C.add_ H2.out.2.1 5 none 0 [] (by decide) (by omega) (Lims.nil _ _ _) (fun _ => rfl) (by simp)).mono ?_
  rw [show addI ([(1, 9, [])] : LL (List Lim)) 1 = 2 by decide, show addE ([(1, 9, [])] : LL (List Lim)) = 0 by decide, show addN ([(1, 9, [])] : LL (List Lim)) 1 = 2 by decide, show add ([(1, 9, [])] : LL (List Lim)) 1 5 [] = [(1, 9, []), (2, 5, [])] from rfl]
  rintro e w3 ⟨o3, rfl, a3, k3⟩
  have H3 := Lib.hid (H2.out.turn a3 k3)
  clear a3 k3 H2
  go_wp2_with fail
  refine (C.add_ H3.out.2.1 5 none 0 [] (by decide) (by omega) (Lims.nil _ _ _) (fun _ => rfl) (by simp)).mono ?_
  rw [show addI ([(1, 9, []), (2, 5, [])] : LL (List Lim)) 2 = 3 by decide, show addE ([(1, 9, []), (2, 5, [])] : LL (List Lim)) = 0 by decide, show addN ([(1, 9, []), (2, 5, [])] : LL (List Lim)) 2 = 3 by decide, show add ([(1, 9, []), (2, 5, [])] : LL (List Lim)) 2 5 [] = three from rfl]
  rintro e w4 ⟨o4, rfl, a4, k4⟩
  have H4 := Lib.hid (H3.out.turn a4 k4)
  clear a4 k4 H3
  go_wp2_with fail
  refine (C.due_ H4.out.2.1 5 (by omega)).mono ?_
  rw [due_three]
  rintro e w5 ⟨o5, A, cap, rfl, -, hr, a5, k5⟩
  have H5 := Lib.hid (H4.out.turn a5 k5)
  clear a5 k5 H4
  obtain ⟨a, rfl, -, c0, -⟩ := hr.at_ (i := 0) (by decide)
  obtain ⟨a2, ea, -, c1, -⟩ := hr.at_ (i := 1) (by decide)
  injection ea with ea
  subst ea
  have eL : ([(2, 5, []), (3, 5, [])] : LL (List Lim)).length = 2 := rfl
  rw [eL]
  simp only [List.getElem_cons_zero, List.getElem_cons_succ] at c0 c1
  rw [Nat.zero_mul, addr_zero] at c0
  rw [show 1 * 3 = 0 + 3 from rfl, add_off a 0 3 (by decide), addr_zero] at c1
  go_wp2_with fail
  refine (C.lenNil _).mono ?_
  rintro e w6 ⟨rfl, hb⟩
  have H6 := Lib.hid (H5.out.below hb)
  clear hb
  go_wp2_with fail
  go_ret
  exact ⟨rfl, H6.out.1⟩
end Go.Proofs.Ytplinlgafgfepaa.Ld
