/-
  A box that holds an answer: its four cells.
-/
import Derived.Test.YtflmolhkbpicbaaDoorKRpyBck
namespace Go.Proofs.YtflmolhkbpicbaaDoor.Ry
open Go.RowKit
open Gw

abbrev c4 (x : Rep) (A : Option Addr) (c : Nat) : Array Value := #[.int .i64 x.k, .string (bat x.t), .int .i64 x.n, .slice A x.l.length c]
abbrev Bx (W : World) (g : Nat) (x : Rep) (A : Option Addr) (c : Nat) : Prop := Box W g 25 (c4 x A c)
set_option maxRecDepth 100000 in
theorem Bx.four {W : World} {g : Nat} {x : Rep} {A : Option Addr} {c : Nat} (h : Bx W g x A c) : W.cell? ⟨g, 0, none⟩ = some (.int .i64 x.k) ∧ W.cell? ⟨g, 1, none⟩ = some (.string (bat x.t)) ∧ W.cell? ⟨g, 2, none⟩ = some (.int .i64 x.n) ∧ W.cell? ⟨g, 3, none⟩ = some (.slice A x.l.length c) :=
  ⟨h.cell 0, h.cell 1, h.cell 2, h.cell 3⟩
set_option maxRecDepth 100000 in
theorem txL_max {x : Rep} (h : longR x ≤ 1500) : x.l.length ≤ 1500 := by
  have := txL_len x.l
  unfold longR at h
  omega
set_option maxRecDepth 100000 in
theorem Box.new2 (w : World) (t : TypeId) (cs : Array Value) (o p : Obj) : Box (((w.alloc o).alloc p).alloc (.cells cs t)) (w.heap.size + 1 + 1) t cs := by
  have := Box.new ((w.alloc o).alloc p) t cs; simpa using this
set_option maxRecDepth 100000 in
/-- two boxes and a literal of both -/
theorem front3 (w : World) (x y : Rep) (A D : Option Addr) (ca cd : Nat) (L : Array Value) :
    Bx (((w.alloc (.cells #[.int .i64 x.k, .string (bat x.t), .int .i64 x.n, .slice A x.l.length ca] 25)).alloc (.cells #[.int .i64 y.k, .string (bat y.t), .int .i64 y.n, .slice D y.l.length cd] 25)).alloc (.cells L 25)) w.heap.size x A ca ∧
    Bx (((w.alloc (.cells #[.int .i64 x.k, .string (bat x.t), .int .i64 x.n, .slice A x.l.length ca] 25)).alloc (.cells #[.int .i64 y.k, .string (bat y.t), .int .i64 y.n, .slice D y.l.length cd] 25)).alloc (.cells L 25)) (w.heap.size + 1) y D cd ∧
    Box (((w.alloc (.cells #[.int .i64 x.k, .string (bat x.t), .int .i64 x.n, .slice A x.l.length ca] 25)).alloc (.cells #[.int .i64 y.k, .string (bat y.t), .int .i64 y.n, .slice D y.l.length cd] 25)).alloc (.cells L 25)) (w.heap.size + 1 + 1) 25 L ∧
    Below w.heap.size w (((w.alloc (.cells #[.int .i64 x.k, .string (bat x.t), .int .i64 x.n, .slice A x.l.length ca] 25)).alloc (.cells #[.int .i64 y.k, .string (bat y.t), .int .i64 y.n, .slice D y.l.length cd] 25)).alloc (.cells L 25)) :=
  ⟨((Box.new _ _ _).alloc _).alloc _, (Box.new1 _ _ _ _).alloc _, Box.new2 _ _ _ _ _, (((Below.refl _ _).alloc (Nat.le_refl _) _).alloc (by simp) _).alloc (by simp; omega) _⟩
set_option maxRecDepth 100000 in
/-- two answers of a literal, looked at by Long -/
theorem long2_calls {x y : Rep} {A D : Option Addr} {ca cd : Nat} {W : World} {g : Nat} (hg : Box W g 25 #[.int .i64 x.k, .string (bat x.t), .int .i64 x.n, .slice A x.l.length ca, .int .i64 y.k, .string (bat y.t), .int .i64 y.n, .slice D y.l.length cd]) (hA : Rd4 W x A ca) (hD : Rd4 W y D cd) (hl : longR x + longR y ≤ 4611686018427387904) :
    Calls Tryd.prog 9 #[.slice (some ⟨g, 0, none⟩) 2 2] W fun e w' => e = .returned (.int .i64 ((longR x + longR y : Nat) : Int)) ∧ W = w' := by
  have hQ := RdQ.lit (L := [(x, A, ca), (y, D, cd)]) hg (hA.two hD) (fun y hy q => by simp [rs] at hy; rcases hy with rfl | rfl <;> first | exact hA.tab q | exact hD.tab q)
  have e : longs (rs [(x, A, ca), (y, D, cd)]) = longR x + longR y := by simp [longs]
  have := long_calls (some ⟨g, 0, none⟩) 2 [(x, A, ca), (y, D, cd)] W hQ.reps hQ.txs (by rw [e]; exact hl)
  rw [e] at this
  exact this
set_option maxRecDepth 100000 in
/-- one answer of a literal, encoded -/
theorem encode1_calls (C : YC) {x : Rep} {A : Option Addr} {ca : Nat} {W : World} {g : Nat} (hg : Bx W g x A ca) (hA : Rd4 W x A ca) (hl : longR x ≤ 1500) (hn : N64 x) :
    Calls Tryd.prog 16 #[.slice (some ⟨g, 0, none⟩) 1 1] W fun e w' => (∃ V c, e = .returned (.slice V (enc x).length c) ∧ Bts w' V (enc x)) ∧ Below W.heap.size W w' := by
  have e : longs (rs [(x, A, ca)]) = longR x := by simp [longs]
  refine (C.encode_ (some ⟨g, 0, none⟩) 1 [(x, A, ca)] W (RdQ.lit (L := [(x, A, ca)]) hg hA.one (fun y hy q => by simp [rs] at hy; subst hy; exact hA.tab q)) (by rw [e]; omega) (by intro z hz; simp at hz; subst hz; exact hn)).mono ?_
  rintro e w' ⟨⟨v, rfl, hv⟩, hb⟩
  rw [show encs (rs [(x, A, ca)]) = enc x from encs_one x] at hv
  obtain ⟨V, c, rfl, hB, -⟩ := hv.view
  exact ⟨⟨V, c, rfl, hB⟩, hb⟩
set_option maxRecDepth 100000 in
/-- a box is made and filled -/
theorem made4 (w : World) (p : Rep) (A : Option Addr) (c : Nat) :
    Bx (w.alloc (.cells #[.int .i64 p.k, .string (bat p.t), .int .i64 p.n, .slice A p.l.length c] 25)) w.heap.size p A c ∧
    Below w.heap.size w (w.alloc (.cells #[.int .i64 p.k, .string (bat p.t), .int .i64 p.n, .slice A p.l.length c] 25)) :=
  ⟨Box.new _ _ _, (Below.refl _ _).alloc (Nat.le_refl _) _⟩
end Go.Proofs.YtflmolhkbpicbaaDoor.Ry
