/-
  Remove, Len, New, Copy.
-/
import Derived.Test.YtplinlgafgfepaaLedFnA


namespace Go.Proofs.Ytplinlgafgfepaa.Ld
open Go.RowKit Go.Maps Pr

section
variable {w w' : World} {own : List Nat} {v p m last : Nat} {L : LL (List Lim)} {bl : Nat → Nat} {rs : List Nat} {D : Dt}
theorem Pr.Box.turned {w w' : World} {b m : Nat} {t : TypeId} {cs : Array Value} (h : Box w b t cs) (k : Only [m] w w') (hne : b ≠ m) : Box w' b t cs := (k.block b h.lt (by simpa using hne)).trans h
theorem In.rem (h : In w own v p m last L bl rs D) {id : Int} {n : Nat} (k : Only [m] w w') (hm : w'.ownsMap Try.prog 3 elem m n (D.del (klit id))) : In w' own v p m last (rem L id) bl rs (D.del (klit id)) :=
  h.fewer List.filter_sublist k hm (h.reads.del id fun x => mem_rem)

theorem only_set_new {o : List Nat} {a b : World} {g : Nat} (h : Only o a b) (hg : a.heap.size ≤ g) (j : Nat) (u : Value) : Only o a (b.setCell ⟨g, j, none⟩ u) :=
  ⟨h.os, h.tape, h.output, by simpa [World.setCell] using h.size, fun k hk hn => (Below.heap_setCell _ _ _ _ (by simp; omega)).trans (h.block k hk hn)⟩
theorem set3_other {w : World} {g k : Nat} (h : k ≠ g) (x y z : Value) : (((w.setCell ⟨g, 0, none⟩ x).setCell ⟨g, 1, none⟩ y).setCell ⟨g, 2, none⟩ z).heap[k]? = w.heap[k]? := by
  rw [Below.heap_setCell _ _ _ _ (by simpa using h), Below.heap_setCell _ _ _ _ (by simpa using h), Below.heap_setCell _ _ _ _ (by simpa using h)]

set_option maxRecDepth 100000 in
theorem Remove_calls (h : In w own v p m last L bl rs D) (id : Int) (hid : I64 id) :
    Calls Try.prog 25 #[.pointer (some ⟨v, 0, none⟩), .int .i64 id] w fun e w' => ∃ own' A cap, e = .returned (.tuple #[dv (od (getO L id)) A cap, .bool (getO L id).isSome]) ∧ Lims (Out own own' w w') w' A (od (getO L id)).2.2 ∧ At w' own' v last (Ld.rem L id) ∧ Kept own w own' w' := by
  have hb1 : Below w.heap.size w (w.alloc (.cells #[.int .i64 0, .int .i64 0, .slice none 0 0] 38)) := (Below.refl _ _).alloc (Nat.le_refl _) _
  have H1 := Lib.hid (h.below hb1)
  have H0 := Lib.hid h
  cases hgo : getO L id with
  | none =>
    have hG := Get_calls H1.out id hid
    rw [hgo] at hG
    have HG := Lib.hid hG
    have HR := Lib.hid (rem_none hgo)
    have B1 := Lib.hid hb1
    have eO : od (none : Option (Du (List Lim))) = (0, 0, []) := rfl
    rw [eO]
    simp only [Option.isSome_none]
    clear h hid hb1 hG eO hgo
    go_enter Try.func25, Try.ntmps25
    go_wp2_with fail
    refine HG.out.mono ?_
    rintro e w1 ⟨A, cap, rfl, -, -, hb2⟩
    have y := (Box.new w 38 #[.int .i64 0, .int .i64 0, .slice none 0 0]).keep hb2
    have hb := B1.out.trans (hb2.mono (by simp))
    have eO : od (none : Option (Du (List Lim))) = (0, 0, []) := rfl
    rw [eO]
    simp only [Option.isSome_none]
    have Y := Lib.hid (y.alloc (.cells #[.int .i64 0, .int .i64 0, .slice A 0 cap] 38))
    have HB := Lib.hid (hb.alloc hb.size (.cells #[.int .i64 0, .int .i64 0, .slice A 0 cap] 38))
    have HW := Lib.hid (Box.new w1 38 #[.int .i64 0, .int .i64 0, .slice A 0 cap])
    have H2 := Lib.hid ((H1.out.below hb2).below ((Below.refl _ _).alloc (Nat.le_refl _) (.cells #[.int .i64 0, .int .i64 0, .slice A 0 cap] 38)))
    have f0 := Y.out.free 0
    have f1 := Y.out.free 1
    have f2 := Y.out.free 2
    have d0 := Y.out.cell 0
    have d1 := Y.out.cell 1
    have d2 := Y.out.cell 2
    simp only [List.getElem?_toArray, List.getElem?_cons_zero, List.getElem?_cons_succ] at d0 d1 d2
    clear y hb hb2 eO
    go_wp2_with fail
    refine ret_d2 (b := .bool false) Try.results25 ?_ ?_ ?_ (Box.set3 Y.out _ _ _) ?_
    any_goals first | rfl | assumption
    have hbF := below_set3 (a := .int .i64 0) (b := .int .i64 0) (c := .slice A 0 cap) HB.out (Nat.le_refl w.heap.size)
    exact ⟨own, A, cap, rfl, Lims.nil _ _ _, ⟨p, m, bl, rs, D, by rw [HR.out]; exact H0.out.below hbF⟩, Kept.of_below hbF⟩
  | some x =>
    have hG := Get_calls H1.out id hid
    rw [hgo] at hG
    have HG := Lib.hid hG
    have HI := Lib.hid hid
    have B1 := Lib.hid hb1
    have eO : od (some x) = x := rfl
    rw [eO]
    simp only [Option.isSome_some]
    have HO := Lib.hid h.old
    clear h hid hb1 hG eO hgo
    go_enter Try.func25, Try.ntmps25
    go_wp2_with fail
    refine HG.out.mono ?_
    rintro e w1 ⟨A, cap, rfl, hl, -, hb2⟩
    have y := (Box.new w 38 #[.int .i64 0, .int .i64 0, .slice none 0 0]).keep hb2
    have hb := B1.out.trans (hb2.mono (by simp))
    have eO : od (some x) = x := rfl
    rw [eO] at hl ⊢
    simp only [Option.isSome_some]
    obtain ⟨id2, till, ls⟩ := x
    dsimp only at hl ⊢
    have Y := Lib.hid (y.alloc (.cells #[.int .i64 (id2 : Nat), .int .i64 (till : Nat), .slice A ls.length cap] 38))
    have HB := Lib.hid (hb.alloc hb.size (.cells #[.int .i64 (id2 : Nat), .int .i64 (till : Nat), .slice A ls.length cap] 38))
    have HW := Lib.hid (Box.new w1 38 #[.int .i64 (id2 : Nat), .int .i64 (till : Nat), .slice A ls.length cap])
    have H2 := Lib.hid ((H1.out.below hb2).below ((Below.refl _ _).alloc (Nat.le_refl _) (.cells #[.int .i64 (id2 : Nat), .int .i64 (till : Nat), .slice A ls.length cap] 38)))
    have HL := Lib.hid hl
    have hv := H2.out.vc
    have hm := H2.out.mc
    have HN3 : Hid ((w.heap.size ≠ m) ∧ (w1.heap.size ≠ m)) := Lib.hid (by have h1 := HO.out m H2.out.mm; have h2 := hb.size; constructor <;> omega)
    clear y hb hb2 eO hl
    go_wp2_with (at_delete; go_loud (refine wpList_delete_own _ rfl _ _ 66 3 rfl 38 klaw Try.underlying66 _ m _ D rfl H2.out.map _ _ rfl (key_of HI.out) ?_; intro w3 ho ht; have hk3 := turned_only ht; have y3 := Y.out.turned hk3 HN3.out.1; have z3 := HW.out.turned hk3 HN3.out.2; have f0 := y3.free 0; have f1 := y3.free 1; have f2 := y3.free 2; have d0 := y3.cell 0; have d1 := y3.cell 1; have d2 := y3.cell 2; have e0 := z3.cell 0; have e1 := z3.cell 1; have e2 := z3.cell 2; simp only [List.getElem?_toArray, List.getElem?_cons_zero, List.getElem?_cons_succ] at d0 d1 d2 e0 e1 e2; have Y3 := Lib.hid y3; have K3 := Lib.hid hk3; have O3 := Lib.hid ho; clear y3 z3 hk3 ho ht))
    refine ret_d2 (b := .bool true) Try.results25 ?_ ?_ ?_ (Box.set3 Y3.out _ _ _) ?_
    any_goals first | rfl | assumption
    have kF : Only [m] w (((w3.setCell ⟨w.heap.size, 0, none⟩ (.int .i64 (id2 : Nat))).setCell ⟨w.heap.size, 1, none⟩ (.int .i64 (till : Nat))).setCell ⟨w.heap.size, 2, none⟩ (.slice A ls.length cap)) :=
      only_set_new (only_set_new (only_set_new ((Only.of_below [m] HB.out).also K3.out) (Nat.le_refl _) _ _) (Nat.le_refl _) _ _) (Nat.le_refl _) _ _
    have mF := ownsMap_eq O3.out (set3_other (w := w3) (fun e => HN3.out.1 e.symm) (.int .i64 (id2 : Nat)) (.int .i64 (till : Nat)) (.slice A ls.length cap))
    have hI := H0.out.rem kF mF
    refine ⟨own, A, ⟨cap, rfl⟩, HL.out.goes fun b hb => ?_, ⟨p, m, bl, rs, _, hI⟩, H0.out.kept_m kF⟩
    obtain ⟨⟨h1, h2⟩, h3 | h3⟩ := hb
    · cases h3
    · simp at h3
      have hbm : b ≠ m := fun e => h2 (e ▸ H0.out.mm)
      have e1 : ((((w3.setCell ⟨w.heap.size, 0, none⟩ (.int .i64 (id2 : Nat))).setCell ⟨w.heap.size, 1, none⟩ (.int .i64 (till : Nat))).setCell ⟨w.heap.size, 2, none⟩ (.slice A ls.length cap))).heap[b]? = w1.heap[b]? := by
        rw [set3_other (by omega), K3.out.block b (by simp; omega) (by simpa using hbm)]
        exact Below.heap_alloc _ _ _ h1
      refine ⟨e1, out_new HO.out (by omega) ?_⟩
      have := Array.getElem?_eq_some_iff.1 (e1.trans (Array.getElem?_eq_getElem h1))
      exact this.1

theorem len_run (h : In w own v p m last L bl rs D) (ty : TypeId) : (Builtin.len_ #[66] ty #[.map (some m)]).run Try.prog w = .ok (.int .i64 (L.length : Nat)) w := by
  rw [h.map.len Try.underlying66 ty, size_is h.map h.reads h.good.rise]
theorem Len_calls (h : In w own v p m last L bl rs D) :
    Calls Try.prog 20 #[.pointer (some ⟨v, 0, none⟩)] w fun e w' => e = .returned (.int .i64 (L.length : Nat)) ∧ Below w.heap.size w w' := by
  have c1 := h.vc
  have c2 := h.mc
  have hl := fun ty => len_run h ty
  clear h
  go_enter Try.func20, Try.ntmps20
  go_wp2_with fail
  refine (made_calls v p _ c1).mono ?_
  rintro e w1 ⟨rfl, rfl⟩
  go_wp2_with fail
  go_ret
  exact ⟨rfl, Below.refl _ _⟩
theorem New_calls (w : World) :
    Calls Try.prog 11 #[] w fun e w' => ∃ v own, e = .returned (.pointer (some ⟨v, 0, none⟩)) ∧ At w' own v 0 [] ∧ Below w.heap.size w w' ∧ ∀ x ∈ own, w.heap.size ≤ x := by
  have hmm := @run_makeMap Try.prog
  go_enter Try.func11, Try.ntmps11
  go_wp2_with fail
  go_ret
  refine ⟨w.heap.size + 1 + 1, [w.heap.size + 1 + 1, w.heap.size + 1, w.heap.size], by rfl, ⟨w.heap.size + 1, w.heap.size, fun _ => 0, [], .map [], ?_⟩, (((Below.refl _ _).alloc (Nat.le_refl _) _).alloc (by simp) _).alloc (by simp; omega) _, by simp; omega⟩
  refine ⟨Good.nil 0, by omega, by simp, rfl, ?_, (Box.new1 w _ _ _).alloc _, ((World.ownsMap_made w _ _ _).alloc _).alloc _, Reads.nil, by simp, by simp⟩
  have := Box.new ((w.alloc (.map #[] 0)).alloc (.cells #[.int .i64 0, .map (some w.heap.size)] 68)) 70 #[.pointer (some ⟨w.heap.size + 1, 0, none⟩)]
  simpa using this
end
end Go.Proofs.Ytplinlgafgfepaa.Ld
