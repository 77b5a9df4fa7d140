/-
  Whether there is a ledger; what is looked up; Get, Remove, Len, New.
-/
import Derived.Test.YtplinlgafgfepaaLedMap
import Derived.WalkSpells
import Derived.BigQuiet
import Derived.BigRegion
import Derived.Deep.RegionHeld3
import Derived.StillTailTactics
namespace Go.Proofs.Ytplinlgafgfepaa.Ld
open Go.RowKit Go.Maps Pr

theorem clamp_calls (t : Int) (w : World) : Calls Try.prog 35 #[.int .i64 t] w fun e w' => e = .returned (.int .i64 (clip t : Nat)) ∧ w' = w := by
  by_cases h1 : t < 0
  · have E := Lib.hid (show ((clip t : Nat) : Int) = 0 by unfold clip; rw [if_pos h1]; rfl)
    go_enter Try.func35, Try.ntmps35
    go_wp2
    go_ret
    exact ⟨by rw [E.out]; rfl, rfl⟩
  · by_cases h2 : 9007199254740992 < t
    · have E := Lib.hid (show ((clip t : Nat) : Int) = 9007199254740992 by unfold clip; rw [if_neg h1, if_pos h2]; rfl)
      go_enter Try.func35, Try.ntmps35
      go_wp2
      go_ret
      exact ⟨by rw [E.out]; rfl, rfl⟩
    · have E := Lib.hid (show ((clip t : Nat) : Int) = t by unfold clip; rw [if_neg h1, if_neg h2]; omega)
      go_enter Try.func35, Try.ntmps35
      go_wp2
      go_ret
      exact ⟨by rw [E.out]; rfl, rfl⟩
theorem made_calls (v p : Nat) (w : World) (hc : w.cell? ⟨v, 0, none⟩ = some (.pointer (some ⟨p, 0, none⟩))) :
    Calls Try.prog 30 #[.pointer (some ⟨v, 0, none⟩)] w fun r w' => r = .returned (.bool true) ∧ w' = w := by
  go_enter Try.func30, Try.ntmps30
  go_wp2
  go_ret
  exact ⟨rfl, rfl⟩
theorem madeNil_calls (w : World) :
    Calls Try.prog 30 #[.pointer none] w fun r w' => r = .returned (.bool false) ∧ w' = w := by
  go_enter Try.func30, Try.ntmps30
  go_wp2
  go_ret
  exact ⟨rfl, rfl⟩
theorem lenNil_calls (w : World) : Calls Try.prog 20 #[.pointer none] w fun e w' => e = .returned (.int .i64 0) ∧ Below w.heap.size w w' := by
  go_enter Try.func20, Try.ntmps20
  go_wp2_with fail
  refine (madeNil_calls _).mono ?_
  rintro e w1 ⟨rfl, rfl⟩
  go_wp2_with fail
  go_ret
  exact ⟨rfl, Below.refl _ _⟩

abbrev zdue : Value := .agg #[.int .i64 0, .int .i64 0, .slice none 0 0]
theorem wpList_look_some {w : World} {ops : Array Oper} {rest : List Oper} {o : Oper} {a : Go.Act} {Q : Exit → Go.Act → World → Prop} (hg : o.guard = none) (i x : Operand) (hop : o.op = Op.lookup 66 i x true)
    {own : List Nat} {v p m last : Nat} {L : LL (List Lim)} {bl : Nat → Nat} {rs : List Nat} {D : Dt} (h : In w own v p m last L bl rs D) {y : Du (List Lim)} (hy : y ∈ L) {id : Int} (he : (y.1 : Int) = id) (hm : a.eval i = .map (some m)) (hx : a.eval x = .int .i64 id)
    (hK : wpList Try.prog ops Q rest (a.put o.dst (.tuple #[.agg #[.int .i64 (y.1 : Nat), .int .i64 (y.2.1 : Nat), .slice (la (bl y.1) y.2.2.length) y.2.2.length y.2.2.length], .bool true])) w) : wpList Try.prog ops Q (o :: rest) a w := by
  refine wpList_lookup_own_ok w hg i x _ hop 3 38 klaw Try.underlying66 elem (Try.zeroValue38 w) _ _ rfl m _ D hm h.map _ (klit id) hx (key_of (he ▸ h.ids hy)) (fun v2 ps hv => ?_)
  rw [(h.reads.has id).2 ⟨y, hy, he⟩]
  have e := elem_inv hv
  rw [← he, h.reads.at_ y hy] at e
  have e2 := congrArg Prod.fst e
  simp only [DataW.held.injEq] at e2
  rw [← e2]
  exact hK
theorem wpList_look_none {w : World} {ops : Array Oper} {rest : List Oper} {o : Oper} {a : Go.Act} {Q : Exit → Go.Act → World → Prop} (hg : o.guard = none) (i x : Operand) (hop : o.op = Op.lookup 66 i x true)
    {own : List Nat} {v p m last : Nat} {L : LL (List Lim)} {bl : Nat → Nat} {rs : List Nat} {D : Dt} (h : In w own v p m last L bl rs D) {id : Int} (hid : I64 id) (he : ∀ y ∈ L, (y.1 : Int) ≠ id) (hm : a.eval i = .map (some m)) (hx : a.eval x = .int .i64 id)
    (hK : wpList Try.prog ops Q rest (a.put o.dst (.tuple #[zdue, .bool false])) w) : wpList Try.prog ops Q (o :: rest) a w := by
  have hn : Maps.has D (klit id) = false := by
    cases e : Maps.has D (klit id) with
    | false => rfl
    | true =>
      obtain ⟨y, hy, e2⟩ := (h.reads.has id).1 e
      exact absurd e2 (he y hy)
  refine wpList_lookup_own_ok w hg i x _ hop 3 38 klaw Try.underlying66 elem (Try.zeroValue38 w) _ _ rfl m _ D hm h.map _ (klit id) hx (key_of hid) (fun v2 ps hv => ?_)
  rw [hn]
  have e := elem_inv hv
  rw [Maps.atKey_of_not_has hn] at e
  have e2 := congrArg Prod.fst e
  simp only [DataW.held.injEq] at e2
  rw [← e2]
  exact hK

section
variable {w w' : World} {own : List Nat} {v p m last : Nat} {L : LL (List Lim)} {bl : Nat → Nat} {rs : List Nat} {D : Dt}
/-- the stored limits lie there -/
theorem In.stored (h : In w own v p m last L bl rs D) {x : Du (List Lim)} (hx : x ∈ L) : Lims (fun _ => True) w (la (bl x.1) x.2.2.length) x.2.2 := LBlk.lims fun h0 => ⟨trivial, (h.lims x hx h0).2⟩
/-- a new block is no ledger's -/
theorem out_new {own o2 : List Nat} {w w' : World} {g : Nat} (h : ∀ x ∈ own, x < w.heap.size) (hg : w.heap.size ≤ g) (hl : g < w'.heap.size) : Out o2 own w w' g := ⟨⟨hl, fun hc => by have := h g hc; omega⟩, .inr hg⟩

theorem copied_zero (w : World) : Calls Try.prog 31 #[zdue] w fun e w' => e = .returned zdue ∧ Below w.heap.size w w' :=
  (copied_calls (S := fun _ => True) 0 0 none 0 [] w (Lims.nil _ _ _) (by simp)).mono fun _ _ ⟨_, he, _, hb⟩ => ⟨he, hb⟩
theorem In.copied (h : In w own v p m last L bl rs D) {x : Du (List Lim)} (hx : x ∈ L) : Calls Try.prog 31 #[.agg #[.int .i64 (x.1 : Nat), .int .i64 (x.2.1 : Nat), .slice (la (bl x.1) x.2.2.length) x.2.2.length x.2.2.length]] w fun e w' => ∃ g, e = .returned (.agg #[.int .i64 (x.1 : Nat), .int .i64 (x.2.1 : Nat), .slice (la g x.2.2.length) x.2.2.length x.2.2.length]) ∧ (x.2.2 ≠ [] → w.heap.size ≤ g ∧ LBlk w' g x.2.2) ∧ Below w.heap.size w w' :=
  copied_calls _ _ _ _ _ _ (h.stored hx) (h.fits x hx)

set_option maxRecDepth 100000 in
theorem Get_calls (h : In w own v p m last L bl rs D) (id : Int) (hid : I64 id) :
    Calls Try.prog 14 #[.pointer (some ⟨v, 0, none⟩), .int .i64 id] w fun e w' => ∃ A cap, e = .returned (.tuple #[dv (od (getO L id)) A cap, .bool (getO L id).isSome]) ∧ Lims (Out [] own w w') w' A (od (getO L id)).2.2 ∧ LNew w.heap.size w' A (od (getO L id)).2.2 ∧ Below w.heap.size w w' := by
  have hb1 : Below w.heap.size w (w.alloc (.cells #[.int .i64 0, .int .i64 0, .slice none 0 0] 38)) := (Below.refl _ _).alloc (Nat.le_refl _) _
  have H1 := Lib.hid (h.below hb1)
  have c1 := H1.out.vc
  have c2 := H1.out.mc
  cases hgo : getO L id with
  | none =>
    have HN := Lib.hid (getO_none.1 hgo)
    have HI := Lib.hid hid
    have B1 := Lib.hid hb1
    clear h hgo hid hb1
    go_enter Try.func14, Try.ntmps14
    go_wp2_with fail
    refine (made_calls v p _ c1).mono ?_
    rintro e w1 ⟨rfl, rfl⟩
    go_wp2_with (at_lookup; refine wpList_look_none rfl _ _ rfl H1.out HI.out HN.out rfl rfl ?_)
    refine (copied_zero _).mono ?_
    rintro e w2 ⟨rfl, hb2⟩
    have y := ((Box.new w 38 #[.int .i64 0, .int .i64 0, .slice none 0 0]).alloc (.cells #[.int .i64 0, .int .i64 0, .slice none 0 0] 38)).keep hb2
    have hb := ((B1.out.alloc (by simp) (.cells #[.int .i64 0, .int .i64 0, .slice none 0 0] 38)).trans (hb2.mono (by simp; omega)))
    have f0 := y.free 0
    have f1 := y.free 1
    have f2 := y.free 2
    have d0 := y.cell 0
    have d1 := y.cell 1
    have d2 := y.cell 2
    simp only [List.getElem?_toArray, List.getElem?_cons_zero, List.getElem?_cons_succ] at d0 d1 d2
    have Y := Lib.hid y
    have HB := Lib.hid hb
    clear y hb hb2 c1 c2
    go_wp2_with fail
    refine ret_d2 (b := .bool false) Try.results14 ?_ ?_ ?_ (Box.set3 Y.out _ _ _) ?_
    any_goals first | rfl | assumption
    exact ⟨none, 0, rfl, Lims.nil _ _ _, .inl rfl, below_set3 HB.out (Nat.le_refl _) _ _ _⟩
  | some x =>
    obtain ⟨hx, he⟩ := getO_mem hgo
    have HX := Lib.hid hx
    have HE := Lib.hid he
    have HO := Lib.hid h.old
    have B1 := Lib.hid hb1
    clear h hgo hid hb1 hx he
    go_enter Try.func14, Try.ntmps14
    go_wp2_with fail
    refine (made_calls v p _ c1).mono ?_
    rintro e w1 ⟨rfl, rfl⟩
    go_wp2_with (at_lookup; refine wpList_look_some rfl _ _ rfl H1.out HX.out HE.out rfl rfl ?_)
    have hb3 : Below (w.alloc (.cells #[.int .i64 0, .int .i64 0, .slice none 0 0] 38)).heap.size (w.alloc (.cells #[.int .i64 0, .int .i64 0, .slice none 0 0] 38)) ((w.alloc (.cells #[.int .i64 0, .int .i64 0, .slice none 0 0] 38)).alloc (.cells #[.int .i64 (x.1 : Nat), .int .i64 (x.2.1 : Nat), .slice (la (bl x.1) x.2.2.length) x.2.2.length x.2.2.length] 38)) := (Below.refl _ _).alloc (Nat.le_refl _) _
    refine (In.copied (H1.out.below hb3) HX.out).mono ?_
    rintro e w2 ⟨g, rfl, hl, hb2⟩
    have y := ((Box.new w 38 #[.int .i64 0, .int .i64 0, .slice none 0 0]).alloc (.cells #[.int .i64 (x.1 : Nat), .int .i64 (x.2.1 : Nat), .slice (la (bl x.1) x.2.2.length) x.2.2.length x.2.2.length] 38)).keep hb2
    have hb := ((B1.out.alloc (by simp) (.cells #[.int .i64 (x.1 : Nat), .int .i64 (x.2.1 : Nat), .slice (la (bl x.1) x.2.2.length) x.2.2.length x.2.2.length] 38)).trans (hb2.mono (by simp; omega)))
    have f0 := y.free 0
    have f1 := y.free 1
    have f2 := y.free 2
    have d0 := y.cell 0
    have d1 := y.cell 1
    have d2 := y.cell 2
    simp only [List.getElem?_toArray, List.getElem?_cons_zero, List.getElem?_cons_succ] at d0 d1 d2
    have Y := Lib.hid y
    have HB := Lib.hid hb
    have HL := Lib.hid hl
    clear y hb hb2 hb3 c1 c2 hl
    go_wp2_with fail
    refine ret_d2 (b := .bool true) Try.results14 ?_ ?_ ?_ (Box.set3 Y.out _ _ _) ?_
    any_goals first | rfl | assumption
    have hlk : x.2.2 ≠ [] → w.heap.size + 2 ≤ g ∧ LBlk (((w2.setCell ⟨w.heap.size, 0, none⟩ (.int .i64 (x.1 : Nat))).setCell ⟨w.heap.size, 1, none⟩ (.int .i64 (x.2.1 : Nat))).setCell ⟨w.heap.size, 2, none⟩ (.slice (la g x.2.2.length) x.2.2.length x.2.2.length)) g x.2.2 := fun h0 => by
      obtain ⟨h1, h2⟩ := HL.out h0
      simp at h1
      refine ⟨by omega, h2.of ?_⟩
      rw [Below.heap_setCell _ _ _ _ (by simp; omega), Below.heap_setCell _ _ _ _ (by simp; omega), Below.heap_setCell _ _ _ _ (by simp; omega)]
    refine ⟨la g x.2.2.length, x.2.2.length, rfl, LBlk.lims fun h0 => ⟨out_new HO.out (by have := (hlk h0).1; omega) (hlk h0).2.lt, (hlk h0).2⟩, LBlk.lnew fun h0 => ⟨by have := (hlk h0).1; omega, (hlk h0).2⟩, below_set3 HB.out (Nat.le_refl _) _ _ _⟩
end
end Go.Proofs.Ytplinlgafgfepaa.Ld
