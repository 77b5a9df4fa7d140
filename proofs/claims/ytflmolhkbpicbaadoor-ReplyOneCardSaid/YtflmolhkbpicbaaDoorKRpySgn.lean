/-
  What stands behind a sign: a line, a number, a text.
-/
import Derived.Test.YtflmolhkbpicbaaDoorKRpyNbr
namespace Go.Proofs.YtflmolhkbpicbaaDoor
open Go.RowKit
namespace Ry
variable {w w' : World} {pb : Nat} {s : ByteArray} {e : Int}

set_option maxRecDepth 100000 in
theorem box_only {own : List Nat} {b : Nat} {t : TypeId} {cs : Array Value} (h : Box w b t cs) (k : Only own w w') (hn : b ∉ own) : Box w' b t cs := by
  unfold Box at *
  rw [k.block b (Array.getElem?_eq_some_iff.1 h).1 hn]; exact h
/-- what a sign's reader hands back -/
def SgOut (x : Ending) (w' : World) (pb B : Nat) (R : Rd Rep) : Prop := ∃ y A cap, x = .returned (rv y A cap) ∧ match R with
  | .ok v r => y = v ∧ Rs w' pb (bat r) 0 ∧ SRow w' B (.slice A y.l.length cap) (y.l.map bat)
  | .err k => k ≠ 0 ∧ ∃ s', Rs w' pb s' k
set_option maxRecDepth 100000 in
theorem fl0 (k : Int) : fl 0 k = k := rfl
set_option maxRecDepth 100000 in
theorem fl_no {e k : Int} (h : e ≠ 0) : fl e k = e := if_neg h
set_option maxRecDepth 100000 in
theorem no_texts (w : World) : Texts w none (([] : List Bytes).map bat) := fun i hi => absurd hi (Nat.not_lt_zero i)
set_option maxRecDepth 100000 in
theorem line_err {M : Bytes → Bool → Bool} {s : Bytes} {k : Nat} (h : lineP M s = .err k) : k = 8 ∨ k = 9 := by
  unfold lineP at h
  cases hc : cutR s with
  | none => rw [hc] at h; simp only at h; split at h <;> (injection h with h; omega)
  | some p => rw [hc] at h; simp only at h; split at h <;> (first | (injection h with h; omega) | cases h)
set_option maxRecDepth 100000 in
theorem nbr_err {lo hi : Int} {s : Bytes} {k : Nat} (h : numR lo hi s = .err k) : k = 8 ∨ k = 9 := by
  rw [num_cut] at h
  cases hl : lineP (numP lo hi) s with
  | ok l r => rw [hl] at h; cases h
  | err j => rw [hl] at h; simp only [numV, Rd.err.injEq] at h; subst h; exact line_err hl
set_option maxRecDepth 100000 in
theorem wpList_store_only {w : World} {ops : Array Oper} {rest : List Oper} {o : Oper} {a : Act} {Q : Exit → Act → World → Prop} (hgd : o.guard = none) (ty : TypeId) (x y : Operand) (ho : o.op = .store ty x y)
    (g : Nat) (cells : Array Value) (hx : a.eval x = .pointer (some ⟨g, 0, none⟩)) (hy : a.eval y = .agg cells) (old : Array Value) (hg : Box w g ty old) (hi : (Tryd.prog.info? ty).map (·.size) = some cells.size)
    (hold : old.size = cells.size) (h1 : cells.all (·.oneCell') = true)
    (h : ∀ w', Box w' g ty cells → Only [g] w w' → wpList Tryd.prog ops Q rest (a.put o.dst undef) w') : wpList Tryd.prog ops Q (o :: rest) a w :=
  wpList_store_row hgd ty x y ho g cells hx hy ty old hg hi hold h1 (h _ (setRow_heap w g _ _ _ _ hg) ⟨rfl, rfl, rfl, by simp [World.setRow], fun k _ hn => setRow_other w g k cells (fun e => hn (by simp [e]))⟩)
abbrev z4 : Array Value := #[.int .i64 0, .string ⟨#[]⟩, .int .i64 0, .slice none 0 0]

set_option maxRecDepth 100000 in
set_option maxHeartbeats 2000000 in
theorem sg_1 (h : Rs w pb s 0) (hs : s.size ≤ 65000) (hT : Tb w) :
    Calls Tryd.prog 53 #[.pointer (some ⟨pb, 0, none⟩)] w fun x w' => SgOut x w' pb w.heap.size (mapR (fun t => ⟨1, t, 0, []⟩) (textR [] s.data.toList)) ∧ Only [pb] w w' := by
  rw [text_any]
  have hb : Below w.heap.size w (w.alloc (.cells z4 25)) := (Below.refl _ w).alloc (Nat.le_refl _) _
  have HLN := Lib.hid (line_any (h.keep hb) hs (hT.keep hb))
  have HK := Lib.hid (only_below hb [pb])
  have hlt := h.lt
  have hne : w.heap.size ∉ [pb] := by simp; omega
  have hpn : pb ∉ [w.heap.size] := by simp; omega
  have hin : ∀ x ∈ [w.heap.size], x ∈ [pb] ∨ w.heap.size ≤ x := fun x hx => Or.inr (by simp at hx; omega)
  have HX := Lib.hid (Box.new w 25 z4)
  have HE := Lib.hid (fun k (q : lineP anyM s.data.toList = .err k) => line_err q)
  clear h hT hb
  generalize lineP anyM s.data.toList = R at HLN HE ⊢
  cases R with
  | ok l r =>
    go_enter Tryd.func53, Tryd.ntmps53
    go_wp2_with fail
    refine HLN.out.mono ?_
    rintro x w1 ⟨⟨rfl, h1⟩, hk1⟩
    have HB := Lib.hid (box_only HX.out hk1 hne)
    have H1 := Lib.hid h1
    have HK1 := Lib.hid (HK.out.also hk1)
    clear h1 hk1
    go_wp2_with (refine wpList_store_only rfl 25 _ _ rfl w.heap.size _ rfl rfl _ HB.out r_size rfl (by simp [Value.oneCell']) ?_)
    intro w2 p2 k2
    have P2 := Lib.hid p2
    have H2 := Lib.hid (H1.out.only k2 hpn)
    have HK2 := Lib.hid (HK1.out.trans k2 hin)
    clear p2 k2
    go_wp2_with fail
    refine ret_r1 Tryd.results53 rfl rfl P2.out ?_
    exact ⟨⟨_, none, 0, rfl, rfl, H2.out, SRow.nil _ _⟩, HK2.out⟩
  | err k =>
    have hk0 : (k : Int) ≠ 0 := by have := HE.out k rfl; omega
    clear HE
    go_enter Tryd.func53, Tryd.ntmps53
    go_wp2_with fail
    refine HLN.out.mono ?_
    rintro x w1 ⟨⟨rfl, h1⟩, hk1⟩
    have HB := Lib.hid (box_only HX.out hk1 hne)
    have H1 := Lib.hid h1
    have HK1 := Lib.hid (HK.out.also hk1)
    clear h1 hk1
    go_wp2_with (refine wpList_store_only rfl 25 _ _ rfl w.heap.size _ rfl rfl _ HB.out r_size rfl (by simp [Value.oneCell']) ?_)
    intro w2 p2 k2
    have P2 := Lib.hid p2
    have H2 := Lib.hid (H1.out.only k2 hpn)
    have HK2 := Lib.hid (HK1.out.trans k2 hin)
    clear p2 k2
    go_wp2_with fail
    refine ret_r1 Tryd.results53 rfl rfl P2.out ?_
    exact ⟨⟨⟨1, [], 0, []⟩, none, 0, rfl, by intro q; exact hk0 (by exact_mod_cast q), s, H2.out⟩, HK2.out⟩

set_option maxRecDepth 100000 in
set_option maxHeartbeats 2000000 in
theorem sg_2 (h : Rs w pb s 0) (hs : s.size ≤ 65000) (hT : Tb w) :
    Calls Tryd.prog 56 #[.pointer (some ⟨pb, 0, none⟩)] w fun x w' => SgOut x w' pb w.heap.size (mapR (fun t => ⟨2, t, 0, []⟩) (textR [] s.data.toList)) ∧ Only [pb] w w' := by
  rw [text_any]
  have hb : Below w.heap.size w (w.alloc (.cells z4 25)) := (Below.refl _ w).alloc (Nat.le_refl _) _
  have HLN := Lib.hid (line_any (h.keep hb) hs (hT.keep hb))
  have HK := Lib.hid (only_below hb [pb])
  have hlt := h.lt
  have hne : w.heap.size ∉ [pb] := by simp; omega
  have hpn : pb ∉ [w.heap.size] := by simp; omega
  have hin : ∀ x ∈ [w.heap.size], x ∈ [pb] ∨ w.heap.size ≤ x := fun x hx => Or.inr (by simp at hx; omega)
  have HX := Lib.hid (Box.new w 25 z4)
  have HE := Lib.hid (fun k (q : lineP anyM s.data.toList = .err k) => line_err q)
  clear h hT hb
  generalize lineP anyM s.data.toList = R at HLN HE ⊢
  cases R with
  | ok l r =>
    go_enter Tryd.func56, Tryd.ntmps56
    go_wp2_with fail
    refine HLN.out.mono ?_
    rintro x w1 ⟨⟨rfl, h1⟩, hk1⟩
    have HB := Lib.hid (box_only HX.out hk1 hne)
    have H1 := Lib.hid h1
    have HK1 := Lib.hid (HK.out.also hk1)
    clear h1 hk1
    go_wp2_with (refine wpList_store_only rfl 25 _ _ rfl w.heap.size _ rfl rfl _ HB.out r_size rfl (by simp [Value.oneCell']) ?_)
    intro w2 p2 k2
    have P2 := Lib.hid p2
    have H2 := Lib.hid (H1.out.only k2 hpn)
    have HK2 := Lib.hid (HK1.out.trans k2 hin)
    clear p2 k2
    go_wp2_with fail
    refine ret_r1 Tryd.results56 rfl rfl P2.out ?_
    exact ⟨⟨_, none, 0, rfl, rfl, H2.out, SRow.nil _ _⟩, HK2.out⟩
  | err k =>
    have hk0 : (k : Int) ≠ 0 := by have := HE.out k rfl; omega
    clear HE
    go_enter Tryd.func56, Tryd.ntmps56
    go_wp2_with fail
    refine HLN.out.mono ?_
    rintro x w1 ⟨⟨rfl, h1⟩, hk1⟩
    have HB := Lib.hid (box_only HX.out hk1 hne)
    have H1 := Lib.hid h1
    have HK1 := Lib.hid (HK.out.also hk1)
    clear h1 hk1
    go_wp2_with (refine wpList_store_only rfl 25 _ _ rfl w.heap.size _ rfl rfl _ HB.out r_size rfl (by simp [Value.oneCell']) ?_)
    intro w2 p2 k2
    have P2 := Lib.hid p2
    have H2 := Lib.hid (H1.out.only k2 hpn)
    have HK2 := Lib.hid (HK1.out.trans k2 hin)
    clear p2 k2
    go_wp2_with fail
    refine ret_r1 Tryd.results56 rfl rfl P2.out ?_
    exact ⟨⟨⟨2, [], 0, []⟩, none, 0, rfl, by intro q; exact hk0 (by exact_mod_cast q), s, H2.out⟩, HK2.out⟩

set_option maxRecDepth 100000 in
set_option maxHeartbeats 2000000 in
theorem sg_3 (h : Rs w pb s 0) (hs : s.size ≤ 65000) (hT : Tb w) :
    Calls Tryd.prog 57 #[.pointer (some ⟨pb, 0, none⟩)] w fun x w' => SgOut x w' pb w.heap.size (mapR (fun n => ⟨3, [], n, []⟩) (numR (-9223372036854775808) 9223372036854775807 s.data.toList)) ∧ Only [pb] w w' := by
  have hb : Below w.heap.size w (w.alloc (.cells z4 25)) := (Below.refl _ w).alloc (Nat.le_refl _) _
  have HLN := Lib.hid (number_own (h.keep hb) hs (hT.keep hb) (-9223372036854775808) 9223372036854775807)
  have HK := Lib.hid (only_below hb [pb])
  have hlt := h.lt
  have hne : w.heap.size ∉ [pb] := by simp; omega
  have hpn : pb ∉ [w.heap.size] := by simp; omega
  have hin : ∀ x ∈ [w.heap.size], x ∈ [pb] ∨ w.heap.size ≤ x := fun x hx => Or.inr (by simp at hx; omega)
  have HX := Lib.hid (Box.new w 25 z4)
  have HE := Lib.hid (fun k (q : numR (-9223372036854775808) 9223372036854775807 s.data.toList = .err k) => nbr_err q)
  clear h hT hb
  generalize numR (-9223372036854775808) 9223372036854775807 s.data.toList = R at HLN HE ⊢
  cases R with
  | ok n r =>
    go_enter Tryd.func57, Tryd.ntmps57
    go_wp2_with fail
    refine HLN.out.mono ?_
    rintro x w1 ⟨⟨rfl, h1⟩, hk1⟩
    have HB := Lib.hid (box_only HX.out hk1 hne)
    have H1 := Lib.hid h1
    have HK1 := Lib.hid (HK.out.also hk1)
    clear h1 hk1
    go_wp2_with (refine wpList_store_only rfl 25 _ _ rfl w.heap.size _ rfl rfl _ HB.out r_size rfl (by simp [Value.oneCell']) ?_)
    intro w2 p2 k2
    have P2 := Lib.hid p2
    have H2 := Lib.hid (H1.out.only k2 hpn)
    have HK2 := Lib.hid (HK1.out.trans k2 hin)
    clear p2 k2
    go_wp2_with fail
    refine ret_r1 Tryd.results57 rfl rfl P2.out ?_
    exact ⟨⟨_, none, 0, rfl, rfl, H2.out, SRow.nil _ _⟩, HK2.out⟩
  | err k =>
    have hk0 : (k : Int) ≠ 0 := by have := HE.out k rfl; omega
    clear HE
    go_enter Tryd.func57, Tryd.ntmps57
    go_wp2_with fail
    refine HLN.out.mono ?_
    rintro x w1 ⟨⟨rfl, h1⟩, hk1⟩
    have HB := Lib.hid (box_only HX.out hk1 hne)
    have H1 := Lib.hid h1
    have HK1 := Lib.hid (HK.out.also hk1)
    clear h1 hk1
    go_wp2_with (refine wpList_store_only rfl 25 _ _ rfl w.heap.size _ rfl rfl _ HB.out r_size rfl (by simp [Value.oneCell']) ?_)
    intro w2 p2 k2
    have P2 := Lib.hid p2
    have H2 := Lib.hid (H1.out.only k2 hpn)
    have HK2 := Lib.hid (HK1.out.trans k2 hin)
    clear p2 k2
    go_wp2_with fail
    refine ret_r1 Tryd.results57 rfl rfl P2.out ?_
    exact ⟨⟨⟨3, [], 0, []⟩, none, 0, rfl, by intro q; exact hk0 (by exact_mod_cast q), s, H2.out⟩, HK2.out⟩
end Ry
end Go.Proofs.YtflmolhkbpicbaaDoor
