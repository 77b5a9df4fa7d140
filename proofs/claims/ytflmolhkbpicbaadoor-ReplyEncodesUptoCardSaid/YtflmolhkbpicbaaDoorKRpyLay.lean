/-
  reply.layLine, layText and lay: bytes behind a row of the call's own.
-/
import Derived.Test.YtflmolhkbpicbaaDoorKRpySmo
import Derived.Test.YtflmolhkbpicbaaDoorKRpyChg
import Derived.Lib.AppendStr
import Derived.Lib.OthersKept
namespace Go.Proofs.YtflmolhkbpicbaaDoor.Ry
open Go.RowKit Go.Lib
open Dg (txt dec)

abbrev Oth (w w' : World) : Prop := OthersKept 5 none w w'
set_option maxRecDepth 100000 in
theorem oth_below {w w' : World} (h : Below w.heap.size w w') : Oth w w' := fun k _o hk _ _ => (h.block k (Array.getElem?_eq_some_iff.1 hk).1).trans hk
set_option maxRecDepth 100000 in
theorem box_oth {w w' : World} {b : Nat} {t : TypeId} {cs : Array Value} (h : Box w b t cs) (k : Oth w w') (ht : t ≠ 5) : Box w' b t cs :=
  k b _ h (by simp) (fun c fz e => by injection e with _ e _; exact ht e)
set_option maxRecDepth 100000 in
theorem srow_oth {w w' : World} {B : Nat} {v : Value} {ps : List ByteArray} (h : SRow w B v ps) (k : Oth w w') : SRow w' B v ps := by
  refine ⟨h.1, ?_⟩
  rcases h.2 with h2 | ⟨g, cap, cur, hv, hB, hg, r⟩
  · exact .inl h2
  · exact .inr ⟨g, cap, cur, hv, hB, k g _ hg (by simp) (fun c fz e => by injection e with _ e _; exact absurd e (by decide)), r⟩
/-- behind a row of bytes that grew -/
structure Gr (B : Nat) (w w' : World) : Prop where
  bel : Below B w w'
  oth : Oth w w'
set_option maxRecDepth 100000 in
theorem Gr.refl (B : Nat) (w : World) : Gr B w w := ⟨Below.refl _ _, OthersKept.refl _ _ _⟩
set_option maxRecDepth 100000 in
theorem Gr.trans {B : Nat} {a b c : World} (h : Gr B a b) (k : Gr B b c) : Gr B a c := ⟨h.bel.trans k.bel, h.oth.trans k.oth⟩
set_option maxRecDepth 100000 in
theorem Gr.below {B : Nat} {a b : World} (h : Below a.heap.size a b) (hB : B ≤ a.heap.size) : Gr B a b := ⟨h.mono hB, oth_below h⟩
set_option maxRecDepth 100000 in
theorem Gr.alloc {B : Nat} (a : World) (o : Obj) (hB : B ≤ a.heap.size) : Gr B a (a.alloc o) := Gr.below ((Below.refl _ a).alloc (Nat.le_refl _) o) hB
set_option maxRecDepth 100000 in
theorem Gr.grown {B : Nat} {a b : World} {v : Value} {l : Bytes} (hr : BRow a B v l) (hg : a.grownBy b v.ownBlock) (hB : B ≤ a.heap.size) : Gr B a b :=
  ⟨BRow.grown hr hg (Below.refl _ _) hB, (OthersKept.refl _ _ a).grown hg (fun g q => by obtain ⟨cur, hc⟩ := row_ty hr q; exact ⟨cur, _, hc⟩)⟩
set_option maxRecDepth 100000 in
theorem Gr.size {B : Nat} {a b : World} (h : Gr B a b) : a.heap.size ≤ b.heap.size := h.bel.size
set_option maxRecDepth 100000 in
theorem bcells_str (s : ByteArray) : strCells s = bcells s.data.toList := by simp [strCells, bcells]
set_option maxRecDepth 100000 in
/-- bytes of a text come behind -/
theorem wpList_append_txt {w : World} {ops : Array Oper} {rest : List Oper} {o : Oper} {a : Act} {Q : Exit → Act → World → Prop} (hgd : o.guard = none) (s x : Operand)
    (ho : o.op = .call { callee := .builtin .append, args := #[s, x], argTypes := #[32, 9] })
    (B : Nat) (v : Value) (l : Bytes) (hs : a.eval s = v) (hown : BRow w B v l) (t : Bytes) (hx : a.eval x = .string (bat t)) (hn : l.length + t.length ≤ 1048576) (hB : B ≤ w.heap.size)
    (h : ∀ v' w', BRow w' B v' (l ++ t) → Gr B w w' → wpList Tryd.prog ops Q rest (a.put o.dst v') w') : wpList Tryd.prog ops Q (o :: rest) a w := by
  obtain ⟨i0, hi, hz0, hz1, hz2⟩ := info_parts byte_info
  have hsz : (bat t).size = t.length := bat_size t
  refine wpList_append_own_string w hgd s x 32 9 ho B 5 i0 Tryd.underlying32 Tryd.underlying9 hi hz0 hz1 hz2 v l.length (bcells l) hs hown (bat t) hx (by rw [hsz]; unfold maxLen; omega) (by rw [hsz]; omega) hB (fun v' w' h2 h3 _ => h v' w' ?_ (Gr.grown hown h3 hB))
  rw [hsz, bcells_str] at h2
  unfold BRow
  rw [List.length_append, bcells_append]
  exact h2
set_option maxRecDepth 100000 in
theorem byte_info2 : (Tryd.prog.info? 5).map (fun i => (i.zero, i.size, i.bytes)) = some (some (.int .u8 0), 1, 1) := byte_info
set_option maxRecDepth 100000 in
theorem wpList_append_one {w : World} {ops : Array Oper} {rest : List Oper} {o : Oper} {a : Act} {Q : Exit → Act → World → Prop} (hgd : o.guard = none) (s x : Operand)
    (ho : o.op = .call { callee := .builtin .append, args := #[s, x], argTypes := #[32, 32] })
    (B : Nat) (v : Value) (l : Bytes) (hs : a.eval s = v) (hown : BRow w B v l) (g : Nat) (c : UInt8) (hx : a.eval x = .slice (some ⟨g, 0, none⟩) 1 1)
    (hg : w.heap[g]? = some (.cells #[.int .u8 (c.toNat : Int)] 5 (0, 0))) (hn : l.length ≤ 1048576) (hB : B ≤ w.heap.size)
    (h : ∀ v' w', BRow w' B v' (l ++ [c]) → Gr B w w' → wpList Tryd.prog ops Q rest (a.put o.dst v') w') : wpList Tryd.prog ops Q (o :: rest) a w := by
  obtain ⟨i0, hi, hz0, hz1, hz2⟩ := info_parts byte_info
  refine wpList_append_own w hgd s x 32 ho B 5 i0 _ 1 1 Tryd.underlying32 hi hz0 hz1 hz2 rfl (by decide) v l.length (bcells l) hs hown ⟨g, 0, none⟩ 1 1 [.int .u8 (c.toNat : Int)] hx rfl ?_ ?_ (by unfold maxLen; omega) (by omega) hB (fun v' w' h2 h3 _ => h v' w' ?_ (Gr.grown hown h3 hB))
  · intro j u hj
    have : ((⟨g, 0, none⟩ : Addr).add j) = ⟨g, j, none⟩ := by unfold Addr.add; split <;> simp_all
    rw [this, cell_of_row _ _ _ _ _ _ hg]
    simpa using hj
  · intro u hu; simp at hu; subst hu; rfl
  · unfold BRow
    rw [List.length_append, bcells_append]
    exact h2

set_option maxRecDepth 100000 in
set_option maxHeartbeats 2000000 in
theorem line_lay (B : Nat) (v : Value) (l : Bytes) (c : UInt8) (t : Bytes) (w : World) (hv : BRow w B v l) (hB : B ≤ w.heap.size) (hn : l.length + t.length ≤ 1000000) :
    Calls Tryd.prog 38 #[v, .int .u8 c.toNat, .string (bat t)] w fun e w' => ∃ v', e = .returned v' ∧ BRow w' B v' (l ++ c :: t ++ crlf) ∧ Gr B w w' := by
  have H := Lib.hid hv
  obtain ⟨A, n0, cp, rfl, hn0⟩ := hv.form
  clear hn0
  clear hv
  go_enter Tryd.func38, Tryd.ntmps38
  go_wp2_with (at_builtin; refine wpList_append_one rfl _ _ rfl B _ l rfl (BRow.alloc H.out _) w.heap.size c rfl (heap_alloc_new w _) (by omega) (by simp; omega) ?_)
  intro v1 w1 h1 g1
  have H1 := Lib.hid h1
  have G1 := Lib.hid ((Gr.alloc w _ hB).trans g1)
  clear h1 g1
  obtain ⟨A1, n1, c1, rfl, hn1⟩ := H1.out.form
  clear hn1
  go_wp2_with (at_builtin; refine wpList_append_txt rfl _ _ rfl B _ _ rfl H1.out t rfl (by simp; omega) (Nat.le_trans hB G1.out.size) ?_)
  intro v2 w2 h2 g2
  have H2 := Lib.hid h2
  have G2 := Lib.hid (G1.out.trans g2)
  clear h2 g2
  obtain ⟨A2, n2, c2, rfl, hn2⟩ := H2.out.form
  clear hn2
  go_wp2_with (at_builtin; refine wpList_append_txt rfl _ _ rfl B _ _ rfl H2.out crlf rfl (by simp [crlf]; omega) (Nat.le_trans hB G2.out.size) ?_)
  intro v3 w3 h3 g3
  have H3 := Lib.hid h3
  have G3 := Lib.hid (G2.out.trans g3)
  clear h3 g3
  obtain ⟨A3, n3, c3, rfl, hn3⟩ := H3.out.form
  clear hn3
  go_wp2
  go_ret
  exact ⟨.slice A3 n3 c3, rfl, by simpa using H3.out, G3.out⟩
set_option maxRecDepth 100000 in
theorem print_own (n : Int) (w : World) (h1 : -9223372036854775808 ≤ n) (h2 : n ≤ 9223372036854775807) :
    Calls Tryd.prog 39 #[.int .i64 n] w fun e w' => e = .returned (.string (bat (txt n))) ∧ Below w.heap.size w w' := Dg.print_calls n w h1 h2
set_option maxRecDepth 100000 in
theorem txt_20 (n : Int) (h1 : -9223372036854775808 ≤ n) (h2 : n ≤ 9223372036854775807) : (txt n).length ≤ 20 := (Dg.txt_len n h1 h2).1

set_option maxRecDepth 100000 in
set_option maxHeartbeats 2000000 in
theorem text_lay (B : Nat) (v : Value) (l : Bytes) (t : Bytes) (w : World) (hv : BRow w B v l) (hB : B ≤ w.heap.size) (hn : l.length + t.length ≤ 900000) :
    Calls Tryd.prog 40 #[v, .string (bat t)] w fun e w' => ∃ v', e = .returned v' ∧ BRow w' B v' (l ++ bulk t) ∧ Gr B w w' := by
  have H := Lib.hid hv
  obtain ⟨A, n0, cp, rfl, hn0⟩ := hv.form
  clear hn0
  clear hv
  have h20 := txt_20 (t.length : Int) (by omega) (by omega)
  have hbs : ((bat t).size : Int) = (t.length : Int) := by rw [bat_size]
  have HP := Lib.hid (fun w => print_own (t.length : Int) w (by omega) (by omega))
  have HL := Lib.hid (fun (w1 : World) (v1 : Value) (h : BRow w1 B v1 l) (hB1 : B ≤ w1.heap.size) => line_lay B v1 l 36 (txt (t.length : Int)) w1 h hB1 (by omega))
  go_enter Tryd.func40, Tryd.ntmps40
  go_wp2_with fail
  refine (HP.out _).mono ?_
  rintro e w1 ⟨rfl, hb1⟩
  have G1 := Lib.hid (Gr.below hb1 hB)
  have H1 := Lib.hid (BRow.below H.out hb1)
  clear hb1
  go_wp2_with fail
  refine (HL.out _ _ H1.out (Nat.le_trans hB G1.out.size)).mono ?_
  rintro e w2 ⟨v2, rfl, h2, g2⟩
  have H2 := Lib.hid h2
  have G2 := Lib.hid (G1.out.trans g2)
  clear h2 g2
  obtain ⟨A2, n2, c2, rfl, hn2⟩ := H2.out.form
  clear hn2
  go_wp2_with (at_builtin; refine wpList_append_txt rfl _ _ rfl B _ _ rfl H2.out t rfl (by simp [crlf]; omega) (Nat.le_trans hB G2.out.size) ?_)
  intro v3 w3 h3 g3
  have H3 := Lib.hid h3
  have G3 := Lib.hid (G2.out.trans g3)
  clear h3 g3
  obtain ⟨A3, n3, c3, rfl, hn3⟩ := H3.out.form
  clear hn3
  go_wp2_with (at_builtin; refine wpList_append_txt rfl _ _ rfl B _ _ rfl H3.out crlf rfl (by simp [crlf]; omega) (Nat.le_trans hB G3.out.size) ?_)
  intro v4 w4 h4 g4
  have H4 := Lib.hid h4
  have G4 := Lib.hid (G3.out.trans g4)
  clear h4 g4
  obtain ⟨A4, n4, c4, rfl, hn4⟩ := H4.out.form
  clear hn4
  go_wp2
  go_ret
  refine ⟨.slice A4 n4 c4, rfl, ?_, G4.out⟩
  have e : l ++ bulk t = l ++ 36 :: txt (t.length : Int) ++ crlf ++ t ++ crlf := by unfold bulk; rw [txt_nat]; simp
  rw [e]
  simpa using H4.out
end Go.Proofs.YtflmolhkbpicbaaDoor.Ry
