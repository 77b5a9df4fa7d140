/-
  reply.lay: an answer's bytes behind a row of the call's own.
-/
import Derived.Test.YtflmolhkbpicbaaDoorKRpyLay
namespace Go.Proofs.YtflmolhkbpicbaaDoor.Ry
open Go.RowKit Go.Lib
open Dg (txt dec)

/-- an answer's bytes, as they are laid -/
def layR (x : Rep) : Bytes := if x.k = 1 then 43 :: x.t ++ crlf else if x.k = 2 then 45 :: x.t ++ crlf else if x.k = 3 then 58 :: txt x.n ++ crlf else if x.k = 4 then bulk x.t else if x.k = 6 then 42 :: txt (x.l.length : Int) ++ crlf ++ bulks x.l else 36 :: txt (-1) ++ crlf
set_option maxRecDepth 100000 in
theorem lay_plain (x : Rep) : layR (plain x) = enc x := by
  unfold plain enc
  by_cases h1 : x.k = 1
  · rw [if_pos h1, if_pos h1]; rfl
  rw [if_neg h1, if_neg h1]
  by_cases h2 : x.k = 2
  · rw [if_pos h2, if_pos h2]; rfl
  rw [if_neg h2, if_neg h2]
  by_cases h3 : x.k = 3
  · rw [if_pos h3, if_pos h3]; rfl
  rw [if_neg h3, if_neg h3]
  by_cases h4 : x.k = 4
  · rw [if_pos h4, if_pos h4]; rfl
  rw [if_neg h4, if_neg h4]
  by_cases h6 : x.k = 6
  · rw [if_pos h6, if_pos h6]
    show 42 :: txt (x.l.length : Int) ++ crlf ++ bulks x.l = _
    rw [txt_nat]
  rw [if_neg h6, if_neg h6]
  rfl
set_option maxRecDepth 100000 in
theorem bulks_snoc (l : List Bytes) (j : Nat) (h : j < l.length) : bulks (l.take (j + 1)) = bulks (l.take j) ++ bulk l[j] := by
  rw [List.take_succ_eq_append_getElem h, bulks_append, bulks_cons]
  simp [bulks]
set_option maxRecDepth 100000 in
theorem bulks_take_len (l : List Bytes) (j : Nat) (h : txL l ≤ 100000) : (bulks (l.take j)).length ≤ 24 * txL l := by
  have h1 := bulks_len (l.take j) (by have := txL_take_le l j; omega)
  have h2 := txL_take_le l j
  omega

set_option maxRecDepth 100000 in
set_option maxHeartbeats 8000000 in
theorem lay_own (B B2 : Nat) (v : Value) (L : Bytes) (x : Rep) (A : Option Addr) (cap : Nat) (w : World) (hv : BRow w B v L) (hB : B ≤ w.heap.size) (hx : SRow w B2 (.slice A x.l.length cap) (x.l.map bat)) (hl : longR x ≤ 3000) (hn : N64 x) (hL : L.length ≤ 200000) :
    Calls Tryd.prog 27 #[v, rv x A cap] w fun e w' => ∃ v', e = .returned v' ∧ BRow w' B v' (L ++ layR x) ∧ Gr B w w' := by
  obtain ⟨k, t, n, l⟩ := x
  obtain ⟨V, n0, cp, rfl, hn0⟩ := hv.form
  clear hn0
  obtain ⟨hn1, hn2⟩ := hn
  simp only at hn1 hn2 hx
  have ht : t.length ≤ 3000 := by unfold longR at hl; simp only at hl; omega
  have htx : txL l ≤ 3000 := by unfold longR at hl; simp only at hl; omega
  have hll := txL_len l
  clear hl
  unfold rv
  have G0 := Lib.hid (Gr.alloc w (.cells #[.int .i64 k, .string (bat t), .int .i64 n, .slice A l.length cap] 25) hB)
  have X0 := Lib.hid (Box.new w 25 #[.int .i64 k, .string (bat t), .int .i64 n, .slice A l.length cap])
  have HV := Lib.hid (BRow.alloc hv (.cells #[.int .i64 k, .string (bat t), .int .i64 n, .slice A l.length cap] 25))
  have HX := Lib.hid (SRow.alloc hx (.cells #[.int .i64 k, .string (bat t), .int .i64 n, .slice A l.length cap] 25))
  have hB0 := Nat.le_trans hB G0.out.size
  clear hv hx
  by_cases h1 : k = 1
  · subst h1
    have HL := Lib.hid (line_lay B _ L 43 t _ HV.out hB0 (by omega))
    rw [show layR ⟨1, t, n, l⟩ = 43 :: t ++ crlf from rfl]
    go_enter Tryd.func27, Tryd.ntmps27
    go_wp2_with fail
    refine HL.out.mono ?_
    rintro e w1 ⟨v1, rfl, h1, g1⟩
    have H1 := Lib.hid h1
    have G1 := Lib.hid (G0.out.trans g1)
    clear h1 g1
    obtain ⟨A1, m1, c1, rfl, hm1⟩ := H1.out.form
    clear hm1
    go_wp2
    go_ret
    exact ⟨.slice A1 m1 c1, rfl, (by simpa using H1.out), G1.out⟩
  have b1 : (k == (1 : Int)) = false := by rw [beq_eq_false_iff_ne]; exact h1
  by_cases h2 : k = 2
  · subst h2
    have HL := Lib.hid (line_lay B _ L 45 t _ HV.out hB0 (by omega))
    rw [show layR ⟨2, t, n, l⟩ = 45 :: t ++ crlf from rfl]
    go_enter Tryd.func27, Tryd.ntmps27
    go_wp2_with fail
    refine HL.out.mono ?_
    rintro e w1 ⟨v1, rfl, h1, g1⟩
    have H1 := Lib.hid h1
    have G1 := Lib.hid (G0.out.trans g1)
    clear h1 g1
    obtain ⟨A1, m1, c1, rfl, hm1⟩ := H1.out.form
    clear hm1
    go_wp2
    go_ret
    exact ⟨.slice A1 m1 c1, rfl, (by simpa using H1.out), G1.out⟩
  have b2 : (k == (2 : Int)) = false := by rw [beq_eq_false_iff_ne]; exact h2
  by_cases h3 : k = 3
  · subst h3
    have HP := Lib.hid (fun w => print_own n w hn1 hn2)
    have h20 := txt_20 n hn1 hn2
    have HL := Lib.hid (fun (w1 : World) (h : BRow w1 B (.slice V n0 cp) L) (q : B ≤ w1.heap.size) => line_lay B _ L 58 (txt n) w1 h q (by omega))
    rw [show layR ⟨3, t, n, l⟩ = 58 :: txt n ++ crlf from rfl]
    go_enter Tryd.func27, Tryd.ntmps27
    go_wp2_with fail
    refine (HP.out _).mono ?_
    rintro e w0 ⟨rfl, hb0⟩
    have G1 := Lib.hid (G0.out.trans (Gr.below hb0 hB0))
    have H0 := Lib.hid (BRow.below HV.out hb0)
    clear hb0
    go_wp2_with fail
    refine (HL.out _ H0.out (Nat.le_trans hB G1.out.size)).mono ?_
    rintro e w1 ⟨v1, rfl, h1, g1⟩
    have H1 := Lib.hid h1
    have G2 := Lib.hid (G1.out.trans g1)
    clear h1 g1
    obtain ⟨A1, m1, c1, rfl, hm1⟩ := H1.out.form
    clear hm1
    go_wp2
    go_ret
    exact ⟨.slice A1 m1 c1, rfl, (by simpa using H1.out), G2.out⟩
  have b3 : (k == (3 : Int)) = false := by rw [beq_eq_false_iff_ne]; exact h3
  by_cases h4 : k = 4
  · subst h4
    have HL := Lib.hid (text_lay B _ L t _ HV.out hB0 (by omega))
    rw [show layR ⟨4, t, n, l⟩ = bulk t from rfl]
    go_enter Tryd.func27, Tryd.ntmps27
    go_wp2_with fail
    refine HL.out.mono ?_
    rintro e w1 ⟨v1, rfl, h1, g1⟩
    have H1 := Lib.hid h1
    have G1 := Lib.hid (G0.out.trans g1)
    clear h1 g1
    obtain ⟨A1, m1, c1, rfl, hm1⟩ := H1.out.form
    clear hm1
    go_wp2
    go_ret
    exact ⟨.slice A1 m1 c1, rfl, (by simpa using H1.out), G1.out⟩
  have b4 : (k == (4 : Int)) = false := by rw [beq_eq_false_iff_ne]; exact h4
  by_cases h6 : k = 6
  · subst h6
    have HP := Lib.hid (fun w => print_own (l.length : Int) w (by omega) (by omega))
    have h20 := txt_20 (l.length : Int) (by omega) (by omega)
    have HL := Lib.hid (fun (w1 : World) (h : BRow w1 B (.slice V n0 cp) L) (q : B ≤ w1.heap.size) => line_lay B _ L 42 (txt (l.length : Int)) w1 h q (by omega))
    rw [show layR ⟨6, t, n, l⟩ = 42 :: txt (l.length : Int) ++ crlf ++ bulks l from rfl]
    obtain ⟨P, hP⟩ : ∃ P, P = L ++ 42 :: txt (l.length : Int) ++ crlf := ⟨_, rfl⟩
    have hPl : P.length ≤ 200100 := by rw [hP]; simp [crlf]; omega
    have HPE := Lib.hid hP
    clear hP
    go_enter Tryd.func27, Tryd.ntmps27
    go_wp2_with fail
    refine (HP.out _).mono ?_
    rintro e w1 ⟨rfl, hb1⟩
    have G1 := Lib.hid (G0.out.trans (Gr.below hb1 hB0))
    have H1 := Lib.hid (BRow.below HV.out hb1)
    have X1 := Lib.hid (Box.keep X0.out hb1)
    have S1 := Lib.hid (SRow.below HX.out hb1)
    clear hb1
    go_wp2_with fail
    refine (HL.out _ H1.out (Nat.le_trans hB G1.out.size)).mono ?_
    rintro e w2 ⟨v2, rfl, h2, g2⟩
    rw [← HPE.out] at h2
    have H2 := Lib.hid h2
    have G2 := Lib.hid (G1.out.trans g2)
    have X2 := Lib.hid (box_oth X1.out g2.oth (by decide))
    have S2 := Lib.hid (srow_oth S1.out g2.oth)
    clear h2 g2 H1 X1 S1 HV HX X0
    have d3 := X2.out.cell 3
    simp only [List.getElem?_toArray, List.getElem?_cons_zero, List.getElem?_cons_succ] at d3
    go_wp2
    go_loopg [0, 48] l.length (fun g b i wr => ∃ j : Nat, j + g = l.length ∧ i = .int .i64 j ∧ BRow wr B b (P ++ bulks (l.take j)) ∧ Gr B w2 wr)
    case atStart => exact ⟨0, by omega, rfl, by simpa [bulks] using H2.out, Gr.refl _ _⟩
    case round =>
      obtain ⟨j, hj, rfl, hrow, hgr⟩ := hrel
      obtain ⟨A3, n3, c3, rfl, hn3⟩ := hrow.form
      clear hn3
      have HR := Lib.hid hrow
      have HG := Lib.hid hgr
      clear hrow hgr
      match gk, hj with
      | 0, hj =>
        obtain rfl : j = l.length := by omega
        have hje : ¬ ((l.length : Int) < (l.length : Int)) := by omega
        go_wp2
        go_ret
        refine ⟨.slice A3 n3 c3, rfl, ?_, G2.out.trans HG.out⟩
        have := HR.out
        rw [List.take_length, HPE.out] at this
        simpa using this
      | g + 1, hj =>
        have hlt : j < l.length := by omega
        have i1 : (j : Int) < (l.length : Int) := by omega
        obtain ⟨a, rfl, e0⟩ := Texts.ry_at (SRow.texts (srow_oth S2.out HG.out.oth)).2 (i := j) hlt
        have hlen := bulks_take_len l j (by omega)
        have hb9 := txL_mem (List.getElem_mem hlt)
        have hsn := Lib.hid (bulks_snoc l j hlt)
        have HT := Lib.hid (text_lay B _ (P ++ bulks (l.take j)) l[j] wr HR.out (Nat.le_trans hB (Nat.le_trans G2.out.size HG.out.size)) (by rw [List.length_append]; omega))
        generalize l[j] = u at e0 hb9 hsn HT
        go_wp2_with fail
        refine HT.out.mono ?_
        rintro e w5 ⟨v5, rfl, h5, g5⟩
        have H5 := Lib.hid h5
        have G5 := Lib.hid (HG.out.trans g5)
        clear h5 g5
        obtain ⟨A5, n5, c5, rfl, hn5⟩ := H5.out.form
        clear hn5
        go_wp2
        go_roundg g
        case measure => omega
        case rel => exact ⟨j + 1, by omega, by go_num, by rw [hsn.out, ← List.append_assoc]; exact H5.out, G5.out⟩
  have b6 : (k == (6 : Int)) = false := by rw [beq_eq_false_iff_ne]; exact h6
  have HP := Lib.hid (fun w => print_own (-1) w (by omega) (by omega))
  have HL := Lib.hid (fun (w1 : World) (h : BRow w1 B (.slice V n0 cp) L) (q : B ≤ w1.heap.size) => line_lay B _ L 36 (txt (-1)) w1 h q (by have h9 : (txt (-1)).length = 2 := (by decide); omega))
  rw [show layR ⟨k, t, n, l⟩ = 36 :: txt (-1) ++ crlf by unfold layR; simp only [if_neg h1, if_neg h2, if_neg h3, if_neg h4, if_neg h6]]
  clear h1 h2 h3 h4 h6
  go_enter Tryd.func27, Tryd.ntmps27
  go_wp2_with fail
  refine (HP.out _).mono ?_
  rintro e w0 ⟨rfl, hb0⟩
  have G1 := Lib.hid (G0.out.trans (Gr.below hb0 hB0))
  have H0 := Lib.hid (BRow.below HV.out hb0)
  clear hb0
  go_wp2_with fail
  refine (HL.out _ H0.out (Nat.le_trans hB G1.out.size)).mono ?_
  rintro e w1 ⟨v1, rfl, h1, g1⟩
  have H1 := Lib.hid h1
  have G2 := Lib.hid (G1.out.trans g1)
  clear h1 g1
  obtain ⟨A1, m1, c1, rfl, hm1⟩ := H1.out.form
  clear hm1
  go_wp2
  go_ret
  exact ⟨.slice A1 m1 c1, rfl, (by simpa using H1.out), G2.out⟩
end Go.Proofs.YtflmolhkbpicbaaDoor.Ry
