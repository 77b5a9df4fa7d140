/-
  The walk of LedgerIDs.
-/
import Derived.Test.YtplinlgafgfepaaLedOwn
import Derived.Test.YtplinlgafgfepaaLedNxt
import Derived.Deep.DeepCutAuto
namespace Go.Proofs.Ytplinlgafgfepaa.Ld
open Go.RowKit
open Pr (Box)

/-- a row of limits stays one that may be written, as one of its cells is written -/
theorem LRow.set {w : World} {g n : Nat} {cur : Array Value} (hg : w.heap[g]? = some (.cells cur 58 (0, 0))) (hn : n * 8 ≤ cur.size) (j : Nat) (v : Value) : ∃ cur', (w.setCell ⟨g, j, none⟩ v).heap[g]? = some (.cells cur' 58 (0, 0)) ∧ n * 8 ≤ cur'.size :=
  ⟨cur.setIfInBounds j v, heap_setCell_same _ _ j _ _ v hg, by rw [Array.size_setIfInBounds]; exact hn⟩
variable {C : LC}
/-- the ledger, beside a row of the call's own that is written to -/
def Beside (C : LC) (w wr : World) (v last : Nat) (L : LL (List Lim)) (A : Option Addr) (n : Nat) : Prop :=
  ∃ own, One C w wr own v last L ∧ LRow wr A n ∧ ∀ a, A = some a → n ≠ 0 → Free own wr a.block ∧ w.heap.size ≤ a.block

set_option maxHeartbeats 16000000 in
set_option maxRecDepth 100000 in
theorem ids_law (C : LC) (A X : Option Addr) (cap cap3 : Nat) (L : List Dow) (till : Int) (xs : List Lim) (w : World) (hD : Dos (fun b => b < w.heap.size) w A L) (hK : Fits L) (hZ : L.length ≤ 1048576)
    (ht : I64 till) (hX : Lims (fun b => b < w.heap.size) w X xs) (hXn : X = none → cap3 = 0) (hXl : xs.length ≤ 1048576) :
    Calls Try.prog 5 #[.slice A L.length cap, .int .i64 till, .slice X xs.length cap3] w fun e w' => e = .returned (.bool true) ∧ Below w.heap.size w w' := by
  have HD := Lib.hid hD
  have HK := Lib.hid hK
  have HT := Lib.hid ht
  have HX := Lib.hid hX
  have HXN := Lib.hid hXn
  clear hD hK ht hX hXn
  by_cases hL : 60 < L.length
  · have t1 : decide ((60 : Int) < (L.length : Int)) = true := decide_eq_true (by omega)
    go_enter Try.func5, Try.ntmps5
    go_wp2_with fail
    refine (known_calls C _).mono ?_
    rintro e w8 ⟨rfl, hb8⟩
    go_wp2_with fail
    go_ret
    exact ⟨rfl, hb8⟩
  have t1 : decide ((60 : Int) < (L.length : Int)) = false := decide_eq_false (by omega)
  go_enter Try.func5, Try.ntmps5
  go_wp2_with fail
  refine (Long_calls A cap L w HD.out (by omega)).mono ?_
  rintro e w1 ⟨⟨m1, rfl⟩, hb1⟩
  have B1 := Lib.hid hb1
  clear hb1
  by_cases hm : 300 < m1
  · have t2 : decide ((300 : Int) < m1) = true := decide_eq_true hm
    go_wp2_with fail
    refine (known_calls C _).mono ?_
    rintro e w8 ⟨rfl, hb8⟩
    go_wp2_with fail
    go_ret
    exact ⟨rfl, B1.out.trans (hb8.mono B1.out.size)⟩
  have t2 : decide ((300 : Int) < m1) = false := decide_eq_false hm
  by_cases hx : 50 < xs.length
  · have t3 : decide ((50 : Int) < (xs.length : Int)) = true := decide_eq_true (by omega)
    go_wp2_with fail
    refine (known_calls C _).mono ?_
    rintro e w8 ⟨rfl, hb8⟩
    go_wp2_with fail
    go_ret
    exact ⟨rfl, B1.out.trans (hb8.mono B1.out.size)⟩
  have t3 : decide ((50 : Int) < (xs.length : Int)) = false := decide_eq_false (by omega)
  go_wp2_with fail
  refine (C.new_ _).mono ?_
  rintro e w2 ⟨v, o1, rfl, a1, b1, l1⟩
  have H1 : Hid (∃ own Q, One C w w2 own v 0 Q) := Lib.hid ⟨o1, [], B1.out.trans (b1.mono B1.out.size), a1, fun x hx => Nat.le_trans B1.out.size (l1 x hx)⟩
  clear a1 b1 l1 B1
  go_wp2_with fail
  go_loopw [8, 9] (fun q i wr => ∃ k last : Nat, k ≤ L.length ∧ last ≤ k ∧ i = .int .i64 (k : Nat) ∧ q = .int .i64 (last : Nat) ∧ Hid (∃ own Q, One C w wr own v last Q)) (fun _ i _ => L.length - (intOf i).toNat)
  case atStart => exact ⟨0, 0, by omega, Nat.le_refl _, rfl, rfl, H1.out⟩
  case round =>
    clear H1
    obtain ⟨k, last, hk, hlk, rfl, rfl, H⟩ := hrel
    obtain ⟨own, Q, h⟩ := Hid.out H
    have H2 := Lib.hid h
    clear H h
    by_cases hlt : k < L.length
    · obtain ⟨a, ra, c0, c1, X1, capX, hXn, c2, hX⟩ := (HD.out.keep H2.out.1).at_ hlt
      have hD0 := HD.out.at_ hlt
      have hfit := HK.out L[k] (List.getElem_mem hlt)
      have hDk : ∀ w', Below w.heap.size w w' → w'.cell? (a.add (k * 3)) = some (.int .i64 L[k].1) := fun w' hb => by
        obtain ⟨a', ea, d0, _⟩ := (HD.out.keep hb).at_ hlt
        rw [ra] at ea
        injection ea with ea
        subst ea
        exact d0
      subst ra
      generalize L[k] = d at c0 c1 c2 hX hfit hDk
      obtain ⟨kd, nn, ls⟩ := d
      simp only at c0 c1 c2 hX hfit hDk
      have HDK := Lib.hid hDk
      have HX1 := Lib.hid hX
      have HXN1 := Lib.hid hXn
      have HFIT := Lib.hid hfit
      have hql := H2.out.good.len_le
      have eI : kd = 1 → stI Q last kd nn = (last : Int) + 1 := fun e => by
        subst e
        show addI Q last + 2000 * addE Q = _
        unfold addI addE
        rw [if_neg (by omega), if_neg (by omega)]
        omega
      have eN : stN Q last kd = if kd = 1 then last + 1 else last := by
        unfold stN addN
        split
        · rw [if_neg (by omega)]
        · rfl
      have EI := Lib.hid eI
      have EN := Lib.hid eN
      clear hX hfit hXn hDk hD0 eI eN
      go_wp2_with fail
      refine (did_one H2.out kd nn X1 capX ls (by omega) HFIT.out.1 HX1.out HXN1.out HFIT.out.2).mono ?_
      rintro e w3 ⟨o3, A3, cap3, rfl, -, h3, -⟩
      have H3 := Lib.hid h3
      have e0 := HDK.out _ h3.1
      clear h3 H2 c0 c1 c2
      by_cases h1 : kd = 1
      · have EI1 := EI.out h1
        rw [EI1]
        have H4 : Hid (One C w w3 o3 v (last + 1) (stL Q last kd nn ls)) := Lib.hid (by have := H3.out; rw [EN.out, if_pos h1] at this; exact this)
        clear EI1 EI EN H3
        have tk : (kd == 1) = true := by rw [h1]; rfl
        have hwl : IntKind.i64.wrap ((last : Int) + 1) = (last : Int) + 1 := by rw [IntKind.wrap_i64]; omega
        have tne : ((last : Int) + 1 != (last : Int) + 1) = false := bne_self_eq_false _
        clear h1
        go_wp2_with fail
        go_roundw
        case rel => exact ⟨k + 1, last + 1, by omega, by omega, by go_num, by go_num, _, _, H4.out⟩
        case measure => simp [intOf]; omega
      · have H4 : Hid (One C w w3 o3 v last (stL Q last kd nn ls)) := Lib.hid (by have := H3.out; rw [EN.out, if_neg h1] at this; exact this)
        have tk : (kd == 1) = false := beq_eq_false_iff_ne.2 h1
        clear EI EN H3 h1
        go_wp2_with fail
        go_roundw
        case rel => exact ⟨k + 1, last, by omega, by omega, by go_num, rfl, _, _, H4.out⟩
        case measure => simp [intOf]; omega
    · clear HD HK
      have hql := H2.out.good.len_le
      have hx50 : xs.length ≤ 50 := by omega
      go_wp2_with (at_builtin; refine wpList_append_lims rfl _ _ rfl rfl X cap3 xs rfl HXN.out (HX.out.keep H2.out.1) (by omega) ?_)
      intro A4 cap4 w4 hz4 hm4 hr4 hb4
      have H4 := Lib.hid (H2.out.below hb4)
      have L4 : Hid (Lims (Free own w4) w4 A4 xs) := Lib.hid (hm4.mono fun b hb => ⟨hb.2, fun hc => by have := (C.good H2.out.2.1).2.1 b hc; have := hb.1; omega⟩)
      have F4 : Hid (∀ a, A4 = some a → xs.length ≠ 0 → Free own w4 a.block ∧ w.heap.size ≤ a.block) := Lib.hid (fun a ha hne => by
        obtain ⟨a', e, hs, _⟩ := hm4 0 (by omega)
        rw [ha] at e
        injection e with e
        subst e
        exact ⟨⟨hs.2, fun hc => by have := (C.good H2.out.2.1).2.1 _ hc; have := hs.1; omega⟩, Nat.le_trans H2.out.1.size hs.1⟩)
      have Z4 := Lib.hid hz4
      have R4 := Lib.hid hr4
      have hgP := H2.out.good
      have eI : addI Q last = (last : Int) + 1 := by unfold addI; rw [if_neg (by omega)]; omega
      have eE : addE Q = 0 := by unfold addE; rw [if_neg (by omega)]
      have eN : addN Q last = last + 1 := by unfold addN; rw [if_neg (by omega)]
      have hgo : getO (add Q last till xs) ((last : Int) + 1) = some (last + 1, clip till, xs) := by
        have h1 := hgP.add till xs
        have h2 : (last + 1, clip till, xs) ∈ add Q last till xs := by unfold add; rw [if_neg (by omega)]; simp
        exact getO_some h1 h2
      have hgA := hgP.add till xs
      have HLA := Lib.hid (left_all hgA (t := clip 9223372036854775807) (by decide))
      have HGO := Lib.hid hgo
      clear hz4 hm4 hr4 hb4 H2 hgo hgP hgA
      go_wp2_with fail
      refine (C.add_ H4.out.2.1 till A4 cap4 xs (by omega) HT.out L4.out Z4.out hXl).mono ?_
      rw [eI, eE, eN]
      rintro e w5 ⟨o5, rfl, a5, k5⟩
      generalize add Q last till xs = P at a5 HGO HLA
      have B5 : Hid (Beside C w w5 v (last + 1) P A4 xs.length) := Lib.hid ⟨o5, H4.out.turn a5 k5, by
        rcases R4.out with h0 | ⟨g, cur, e, hg, hn⟩
        · exact .inl h0
        · by_cases hne : xs.length = 0
          · exact .inl hne
          · exact .inr ⟨g, cur, e, ((((F4.out _ e hne).1).kept k5).1).trans hg, hn⟩, fun a ha hne => ⟨((F4.out a ha hne).1.kept k5).2, (F4.out a ha hne).2⟩⟩
      clear a5 k5 H4 L4 F4 Z4 R4 eI eE eN
      go_wp2_with fail
      go_loopw [15] (fun i wr => ∃ k : Nat, k ≤ xs.length ∧ i = .int .i64 (k : Nat) ∧ Hid (Beside C w wr v (last + 1) P A4 xs.length)) (fun i _ => xs.length - (intOf i).toNat)
      case atStart => exact ⟨0, by omega, rfl, B5.out⟩
      case round =>
        clear B5
        obtain ⟨i, hi, rfl, H⟩ := hrel
        obtain ⟨own6, h1, h2, h3⟩ := Hid.out H
        clear H
        have H6 := Lib.hid h1
        by_cases hlt2 : i < xs.length
        · obtain ⟨g, cur, rfl, hg, hn⟩ := h2.resolve_left (by omega)
          obtain ⟨hf, hge⟩ := h3 _ rfl (by omega)
          have hc : ∃ u, cur[i * 8 + 7]? = some u := ⟨_, Array.getElem?_eq_getElem (by omega)⟩
          obtain ⟨u, hu⟩ := hc
          have c7 : wr.cell? ⟨g, i * 8 + 7, none⟩ = some u := by rw [cell_of_row _ _ _ _ _ _ hg]; exact hu
          have f7 : wr.frozen? ⟨g, i * 8 + 7, none⟩ = false := frozen_of_row _ _ _ _ _ hg
          have HB : Hid (Beside C w (wr.setCell ⟨g, i * 8 + 7, none⟩ (.int .i64 (-7))) v (last + 1) P (some ⟨g, 0, none⟩) xs.length) := Lib.hid ⟨own6, One.inv.put h1 hf hge _ _, .inr (by obtain ⟨cur', e1, e2⟩ := LRow.set hg hn (i * 8 + 7) (.int .i64 (-7)); exact ⟨g, cur', rfl, e1, e2⟩), fun a ha hne => ⟨(h3 a ha hne).1.put, (h3 a ha hne).2⟩⟩
          have i1 : (i : Int) < (xs.length : Int) := by omega
          clear h1 h2 h3 hg hn hf H6 hu
          go_wp2_with fail
          go_roundw
          case rel => exact ⟨i + 1, by omega, by go_num, HB.out⟩
          case measure => simp [intOf]; omega
        · clear h1 h2 h3
          go_wp2_with fail
          refine (C.get_ H6.out.2.1 ((last : Int) + 1) (by omega)).mono ?_
          rw [HGO.out, show od (some (last + 1, clip till, xs)) = (last + 1, clip till, xs) from rfl]
          simp only [Option.isSome_some]
          rintro e w7 ⟨A7, cap7, rfl, hl7, hn7, hb7⟩
          have hba : Below w7.heap.size w7 (w7.alloc (.cells #[.int .i64 ((last + 1 : Nat) : Int), .int .i64 (clip till : Nat), .slice A7 xs.length cap7] 38)) := (Below.refl _ _).alloc (Nat.le_refl _) _
          have H7 := (H6.out.below hb7).below hba
          have hlt7 := (C.good (H6.out.below hb7).2.1).2.1
          have hge7 := (H6.out.below hb7).1.size
          have hf7 : Free own6 (w7.alloc (.cells #[.int .i64 ((last + 1 : Nat) : Int), .int .i64 (clip till : Nat), .slice A7 xs.length cap7] 38)) w7.heap.size := ⟨by simp, fun hc => Nat.lt_irrefl _ (hlt7 _ hc)⟩
          have B7 : Hid (Beside C w (w7.alloc (.cells #[.int .i64 ((last + 1 : Nat) : Int), .int .i64 (clip till : Nat), .slice A7 xs.length cap7] 38)) v (last + 1) P A7 xs.length ∧ Box (w7.alloc (.cells #[.int .i64 ((last + 1 : Nat) : Int), .int .i64 (clip till : Nat), .slice A7 xs.length cap7] 38)) w7.heap.size 38 #[.int .i64 ((last + 1 : Nat) : Int), .int .i64 (clip till : Nat), .slice A7 xs.length cap7] ∧ ∀ a, A7 = some a → xs.length ≠ 0 → a.block ≠ w7.heap.size) := Lib.hid (by
            have hn7' : LNew wr.heap.size w7 A7 xs := hn7
            have hl7' : Lims (Out [] own6 wr w7) w7 A7 xs := hl7
            refine ⟨⟨own6, H7, ?_, fun a ha hne => ?_⟩, Box.new _ _ _, fun a ha hne => ?_⟩
            · rcases hn7' with h0 | ⟨g, cur, e, hB, hg, hcs⟩
              · exact .inl (by rw [h0]; rfl)
              · by_cases h0 : xs.length = 0
                · exact .inl h0
                · refine .inr ⟨g, cur, e, by rw [hba.block g (Array.getElem?_eq_some_iff.1 hg).1]; exact hg, ?_⟩
                  have h1 := hcs (xs.length - 1) (by omega) 7 (.int .i64 (xs[xs.length - 1]'(by omega)).2.2) rfl
                  have h2 := (Array.getElem?_eq_some_iff.1 h1).1
                  omega
            · obtain ⟨a', e, hs, _⟩ := hl7' 0 (by omega)
              rw [ha] at e
              injection e with e
              subst e
              refine ⟨(Free.below hs.1 hba).2, ?_⟩
              rcases hs.2 with h | h
              · cases h
              · exact Nat.le_trans H6.out.1.size h
            · obtain ⟨a', e, hs, _⟩ := hl7' 0 (by omega)
              rw [ha] at e
              injection e with e
              subst e
              have := hs.1.1
              omega)
          have HB7F := Lib.hid hge7
          clear hl7 hn7 hb7 hba H7 hlt7 hge7 hf7 H6
          go_wp2_with fail
          generalize hb16 : w7.heap.size = b16 at B7 HB7F ⊢
          go_loopw [18] (fun i wr => ∃ k : Nat, k ≤ xs.length ∧ i = .int .i64 (k : Nat) ∧ Hid (Beside C w wr v (last + 1) P A7 xs.length ∧ Box wr b16 38 #[.int .i64 ((last + 1 : Nat) : Int), .int .i64 (clip till : Nat), .slice A7 xs.length cap7] ∧ ∀ a, A7 = some a → xs.length ≠ 0 → a.block ≠ b16)) (fun i _ => xs.length - (intOf i).toNat)
          case atStart => exact ⟨0, by omega, rfl, B7.out⟩
          case round =>
            clear B7
            obtain ⟨j, hj, rfl, H⟩ := hrel
            obtain ⟨⟨own8, h1, h2, h3⟩, hbx, hne⟩ := Hid.out H
            clear H
            have H8 := Lib.hid h1
            have bx2 : wr.cell? ⟨b16, 2, none⟩ = some (.slice A7 xs.length cap7) := hbx.cell 2
            by_cases hlt3 : j < xs.length
            · obtain ⟨g, cur, rfl, hg, hn⟩ := h2.resolve_left (by omega)
              obtain ⟨hf, hge⟩ := h3 _ rfl (by omega)
              obtain ⟨u, hu⟩ : ∃ u, cur[j * 8 + 7]? = some u := ⟨_, Array.getElem?_eq_getElem (by omega)⟩
              have c7 : wr.cell? ⟨g, j * 8 + 7, none⟩ = some u := by rw [cell_of_row _ _ _ _ _ _ hg]; exact hu
              have f7 : wr.frozen? ⟨g, j * 8 + 7, none⟩ = false := frozen_of_row _ _ _ _ _ hg
              have hgb : b16 ≠ g := fun e => hne _ rfl (by omega) e.symm
              have HB : Hid (Beside C w (wr.setCell ⟨g, j * 8 + 7, none⟩ (.int .i64 (-8))) v (last + 1) P (some ⟨g, 0, none⟩) xs.length ∧ Box (wr.setCell ⟨g, j * 8 + 7, none⟩ (.int .i64 (-8))) b16 38 #[.int .i64 ((last + 1 : Nat) : Int), .int .i64 (clip till : Nat), .slice (some ⟨g, 0, none⟩) xs.length cap7] ∧ ∀ a, some (⟨g, 0, none⟩ : Addr) = some a → xs.length ≠ 0 → a.block ≠ b16) := Lib.hid
                ⟨⟨own8, One.inv.put h1 hf hge _ _, .inr (by obtain ⟨cur', e1, e2⟩ := LRow.set hg hn (j * 8 + 7) (.int .i64 (-8)); exact ⟨g, cur', rfl, e1, e2⟩), fun a ha hne => ⟨(h3 a ha hne).1.put, (h3 a ha hne).2⟩⟩, hbx.far1 hgb _ _, hne⟩
              have i1 : (j : Int) < (xs.length : Int) := by omega
              clear h1 h2 h3 hg hn hf H8 hu hbx hne
              go_wp2_with fail
              go_roundw
              case rel => exact ⟨j + 1, by omega, by go_num, HB.out⟩
              case measure => simp [intOf]; omega
            · clear h1 h2 h3 hbx hne
              go_wp2_with fail
              refine (C.copy_ H8.out.2.1).mono ?_
              rintro e w9 ⟨vb, o9, rfl, a9, l9, b9⟩
              have T9 : Hid (Two C w w9 own8 o9 v vb (last + 1) (last + 1) P P) := Lib.hid (H8.out.copied a9 l9 b9)
              clear a9 l9 b9 H8
              go_wp2_with fail
              refine (C.due_ T9.out.2.2.1 9223372036854775807 (by omega)).mono ?_
              rw [HLA.out]
              rintro e w10 ⟨o10, A10, cap10, rfl, -, -, a10, k10⟩
              have T10 := Lib.hid (T9.out.rot.turn a10 k10).rot
              clear a10 k10 T9
              go_wp2_with fail
              refine (C.get_ T10.out.2.1 ((last : Int) + 1) (by omega)).mono ?_
              rw [HGO.out, show od (some (last + 1, clip till, xs)) = (last + 1, clip till, xs) from rfl]
              simp only [Option.isSome_some]
              rintro e w11 ⟨A11, cap11, rfl, hl11, -, hb11⟩
              have hba : Below w11.heap.size w11 (w11.alloc (.cells #[.int .i64 ((last + 1 : Nat) : Int), .int .i64 (clip till : Nat), .slice A11 xs.length cap11] 38)) := (Below.refl _ _).alloc (Nat.le_refl _) _
              have T11 := Lib.hid ((T10.out.below hb11).below hba)
              have L11 : Hid (Lims (Out [] own8 w10 w11) (w11.alloc (.cells #[.int .i64 ((last + 1 : Nat) : Int), .int .i64 (clip till : Nat), .slice A11 xs.length cap11] 38)) A11 xs) := Lib.hid ((show Lims (Out [] own8 w10 w11) w11 A11 xs from hl11).keep hba)
              have X11 := Lib.hid (Box.new w11 38 #[.int .i64 ((last + 1 : Nat) : Int), .int .i64 (clip till : Nat), .slice A11 xs.length cap11])
              clear hl11 hb11 hba T10
              have tne : ((last : Int) + 1 != (last : Int) + 1) = false := bne_self_eq_false _
              have hwl : IntKind.i64.wrap ((last : Int) + 1) = (last : Int) + 1 := by rw [IntKind.wrap_i64]; omega
              have tnx : ((xs.length : Int) != (xs.length : Int)) = false := bne_self_eq_false _
              go_wp2_with fail
              refine (C.len_ T11.out.2.2.1).mono ?_
              rintro e w12 ⟨rfl, hb12⟩
              have T12 := Lib.hid (T11.out.below hb12)
              have L12 := Lib.hid (L11.out.keep hb12)
              have X12 := Lib.hid (X11.out.keep hb12)
              have Y12 := Lib.hid (HX.out.keep T12.out.1)
              clear hb12 T11 L11 X11
              go_wp2_with fail
              generalize w11.heap.size = b20 at X12 ⊢
              go_loopw [22] (fun i wr => ∃ k n : Nat, k ≤ xs.length ∧ i = .int .i64 (k : Nat) ∧ wr = w12.drewN n) (fun i _ => xs.length - (intOf i).toNat)
              case atStart => exact ⟨0, 0, by omega, rfl, rfl⟩
              case round =>
                obtain ⟨q, nq0, hq, rfl, rfl⟩ := hrel
                by_cases hlt4 : q < xs.length
                · obtain ⟨a, rfl, -, c0, c1, c2, c3, c4, c5, c6, c7⟩ := L12.out.at_ hlt4
                  obtain ⟨a2, rfl, -, d0, d1, d2, d3, d4, d5, d6, d7⟩ := Y12.out.at_ hlt4
                  have z2 : w12.cell? ⟨b20, 2, none⟩ = some (.slice (some a) xs.length cap11) := X12.out.cell 2
                  have i1 : (q : Int) < (xs.length : Int) := by omega
                  generalize xs[q] = x at c0 c1 c2 c3 c4 c5 c6 c7 d0 d1 d2 d3 d4 d5 d6 d7
                  go_wp2_with fail
                  go_quiet (fail)
                  go_wp2_with fail
                  go_roundw
                  case rel => exact ⟨q + 1, nq0 + nq, by omega, by go_num, rfl⟩
                  case measure => simp [intOf]; omega
                · go_wp2_with fail
                  refine (known_calls C _).mono ?_
                  rintro e w13 ⟨rfl, hb13⟩
                  have T13 := Lib.hid ((T12.out.below (below_drewN (Below.refl _ _) nq0)).below hb13)
                  clear hb13
                  go_wp2_with fail
                  go_ret
                  exact ⟨rfl, T13.out.1⟩
end Go.Proofs.Ytplinlgafgfepaa.Ld
