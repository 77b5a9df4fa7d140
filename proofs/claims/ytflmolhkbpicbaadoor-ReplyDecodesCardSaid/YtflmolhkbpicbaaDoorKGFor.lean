/-
  What the document's own Same (of answers; of rows of them; of bytes) answers, in any world: just so.
-/
import Derived.Test.YtflmolhkbpicbaaDoorKGLst
import Derived.Test.YtflmolhkbpicbaaDoorKGQue
import Derived.Test.YtflmolhkbpicbaaDoorKGMth
namespace Go.Proofs.YtflmolhkbpicbaaDoor.Ry
open Go.RowKit

set_option maxRecDepth 100000 in
theorem Texts.ry_at {w : World} {A : Option Addr} {l : List Bytes} (h : Texts w A (l.map bat)) {i : Nat} (hi : i < l.length) : ∃ a : Addr, A = some a ∧ w.cell? (a.add i) = some (.string (bat l[i])) := by
  obtain ⟨a, e, hc⟩ := h.at_ (i := i) (by simpa using hi)
  exact ⟨a, e, by simpa using hc⟩
set_option maxRecDepth 100000 in
theorem bat_inj {a b : Bytes} (h : bat a = bat b) : a = b := by
  have := congrArg (fun x : ByteArray => x.data.toList) h
  simpa using this
set_option maxRecDepth 100000 in
set_option maxHeartbeats 1000000 in
theorem bsame_calls (A C : Option Addr) (cap cap2 : Nat) (l m : Bytes) (w : World) (hA : Bts w A l) (hC : Bts w C m) :
    Calls Tryd.prog 15 #[.slice A l.length cap, .slice C m.length cap2] w fun e w' => e = .returned (.bool (decide (l = m))) ∧ Below w.heap.size w w' := by
  have c1 := conv_all hA cap
  have c2 := conv_all hC cap2
  clear hA hC
  by_cases h : l = m
  · subst h
    go_enter Tryd.func15, Tryd.ntmps15
    go_wp2_with fail
    go_ret
    exact ⟨by simp, Below.refl _ _⟩
  · rw [decide_eq_false h]
    go_enter Tryd.func15, Tryd.ntmps15
    go_wp2_with fail
    go_ret
    exact ⟨by simp [h], Below.refl _ _⟩

set_option maxHeartbeats 4000000 in
set_option maxRecDepth 100000 in
theorem rsame_calls (x y : Rep) (A C : Option Addr) (cap cap2 : Nat) (w : World) (hA : Texts w A (x.l.map bat)) (hC : Texts w C (y.l.map bat)) (hx : x.l.length ≤ 1048576) (hy : y.l.length ≤ 1048576) :
    Calls Tryd.prog 12 #[rv x A cap, rv y C cap2] w fun e w' => e = .returned (.bool (decide (x = y))) ∧ Below w.heap.size w w' := by
  obtain ⟨k, t, n, l⟩ := x
  obtain ⟨k2, t2, n2, l2⟩ := y
  simp only at hA hC hx hy
  generalize hR : decide ((⟨k, t, n, l⟩ : Rep) = ⟨k2, t2, n2, l2⟩) = R
  have HA := Lib.hid hA
  have HC := Lib.hid hC
  clear hA hC
  unfold rv
  go_enter Tryd.func12, Tryd.ntmps12
  have hbb : Below w.heap.size w ((w.alloc (.cells #[.int .i64 k, .string (bat t), .int .i64 n, .slice A l.length cap] 25)).alloc (.cells #[.int .i64 k2, .string (bat t2), .int .i64 n2, .slice C l2.length cap2] 25)) := ((Below.refl _ _).alloc (Nat.le_refl _) _).alloc (by simp) _
  have HBB := Lib.hid hbb
  have XB : Hid (Box ((w.alloc (.cells #[.int .i64 k, .string (bat t), .int .i64 n, .slice A l.length cap] 25)).alloc (.cells #[.int .i64 k2, .string (bat t2), .int .i64 n2, .slice C l2.length cap2] 25)) w.heap.size 25 #[.int .i64 k, .string (bat t), .int .i64 n, .slice A l.length cap] ∧ Box ((w.alloc (.cells #[.int .i64 k, .string (bat t), .int .i64 n, .slice A l.length cap] 25)).alloc (.cells #[.int .i64 k2, .string (bat t2), .int .i64 n2, .slice C l2.length cap2] 25)) (w.heap.size + 1) 25 #[.int .i64 k2, .string (bat t2), .int .i64 n2, .slice C l2.length cap2]) := Lib.hid ⟨(Box.new _ _ _).alloc _, Box.new1 _ _ _ _⟩
  clear hbb
  by_cases h1 : k = k2
  · by_cases h2 : t = t2
    · by_cases h3 : n = n2
      · by_cases h4 : l.length = l2.length
        · subst h1 h2 h3
          have HR : Hid (decide (l = l2) = R) := Lib.hid (by rw [← hR]; simp)
          have H4 := Lib.hid h4
          clear hR
          obtain ⟨N, hN⟩ : ∃ N, N = l.length := ⟨_, rfl⟩
          have hN2 : l2.length = N := by omega
          rw [← hN, hN2]
          rw [← hN, hN2] at HBB XB
          have HN : Hid (l.length = N ∧ l2.length = N) := Lib.hid ⟨hN.symm, hN2⟩
          have hNl : N ≤ 1048576 := by omega
          clear hN hN2 h4 H4 hx hy
          go_wp2_with fail
          generalize ((w.alloc (.cells #[.int .i64 k, .string (bat t), .int .i64 n, .slice A N cap] 25)).alloc (.cells #[.int .i64 k, .string (bat t), .int .i64 n, .slice C N cap2] 25)) = W0 at HBB XB ⊢
          have d3 := XB.out.1.cell 3
          have e3 := XB.out.2.cell 3
          simp only [List.getElem?_toArray, List.getElem?_cons_zero, List.getElem?_cons_succ] at d3 e3
          go_loopw [5] (fun i wr => ∃ (j n : Nat), j ≤ N ∧ i = .int .i64 j ∧ wr = W0.drewN n ∧ Hid (l.take j = l2.take j)) (fun i _ => N - (intOf i).toNat)
          case atStart => exact ⟨0, 0, Nat.zero_le _, rfl, rfl, by simp [Hid]⟩
          case round =>
            obtain ⟨j, m, hj, rfl, rfl, H⟩ := hrel
            by_cases hlt : j < N
            · obtain ⟨a, rfl, c0⟩ := Texts.ry_at (HA.out.keep HBB.out) (i := j) (by rw [HN.out.1]; exact hlt)
              obtain ⟨a2, rfl, e0⟩ := Texts.ry_at (HC.out.keep HBB.out) (i := j) (by rw [HN.out.2]; exact hlt)
              have i1 : (j : Int) < (N : Int) := by omega
              have HT : Hid (l.take (j + 1) = l.take j ++ [l[j]'(by rw [HN.out.1]; exact hlt)] ∧ l2.take (j + 1) = l2.take j ++ [l2[j]'(by rw [HN.out.2]; exact hlt)]) := Lib.hid ⟨List.take_succ_eq_append_getElem _, List.take_succ_eq_append_getElem _⟩
              by_cases h5 : l[j]'(by rw [HN.out.1]; exact hlt) = l2[j]'(by rw [HN.out.2]; exact hlt)
              · rw [← h5] at e0
                have HT2 : Hid (l.take (j + 1) = l2.take (j + 1)) := Lib.hid (by rw [HT.out.1, HT.out.2, ← h5, H.out])
                generalize l[j]'(by rw [HN.out.1]; exact hlt) = u at c0 e0 h5 HT
                clear h5 HT
                go_wp2
                go_quiet (fail)
                go_wp2
                go_roundw
                case rel => exact ⟨j + 1, m + nq, by omega, by go_num, rfl, HT2⟩
                case measure => simp [intOf]; omega
              · have HF : Hid (R = false) := Lib.hid (by rw [← HR.out, decide_eq_false]; intro e; subst e; exact h5 rfl)
                generalize l[j]'(by rw [HN.out.1]; exact hlt) = u at c0 h5 HT
                generalize l2[j]'(by rw [HN.out.2]; exact hlt) = u2 at e0 h5 HT
                have j2 : (u == u2) = false := by rw [beq_eq_false_iff_ne]; exact h5
                clear h5 HT
                go_wp2
                go_quiet (fail)
                go_wp2
                go_ret
                exact ⟨by rw [HF.out]; rfl, below_drewN (below_drewN HBB.out _) _⟩
            · have HT : Hid (R = true) := Lib.hid (by
                rw [← HR.out, decide_eq_true]
                have e := H.out
                rw [List.take_of_length_le (by rw [HN.out.1]; omega), List.take_of_length_le (by rw [HN.out.2]; omega)] at e
                exact e)
              go_wp2
              go_ret
              exact ⟨by rw [HT.out]; rfl, below_drewN HBB.out _⟩
        · have HR : Hid (R = false) := Lib.hid (by rw [← hR, decide_eq_false]; intro e; injection e with e1 e2 e3 e4; exact h4 (by rw [e4]))
          have j4 : ((l.length : Int) != (l2.length : Int)) = true := by rw [bne_iff_ne]; omega
          subst h1 h2 h3
          clear hR h4
          go_wp2_with fail
          go_ret
          exact ⟨by rw [HR.out]; rfl, HBB.out⟩
      · have HR : Hid (R = false) := Lib.hid (by rw [← hR, decide_eq_false]; intro e; injection e with e1 e2 e3 e4; exact h3 e3)
        have j3 : (n != n2) = true := by rw [bne_iff_ne]; exact h3
        subst h1 h2
        clear hR h3
        go_wp2_with fail
        go_ret
        exact ⟨by rw [HR.out]; rfl, HBB.out⟩
    · have HR : Hid (R = false) := Lib.hid (by rw [← hR, decide_eq_false]; intro e; injection e with e1 e2 e3 e4; exact h2 e2)
      subst h1
      have j2 : (t == t2) = false := by rw [beq_eq_false_iff_ne]; exact h2
      clear hR h2
      go_wp2_with fail
      go_ret
      exact ⟨by rw [HR.out]; rfl, HBB.out⟩
  · have HR : Hid (R = false) := Lib.hid (by rw [← hR, decide_eq_false]; intro e; injection e with e1 e2 e3 e4; exact h1 e1)
    have j1 : (k != k2) = true := by rw [bne_iff_ne]; exact h1
    clear hR h1
    go_wp2_with fail
    go_ret
    exact ⟨by rw [HR.out]; rfl, HBB.out⟩
end Go.Proofs.YtflmolhkbpicbaaDoor.Ry
/-
  What the document's own One answers, in any world.
-/
namespace Go.Proofs.YtflmolhkbpicbaaDoor.Ry
open Go.RowKit
open Dg (dec txt)

set_option maxRecDepth 100000 in
/-- texts, one behind the other -/
theorem bat_app (a b : Bytes) : bat a ++ bat b = bat (a ++ b) := by
  rw [← bat_back (bat a ++ bat b)]
  congr 1

set_option maxHeartbeats 4000000 in
set_option maxRecDepth 100000 in
theorem one_calls (x : Rep) (A : Option Addr) (cap : Nat) (w : World) (hA : Texts w A (x.l.map bat)) (hx : longR x ≤ 3000) (hn : N64 x) :
    Calls Tryd.prog 28 #[rv x A cap] w fun e w' => e = .returned (.string (bat (enc x))) ∧ Below w.heap.size w w' := by
  have hlt : x.t.length ≤ 65536 := by unfold longR at hx; omega
  have hpc := fun w => plain_calls x A cap w hlt
  generalize hR : enc x = R
  have HR := Lib.hid hR
  have HA := Lib.hid hA
  have HX := Lib.hid hx
  clear hR hA hx hlt
  obtain ⟨k, t, n, l⟩ := x
  unfold rv
  go_enter Tryd.func28, Tryd.ntmps28
  go_wp2_with fail
  refine (hpc _).mono ?_
  clear hpc
  rintro e w1 ⟨⟨A1, c1, rfl, hA1⟩, hb1⟩
  have HA1 := Lib.hid hA1
  have HB := Lib.hid (((Below.refl w.heap.size w).alloc (Nat.le_refl _) _).trans (hb1.mono (by simp)))
  clear hb1
  clear hA1
  have hlt : t.length ≤ 3000 := by have h := HX.out; unfold longR at h; simp only at h; omega
  have hlx : txL l ≤ 3000 := by have h := HX.out; unfold longR at h; simp only at h; omega
  by_cases h1 : k = 1
  · have HE : Hid (R = 43 :: lineR t ++ crlf) := Lib.hid (by rw [← HR.out]; simp [enc, h1])
    have e1 : plain ⟨k, t, n, l⟩ = ⟨1, lineR t, 0, []⟩ := by simp [plain, h1]
    have hz : (lineR t).length = t.length := by simp [lineR]
    have z1 : ¬ 9223372036854775807 < 1 + (lineR t).length := by omega
    have z2 : ¬ 9223372036854775807 < 1 + (lineR t).length + 2 := by omega
    rw [e1]
    clear e1 hz
    unfold rv
    go_wp2_with fail
    go_ret
    refine ⟨?_, HB.out.alloc HB.out.size _⟩
    rw [HE.out]
    show Ending.returned (.string (bat [43] ++ bat (lineR t) ++ bat [13, 10])) = _
    rw [bat_app, bat_app]
    rfl
  · by_cases h2 : k = 2
    · have HE : Hid (R = 45 :: lineR t ++ crlf) := Lib.hid (by rw [← HR.out]; simp [enc, h2])
      have e1 : plain ⟨k, t, n, l⟩ = ⟨2, lineR t, 0, []⟩ := by simp [plain, h2]
      have hz : (lineR t).length = t.length := by simp [lineR]
      have z1 : ¬ 9223372036854775807 < 1 + (lineR t).length := by omega
      have z2 : ¬ 9223372036854775807 < 1 + (lineR t).length + 2 := by omega
      rw [e1]
      clear e1 hz
      unfold rv
      go_wp2_with fail
      go_ret
      refine ⟨?_, HB.out.alloc HB.out.size _⟩
      rw [HE.out]
      show Ending.returned (.string (bat [45] ++ bat (lineR t) ++ bat [13, 10])) = _
      rw [bat_app, bat_app]
      rfl
    · have k1 : (k == (1 : Int)) = false := by rw [beq_eq_false_iff_ne]; exact h1
      have k2 : (k == (2 : Int)) = false := by rw [beq_eq_false_iff_ne]; exact h2
      by_cases h3 : k = 3
      · have HE : Hid (R = 58 :: txt n ++ crlf) := Lib.hid (by rw [← HR.out]; simp [enc, h3])
        have e1 : plain ⟨k, t, n, l⟩ = ⟨3, [], n, []⟩ := by simp [plain, h3]
        have hn1 : -9223372036854775808 ≤ n := hn.1
        have hn2 : n ≤ 9223372036854775807 := hn.2
        have hz := (Dg.txt_len n hn1 hn2).1
        rw [e1]
        clear e1 k1 k2
        unfold rv
        go_wp2_with fail
        refine (Dg.refprint_calls (n.natAbs + 1) n _ (by omega) hn1 hn2).mono ?_
        rintro e w2 ⟨rfl, hb2⟩
        have HB2 := Lib.hid ((HB.out.alloc HB.out.size _).trans (hb2.mono (by have := HB.out.size; simp; omega)))
        clear hb2
        have z1 : ¬ 9223372036854775807 < 1 + (txt n).length := by omega
        have z2 : ¬ 9223372036854775807 < 1 + (txt n).length + 2 := by omega
        clear hz
        go_wp2_with fail
        go_ret
        refine ⟨?_, HB2.out⟩
        rw [HE.out]
        show Ending.returned (.string (bat [58] ++ bat (txt n) ++ bat [13, 10])) = _
        rw [bat_app, bat_app]
        rfl
      · have k3 : (k == (3 : Int)) = false := by rw [beq_eq_false_iff_ne]; exact h3
        by_cases h4 : k = 4
        · have HE : Hid (R = bulk t) := Lib.hid (by rw [← HR.out]; simp [enc, h4])
          have e1 : plain ⟨k, t, n, l⟩ = ⟨4, t, 0, []⟩ := by simp [plain, h4]
          rw [e1]
          clear e1 k1 k2 k3
          unfold rv
          go_wp2_with fail
          refine (bulk_calls t _ (by omega)).mono ?_
          rintro e w2 ⟨rfl, hb2⟩
          have HB2 := Lib.hid ((HB.out.alloc HB.out.size _).trans (hb2.mono (by have := HB.out.size; simp; omega)))
          clear hb2
          go_wp2_with fail
          go_ret
          exact ⟨by rw [HE.out]; rfl, HB2.out⟩
        · by_cases h6 : k = 6
          · obtain ⟨rfl, rfl⟩ : A1 = A ∧ c1 = cap := by
              rcases HA1.out with h | h
              · exact h.2
              · exact absurd h6 h.1
            have HE : Hid (R = 42 :: dec l.length ++ crlf ++ bulks l) := Lib.hid (by rw [← HR.out]; simp [enc, h6])
            have e1 : plain ⟨k, t, n, l⟩ = ⟨6, [], 0, l⟩ := by simp [plain, h6]
            have hll := txL_len l
            have hdl := Dg.dec_len19 l.length (by omega)
            rw [e1]
            clear e1 k1 k2 k3 HA1 HR
            unfold rv
            go_wp2_with fail
            refine (Dg.refprint_calls (l.length + 1) (l.length : Int) _ (by omega) (by omega) (by omega)).mono ?_
            rintro e w2 ⟨rfl, hb2⟩
            rw [txt_nat]
            have HB2 := Lib.hid ((HB.out.alloc HB.out.size _).trans (hb2.mono (by have := HB.out.size; simp; omega)))
            have X2 := Lib.hid ((Box.new w1 _ _).keep hb2)
            have HW := Lib.hid HB.out.size
            clear hb2 HB
            have z1 : ¬ 9223372036854775807 < 1 + (dec l.length).length := by omega
            have z2 : ¬ 9223372036854775807 < 1 + (dec l.length).length + 2 := by omega
            go_wp2_with fail
            have hs0 : (⟨#[42]⟩ ++ bat (dec l.length) ++ ⟨#[13, 10]⟩ : ByteArray) = bat (42 :: (dec l.length ++ crlf)) := by
              show bat [42] ++ bat (dec l.length) ++ bat [13, 10] = _
              rw [bat_app, bat_app]
              rfl
            rw [hs0]
            clear hs0 z1 z2
            go_loopw [4, 5] (fun s i wr => ∃ (j : Nat) (S : Bytes), j ≤ l.length ∧ i = .int .i64 j ∧ s = .string (bat S) ∧ Hid (S = 42 :: dec l.length ++ crlf ++ bulks (l.take j)) ∧ Hid (Below w.heap.size w wr ∧ Box wr w1.heap.size 25 #[.int .i64 6, .string (bat []), .int .i64 0, .slice A1 l.length c1])) (fun _ i _ => l.length - (intOf i).toNat)
            case atStart => exact ⟨0, _, Nat.zero_le _, rfl, rfl, by simp [Hid, bulks], HB2.out, X2.out⟩
            case round =>
              obtain ⟨j, S, hj, rfl, rfl, HS, H⟩ := hrel
              have d3 := H.out.2.cell 3
              simp only [List.getElem?_toArray, List.getElem?_cons_zero, List.getElem?_cons_succ] at d3
              by_cases hlt2 : j < l.length
              · obtain ⟨a, rfl, c0⟩ := Texts.ry_at (HA.out.keep H.out.1) hlt2
                have HT : Hid (bulks (l.take (j + 1)) = bulks (l.take j) ++ bulk l[j]) := Lib.hid (by rw [List.take_succ_eq_append_getElem hlt2, bulks_append]; simp [bulks])
                have hSl : S.length + (bulk l[j]).length ≤ 300000 := by
                  have h1 := bulks_len (l.take (j + 1)) (by have := txL_take_le l (j + 1); omega)
                  have h2 := txL_take_le l (j + 1)
                  have h3 := congrArg List.length HT.out
                  have h4 := congrArg List.length HS.out
                  rw [List.length_append] at h3
                  simp only [List.length_append, List.length_cons, crlf, List.length_nil] at h4
                  omega
                have hbl : l[j].length ≤ 65536 := by have := txL_mem (List.getElem_mem hlt2); omega
                have BC := fun w => bulk_calls l[j] w hbl
                generalize hB : bulk l[j] = Bk at HT hSl BC
                generalize l[j] = u at c0 hbl BC
                have i1 : (j : Int) < (l.length : Int) := by omega
                have z1 : ¬ 9223372036854775807 < S.length + Bk.length := by omega
                clear hB
                go_wp2_with fail
                refine (BC _).mono ?_
                rintro e w3 ⟨rfl, hb3⟩
                have H3 : Hid (Below w.heap.size w w3 ∧ Box w3 w1.heap.size 25 #[.int .i64 6, .string (bat []), .int .i64 0, .slice (some a) l.length c1]) := Lib.hid ⟨H.out.1.trans (hb3.mono H.out.1.size), H.out.2.keep hb3⟩
                clear hb3 H d3 BC
                go_wp2_with fail
                go_roundw
                case rel => exact ⟨j + 1, S ++ Bk, by omega, by go_num, by rw [bat_app], Lib.hid (by rw [HT.out, HS.out]; simp), H3.out⟩
                case measure => simp [intOf]; omega
              · have HE2 : Hid (R = S) := Lib.hid (by rw [HE.out, HS.out, List.take_of_length_le (by omega)])
                go_wp2_with fail
                go_ret
                exact ⟨by rw [HE2.out]; rfl, H.out.1⟩
          · have k4 : (k == (4 : Int)) = false := by rw [beq_eq_false_iff_ne]; exact h4
            have k6 : (k == (6 : Int)) = false := by rw [beq_eq_false_iff_ne]; exact h6
            have HE : Hid (R = [36, 45, 49, 13, 10]) := Lib.hid (by rw [← HR.out]; simp [enc, h1, h2, h3, h4, h6])
            have e1 : plain ⟨k, t, n, l⟩ = ⟨5, [], 0, []⟩ := by simp [plain, h1, h2, h3, h4, h6]
            rw [e1]
            clear e1
            unfold rv
            go_wp2_with fail
            go_ret
            exact ⟨by rw [HE.out]; rfl, HB.out.alloc HB.out.size _⟩
end Go.Proofs.YtflmolhkbpicbaaDoor.Ry
/-
  The four cells of an answer of a row.
-/
namespace Go.Proofs.YtflmolhkbpicbaaDoor.Ry
open Go.RowKit

set_option maxRecDepth 100000 in
theorem add_off (a : Addr) (n j : Nat) (hj : j ≠ 0) : a.add (n + j) = ⟨(a.add n).block, (a.add n).off + j, none⟩ := by
  unfold Addr.add
  by_cases h : n = 0
  · subst h; simp [hj]
  · simp [h, hj]; omega
set_option maxRecDepth 100000 in
theorem Reps.four {w : World} {A : Option Addr} {l : List Qe} (h : Reps w A l) {i : Nat} (hi : i < l.length) : ∃ a : Addr, A = some a ∧ w.cell? (a.add (i * 4)) = some (.int .i64 l[i].1.k)
    ∧ w.cell? ⟨(a.add (i * 4)).block, (a.add (i * 4)).off + 1, none⟩ = some (.string (bat l[i].1.t)) ∧ w.cell? ⟨(a.add (i * 4)).block, (a.add (i * 4)).off + 2, none⟩ = some (.int .i64 l[i].1.n)
    ∧ w.cell? ⟨(a.add (i * 4)).block, (a.add (i * 4)).off + 3, none⟩ = some (.slice l[i].2.1 l[i].1.l.length l[i].2.2) := by
  obtain ⟨a, e, hc⟩ := h.at_ hi
  refine ⟨a, e, hc 0 (by omega), ?_, ?_, ?_⟩
  · rw [← add_off a _ 1 (by decide)]; exact hc 1 (by omega)
  · rw [← add_off a _ 2 (by decide)]; exact hc 2 (by omega)
  · rw [← add_off a _ 3 (by decide)]; exact hc 3 (by omega)
set_option maxRecDepth 100000 in
theorem rs_succ {L : List Qe} {j : Nat} (h : j < L.length) : rs (L.take (j + 1)) = rs (L.take j) ++ [L[j].1] := by
  unfold rs
  rw [List.take_succ_eq_append_getElem h, List.map_append]
  rfl
set_option maxRecDepth 100000 in
theorem rs_take (L : List Qe) (j : Nat) : rs (L.take j) = (rs L).take j := List.map_take
end Go.Proofs.YtflmolhkbpicbaaDoor.Ry
/-
  What the document's own Encode answers, in any world.
-/
namespace Go.Proofs.YtflmolhkbpicbaaDoor.Ry
open Go.RowKit

/-- bytes that are handed out -/
def EncRes (s : Bytes) (e : Ending) (w' : World) : Prop := ∃ A c, e = .returned (.slice A s.length c) ∧ Bts w' A s
set_option maxHeartbeats 4000000 in
set_option maxRecDepth 100000 in
theorem encode_calls (A : Option Addr) (cap : Nat) (L : List Qe) (w : World) (hA : Reps w A L) (hT : Txs w L) (hl : longs (rs L) ≤ 3000) (hn : ∀ x ∈ rs L, N64 x) :
    Calls Tryd.prog 17 #[.slice A L.length cap] w fun e w' => EncRes (encs (rs L)) e w' ∧ Below w.heap.size w w' := by
  have HA := Lib.hid hA
  have HT := Lib.hid hT
  have HN := Lib.hid hn
  have hll : L.length ≤ 3000 := by have := longs_len (rs L); rw [List.length_map] at this; omega
  clear hA hT hn
  go_enter Tryd.func17, Tryd.ntmps17
  go_wp2_with fail
  go_loopw [3, 4] (fun s i wr => ∃ (j : Nat) (S : Bytes), j ≤ L.length ∧ i = .int .i64 j ∧ s = .string (bat S) ∧ Hid (S = encs (rs (L.take j))) ∧ Hid (Below w.heap.size w wr)) (fun _ i _ => L.length - (intOf i).toNat)
  case atStart => exact ⟨0, [], Nat.zero_le _, rfl, rfl, by simp [Hid, encs], Below.refl _ _⟩
  case round =>
    obtain ⟨j, S, hj, rfl, rfl, HS, H⟩ := hrel
    by_cases hlt : j < L.length
    · obtain ⟨a, rfl, c0, c1, c2, c3⟩ := (HA.out.keep H.out).four hlt
      have hm : L[j] ∈ L := List.getElem_mem hlt
      have hmr : L[j].1 ∈ rs L := List.mem_map_of_mem hm
      have hn1 := HN.out _ hmr
      have hl1 := longs_mem hmr
      have ht1 := (HT.out _ hm).1.keep H.out
      have HS2 : Hid (encs (rs (L.take (j + 1))) = encs (rs (L.take j)) ++ enc L[j].1) := Lib.hid (by rw [rs_succ hlt, encs_append, encs_one])
      have hSl : S.length + (enc L[j].1).length ≤ 100000 := by
        have h1 := encs_len (l := rs (L.take (j + 1))) (by have := longs_take_le (rs L) (j + 1); rw [rs_take]; omega) (fun x hx => HN.out x (by rw [rs_take] at hx; exact List.mem_of_mem_take hx))
        have h2 := longs_take_le (rs L) (j + 1)
        rw [← rs_take] at h2
        have h3 := congrArg List.length HS2.out
        have h4 := congrArg List.length HS.out
        rw [List.length_append] at h3
        omega
      have OC := fun (w : World) (h : Texts w L[j].2.1 (L[j].1.l.map bat)) => one_calls L[j].1 L[j].2.1 L[j].2.2 w h (by omega) hn1
      have HT1 := Lib.hid ht1
      generalize L[j].1 = x at c0 c1 c2 c3 HS2 hSl OC HT1
      generalize L[j].2.1 = B at c3 OC HT1
      generalize L[j].2.2 = bc at c3 OC
      have z1 : ¬ 9223372036854775807 < S.length + (enc x).length := by omega
      have i1 : (j : Int) < (L.length : Int) := by omega
      clear hm hmr hn1 hl1 ht1
      go_wp2_with fail
      refine (OC _ HT1.out).mono ?_
      rintro e w2 ⟨rfl, hb2⟩
      have HB2 := Lib.hid (H.out.trans (hb2.mono H.out.size))
      clear hb2 OC H HT1 c0 c1 c2 c3
      go_wp2_with fail
      go_roundw
      case rel => exact ⟨j + 1, S ++ enc x, by omega, by go_num, by rw [bat_app], Lib.hid (by rw [HS2.out, HS.out]), HB2.out⟩
      case measure => simp [intOf]; omega
    · have HE : Hid (encs (rs L) = S) := Lib.hid (by rw [HS.out, List.take_of_length_le (by omega)])
      obtain ⟨c, w2, hcv, hbt, hbw⟩ := conv_text wr S
      have HBT := Lib.hid hbt
      have HBW := Lib.hid (H.out.trans (hbw.mono H.out.size))
      clear hbt hbw
      go_wp2_with fail
      go_ret
      rw [HE.out]
      exact ⟨⟨_, _, rfl, HBT.out⟩, HBW.out⟩
end Go.Proofs.YtflmolhkbpicbaaDoor.Ry
/-
  What the document's own SameAll answers, in any world.
-/
namespace Go.Proofs.YtflmolhkbpicbaaDoor.Ry
open Go.RowKit
open Gw

set_option maxHeartbeats 4000000 in
set_option maxRecDepth 100000 in
theorem sameall_calls (A C : Option Addr) (cap cap2 : Nat) (L M : List Qe) (w : World) (hA : Reps w A L) (hC : Reps w C M) (hT : Txs w L) (hU : Txs w M) (hl : L.length ≤ 1048576) (_hm : M.length ≤ 1048576) (hx : ∀ x ∈ L, x.1.l.length ≤ 1048576) (hy : ∀ x ∈ M, x.1.l.length ≤ 1048576) :
    Calls Tryd.prog 23 #[.slice A L.length cap, .slice C M.length cap2] w fun e w' => e = .returned (.bool (decide (rs L = rs M))) ∧ Below w.heap.size w w' := by
  generalize hR : decide (rs L = rs M) = R
  have HA := Lib.hid hA
  have HC := Lib.hid hC
  have HT := Lib.hid hT
  have HU := Lib.hid hU
  have HX := Lib.hid hx
  have HY := Lib.hid hy
  clear hA hC hT hU hx hy
  go_enter Tryd.func23, Tryd.ntmps23
  by_cases h4 : L.length = M.length
  · have HR := Lib.hid hR
    obtain ⟨N, hN⟩ : ∃ N, N = L.length := ⟨_, rfl⟩
    have hN2 : M.length = N := by omega
    rw [← hN, hN2]
    have HN : Hid (L.length = N ∧ M.length = N) := Lib.hid ⟨hN.symm, hN2⟩
    have hNl : N ≤ 1048576 := by omega
    clear hR hN hN2 h4 hl _hm
    go_wp2
    go_loopw [5] (fun i wr => ∃ (j : Nat), j ≤ N ∧ i = .int .i64 j ∧ Hid (Below w.heap.size w wr) ∧ Hid (rs (L.take j) = rs (M.take j))) (fun i _ => N - (intOf i).toNat)
    case atStart => exact ⟨0, Nat.zero_le _, rfl, Below.refl _ _, by simp [Hid]⟩
    case round =>
      obtain ⟨j, hj, rfl, HB, HS⟩ := hrel
      by_cases hlt : j < N
      · have hj1 : j < L.length := by rw [HN.out.1]; exact hlt
        have hj2 : j < M.length := by rw [HN.out.2]; exact hlt
        obtain ⟨a, rfl, c0, c1, c2, c3⟩ := (HA.out.keep HB.out).four hj1
        obtain ⟨a2, rfl, d0, d1, d2, d3⟩ := (HC.out.keep HB.out).four hj2
        have i1 : (j : Int) < (N : Int) := by omega
        have SC : ∀ w', Hid (Below wr.heap.size wr w' → Calls Tryd.prog 12 #[rv L[j].1 L[j].2.1 L[j].2.2, rv M[j].1 M[j].2.1 M[j].2.2] w' fun e w'' => e = .returned (.bool (decide (L[j].1 = M[j].1))) ∧ Below w'.heap.size w' w'') := fun w' => Lib.hid (fun hb =>
          rsame_calls _ _ _ _ _ _ _ (((HT.out _ (List.getElem_mem hj1)).1.keep HB.out).keep hb) (((HU.out _ (List.getElem_mem hj2)).1.keep HB.out).keep hb) (HX.out _ (List.getElem_mem hj1)) (HY.out _ (List.getElem_mem hj2)))
        have HTK : Hid (rs (L.take (j + 1)) = rs (L.take j) ++ [L[j].1] ∧ rs (M.take (j + 1)) = rs (M.take j) ++ [M[j].1]) := Lib.hid ⟨rs_succ hj1, rs_succ hj2⟩
        have HNE : Hid (L[j].1 ≠ M[j].1 → R = false) := Lib.hid fun hne => by
          rw [← HR.out, decide_eq_false]
          intro e
          have e1 : (rs L)[j]? = (rs M)[j]? := by rw [e]
          rw [List.getElem?_map, List.getElem?_map, List.getElem?_eq_getElem hj1, List.getElem?_eq_getElem hj2] at e1
          exact hne (by simpa using e1)
        unfold rv at SC
        generalize L[j].1 = x at c0 c1 c2 c3 SC HTK HNE
        generalize L[j].2.1 = B at c3 SC
        generalize L[j].2.2 = bc at c3 SC
        generalize M[j].1 = y at d0 d1 d2 d3 SC HTK HNE
        generalize M[j].2.1 = B2 at d3 SC
        generalize M[j].2.2 = bc2 at d3 SC
        have g0 : ∀ g : Grow wr, g.w.cell? (a.add (j * 4)) = some (.int .i64 x.k) := fun g => g.keep c0
        have g1 : ∀ g : Grow wr, g.w.cell? ⟨(a.add (j * 4)).block, (a.add (j * 4)).off + 1, none⟩ = some (.string (bat x.t)) := fun g => g.keep c1
        have g2 : ∀ g : Grow wr, g.w.cell? ⟨(a.add (j * 4)).block, (a.add (j * 4)).off + 2, none⟩ = some (.int .i64 x.n) := fun g => g.keep c2
        have g3 : ∀ g : Grow wr, g.w.cell? ⟨(a.add (j * 4)).block, (a.add (j * 4)).off + 3, none⟩ = some (.slice B x.l.length bc) := fun g => g.keep c3
        have h0 : ∀ g : Grow wr, g.w.cell? (a2.add (j * 4)) = some (.int .i64 y.k) := fun g => g.keep d0
        have h1 : ∀ g : Grow wr, g.w.cell? ⟨(a2.add (j * 4)).block, (a2.add (j * 4)).off + 1, none⟩ = some (.string (bat y.t)) := fun g => g.keep d1
        have h2 : ∀ g : Grow wr, g.w.cell? ⟨(a2.add (j * 4)).block, (a2.add (j * 4)).off + 2, none⟩ = some (.int .i64 y.n) := fun g => g.keep d2
        have h3 : ∀ g : Grow wr, g.w.cell? ⟨(a2.add (j * 4)).block, (a2.add (j * 4)).off + 3, none⟩ = some (.slice B2 y.l.length bc2) := fun g => g.keep d3
        by_cases hxy : x = y
        · have t1 : decide (x = y) = true := decide_eq_true hxy
          have HXY := Lib.hid hxy
          clear hxy
          go_wp2
          refine wp_region_grow (by kernel_rfl) (by kernel_rfl) ?_
          repeat (go_big_quiet_step ((go_at_call 12; exact grow_call ((SC _).out (Grow.below _)))))
          refine wpQuiet_nil ?_
          intro _ hw'
          obtain ⟨gq, hw''⟩ := hw'
          subst hw''
          have HB2 := Lib.hid (HB.out.trans (gq.below.mono HB.out.size))
          clear g0 g1 g2 g3 h0 h1 h2 h3 c0 c1 c2 c3 d0 d1 d2 d3
          go_wp2
          go_roundw
          case rel => exact ⟨j + 1, by omega, by go_num, HB2.out, Lib.hid (by rw [HTK.out.1, HTK.out.2, HS.out, HXY.out])⟩
          case measure => simp [intOf]; omega
        · have t1 : decide (x = y) = false := decide_eq_false hxy
          have HF : Hid (R = false) := Lib.hid (HNE.out hxy)
          clear hxy
          go_wp2
          refine wp_region_grow (by kernel_rfl) (by kernel_rfl) ?_
          repeat (go_big_quiet_step ((go_at_call 12; exact grow_call ((SC _).out (Grow.below _)))))
          refine wpQuiet_nil ?_
          intro _ hw'
          obtain ⟨gq, hw''⟩ := hw'
          subst hw''
          have HB2 := Lib.hid (HB.out.trans (gq.below.mono HB.out.size))
          clear g0 g1 g2 g3 h0 h1 h2 h3 c0 c1 c2 c3 d0 d1 d2 d3
          go_wp2
          go_ret
          exact ⟨by rw [HF.out]; rfl, HB2.out⟩
      · have HTR : Hid (R = true) := Lib.hid (by
          rw [← HR.out, decide_eq_true]
          have e := HS.out
          rw [List.take_of_length_le (by rw [HN.out.1]; omega), List.take_of_length_le (by rw [HN.out.2]; omega)] at e
          exact e)
        go_wp2
        go_ret
        exact ⟨by rw [HTR.out]; rfl, HB.out⟩
  · have HF : Hid (R = false) := Lib.hid (by rw [← hR, decide_eq_false]; intro e; have := congrArg List.length e; simp [rs] at this; exact h4 this)
    have j4 : ((L.length : Int) != (M.length : Int)) = true := by rw [bne_iff_ne]; omega
    clear hR h4
    go_wp2
    go_ret
    exact ⟨by rw [HF.out]; rfl, Below.refl _ _⟩
end Go.Proofs.YtflmolhkbpicbaaDoor.Ry
/-
  What the document's own Long answers, in any world.
-/
namespace Go.Proofs.YtflmolhkbpicbaaDoor.Ry
open Go.RowKit

set_option maxHeartbeats 4000000 in
set_option maxRecDepth 100000 in
theorem long_calls (A : Option Addr) (cap : Nat) (L : List Qe) (w : World) (hA : Reps w A L) (hT : Txs w L) (hl : longs (rs L) ≤ 4611686018427387904) :
    Calls Tryd.prog 9 #[.slice A L.length cap] w fun e w' => e = .returned (.int .i64 (longs (rs L) : Nat)) ∧ w = w' := by
  have HA := Lib.hid hA
  have HT := Lib.hid hT
  have hll : L.length ≤ 4611686018427387904 := by have := longs_len (rs L); rw [List.length_map] at this; omega
  clear hA hT
  go_enter Tryd.func9, Tryd.ntmps9
  go_wp2
  go_loop [3, 4] (fun n i => ∃ (j m : Nat), j ≤ L.length ∧ i = .int .i64 j ∧ n = .int .i64 m ∧ Hid (m = longs (rs (L.take j)))) (fun _ i => L.length - (intOf i).toNat)
  case atStart => exact ⟨0, 0, Nat.zero_le _, rfl, rfl, by simp [Hid, longs]⟩
  case round =>
    obtain ⟨j, m, hj, rfl, rfl, HM⟩ := hrel
    by_cases hlt : j < L.length
    · obtain ⟨a, rfl, c0, c1, c2, c3⟩ := HA.out.four hlt
      have hm : L[j] ∈ L := List.getElem_mem hlt
      have ht1 := (HT.out _ hm).1
      have HS : Hid (longs (rs (L.take (j + 1))) = longs (rs (L.take j)) + longR L[j].1) := Lib.hid (by rw [rs_succ hlt, longs_snoc])
      have hS : m + longR L[j].1 ≤ 4611686018427387904 := by
        have h1 := longs_take_le (rs L) (j + 1)
        rw [← rs_take, HS.out, ← Hid.out HM] at h1
        omega
      have hz : (bat L[j].1.t).size = L[j].1.t.length := bat_size _
      have HT1 := Lib.hid ht1
      generalize L[j].1 = x at c0 c1 c2 c3 HS hS hz HT1
      generalize L[j].2.1 = B at c3 HT1
      generalize L[j].2.2 = bc at c3
      have hS2 : m + 1 + x.t.length + txL x.l ≤ 4611686018427387904 := by unfold longR at hS; omega
      have HSR : Hid (longR x = 1 + x.t.length + txL x.l) := Lib.hid rfl
      obtain ⟨k, t, n, l⟩ := x
      simp only at c0 c1 c2 c3 hS2 hz HT1 HSR
      have i1 : (j : Int) < (L.length : Int) := by omega
      have htl := txL_len l
      clear hm ht1 hS c0 c2
      go_wp2
      go_loop [3, 5] (fun s i => ∃ (p q : Nat), p ≤ l.length ∧ i = .int .i64 p ∧ s = .int .i64 q ∧ Hid (q = m + 1 + t.length + txL (l.take p))) (fun _ i => l.length - (intOf i).toNat)
      case atStart => exact ⟨0, m + 1 + t.length, Nat.zero_le _, rfl, by go_num, by simp [Hid, txL]⟩
      case round =>
        obtain ⟨p, q, hp, rfl, rfl, HQ⟩ := hrel
        by_cases hlp : p < l.length
        · obtain ⟨a3, rfl, e0⟩ := Texts.ry_at HT1.out hlp
          have HQ2 : Hid (txL (l.take (p + 1)) = txL (l.take p) + (1 + l[p].length)) := Lib.hid (by rw [List.take_succ_eq_append_getElem hlp, txL_snoc])
          have hq2 : q + 1 + l[p].length ≤ 4611686018427387904 := by
            have h1 := txL_take_le l (p + 1)
            have h2 := HQ2.out
            have h3 : q = _ := HQ
            omega
          have hz2 : (bat l[p]).size = l[p].length := bat_size _
          generalize hb : bat l[p] = bp at e0 hz2
          generalize l[p].length = z at hz2 hq2 HQ2
          clear hb
          have i2 : (p : Int) < (l.length : Int) := by omega
          go_wp2
          go_round
          case rel => exact ⟨p + 1, q + 1 + z, by omega, by go_num, by go_num, by have h2 : q = _ := HQ; show _ = _; rw [HQ2.out]; omega⟩
          case measure => simp [intOf]; omega
        · have HQ3 : Hid (longs (rs (L.take (j + 1))) = q) := Lib.hid (by
            have h2 : q = _ := HQ
            have h3 : m = _ := HM
            rw [List.take_of_length_le (by omega)] at h2
            rw [HS.out, ← h3, HSR.out, h2]
            omega)
          go_wp2
          go_round
          case rel => exact ⟨j + 1, q, by omega, by go_num, rfl, Lib.hid HQ3.out.symm⟩
          case measure => simp [intOf]; omega
    · go_wp2
      go_ret
      exact ⟨by show Ending.returned (.int .i64 (m : Nat)) = _; rw [show m = _ from HM, List.take_of_length_le (by omega)], rfl⟩
end Go.Proofs.YtflmolhkbpicbaaDoor.Ry
