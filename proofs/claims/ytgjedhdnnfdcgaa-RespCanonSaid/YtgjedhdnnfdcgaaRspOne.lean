/-
  What the document's own 'one' (one command's arguments) answers, in any world.
-/
import Derived.Test.YtgjedhdnnfdcgaaRspLine
namespace Go.Proofs.Ytgjedhdnnfdcgaa.Rp
open Go.RowKit
open Gw

/-- what 'one' answers -/
def OneRes (R : Rs) (n B : Nat) (e : Ending) (w' : World) : Prop := match R with
  | .short => e = .returned (.tuple #[.slice none 0 0, .int .i64 0])
  | .wrong => e = .returned (.tuple #[.slice none 0 0, .int .i64 (-1)])
  | .ok args r => ∃ x : Cm, x.1 = args ∧ e = .returned (.tuple #[Cm.v x, .int .i64 ((n - r.length : Nat) : Int)]) ∧ SRow w' B (Cm.v x) (args.map bat)
/-- the loop's relation -/
def OneInv (l : Bytes) (at0 many : Nat) (w : World) (R : Rs) (g : Nat) (i v : Value) (wr : World) : Prop :=
  ∃ (m : Nat) (ps : List Bytes), i = .int .i64 (m : Nat) ∧ at0 ≤ m ∧ m ≤ l.length ∧ ps.length + g = many ∧ argsR g ps (l.drop m) = R ∧ SRow wr w.heap.size v (ps.map bat) ∧ Below w.heap.size w wr

set_option maxHeartbeats 4000000 in
set_option maxRecDepth 100000 in
theorem one_calls (A : Option Addr) (cap : Nat) (l : Bytes) (at0 : Nat) (w : World) (hA : Bts w A l) (hl : l.length ≤ 1048576) (hat : at0 ≤ l.length) (hcap : l.length ≤ cap) :
    Calls Try.prog 30 #[.slice A l.length cap, .int .i64 (at0 : Nat)] w fun e w' => OneRes (oneR (l.drop at0)) (l.length - at0) w.heap.size e w' ∧ Below w.heap.size w w' := by
  have HA := Lib.hid hA
  clear hA
  cases hq : lineR 42 1 50 (l.drop at0) with
  | short =>
    have E := Lib.hid (one_short hq)
    have C := Lib.hid (begin42 A cap l at0 w HA.out hl hat hcap hq)
    clear hq
    go_enter Try.func30, Try.ntmps30
    go_wp2_with fail
    refine C.out.mono ?_
    rintro e w1 ⟨rfl, hb1⟩
    simp only [lnR]
    have HB := Lib.hid hb1
    clear hb1
    go_wp2_with fail
    go_ret2
    rw [E.out]
    exact ⟨rfl, HB.out⟩
  | wrong =>
    have E := Lib.hid (one_wrong hq)
    have C := Lib.hid (begin42 A cap l at0 w HA.out hl hat hcap hq)
    clear hq
    go_enter Try.func30, Try.ntmps30
    go_wp2_with fail
    refine C.out.mono ?_
    rintro e w1 ⟨rfl, hb1⟩
    simp only [lnR]
    have HB := Lib.hid hb1
    clear hb1
    go_wp2_with fail
    go_ret2
    rw [E.out]
    exact ⟨rfl, HB.out⟩
  | ok k many =>
    obtain ⟨K, hK⟩ : ∃ K, K = k + 1 := ⟨_, rfl⟩
    have h42 := line42 hq
    rw [List.length_drop] at h42
    have E := Lib.hid (one_ok hq)
    have C := Lib.hid (begin42 A cap l at0 w HA.out hl hat hcap hq)
    have HAT := Lib.hid hat
    have HM : Hid (argsR many [] (l.drop (at0 + K)) = oneR (l.drop at0)) := Lib.hid (by rw [E.out, List.drop_drop, ← hK])
    generalize oneR (l.drop at0) = R at HM ⊢
    have hm0 : at0 + K ≤ l.length := by omega
    have hm1 : many ≤ 50 := by omega
    have hK2 : 0 < K := by omega
    have hle : ¬ K = 0 := by omega
    clear hq E h42 hat
    go_enter Try.func30, Try.ntmps30
    go_wp2_with fail
    refine C.out.mono ?_
    rintro e w1 ⟨rfl, hb1⟩
    simp only [lnR]
    rw [← hK]
    have HK := Lib.hid hK
    have HB := Lib.hid hb1
    clear hb1 hK C
    obtain ⟨m0, hm⟩ : ∃ m0, m0 = at0 + K := ⟨_, rfl⟩
    have em : (at0 : Int) + (K : Int) = (m0 : Int) := by omega
    rw [← hm] at HM hm0
    have hmat : at0 ≤ m0 := by omega
    clear hm
    go_wp2_with fail
    go_loopg [8, 9] many (fun g i v wr => OneInv l at0 many w R g i v wr)
    case atStart => exact ⟨m0, [], rfl, hmat, hm0, by simp, HM.out, SRow.nil _ _, HB.out⟩
    case round =>
      obtain ⟨m, ps, rfl, ham, hml, hpg, hR, hS, hb⟩ := hrel
      obtain ⟨V, n0, vc, rfl, hn0⟩ := hS.form
      rw [List.length_map] at hn0
      have HS := Lib.hid hS
      have HR := Lib.hid hR
      have HB1 := Lib.hid hb
      have HN0 := Lib.hid hn0
      have hgn : n0 + gk = many := by omega
      clear hS hR hb hn0 hpg HB HM hmat hm0 em hle hK2 HK
      cases gk with
      | zero =>
        have i1 : ¬ ((n0 : Int) < (many : Int)) := by omega
        have e1 : (m : Int) - (at0 : Int) = ((m - at0 : Nat) : Int) := by omega
        have HE : Hid (R = .ok ps (l.drop m)) := Lib.hid HR.out.symm
        clear hgn
        go_wp2_with fail
        go_ret2
        rw [HE.out]
        refine ⟨⟨(ps, V, vc), rfl, ?_, ?_⟩, HB1.out⟩
        · show Ending.returned (.tuple #[.slice V n0 vc, .int .i64 ((m - at0 : Nat) : Int)]) = .returned (.tuple #[.slice V ps.length vc, .int .i64 ((l.length - at0 - (l.drop m).length : Nat) : Int)])
          rw [← HN0.out, show l.length - at0 - (l.drop m).length = m - at0 by rw [List.length_drop]; omega]
        · have := HS.out
          rw [HN0.out] at this
          exact this
      | succ g =>
        have i1 : (n0 : Int) < (many : Int) := by omega
        cases hq : lineR 36 0 1000 (l.drop m) with
        | short =>
          have HE : Hid (R = .short) := Lib.hid (HR.out.symm.trans (args_short hq))
          have C2 := Lib.hid (begin36 A cap l m wr (HA.out.keep HB1.out) hl hml hcap hq)
          clear hq hgn

          go_wp2_with fail
          refine C2.out.mono ?_
          rintro e w2 ⟨rfl, hb2⟩
          simp only [lnR]
          have HB2 := Lib.hid hb2
          have HB3 := Lib.hid (Dg.below_then HB1.out hb2)
          clear hb2 C2

          go_wp2_with fail
          go_ret2
          rw [HE.out]
          exact ⟨rfl, HB3.out⟩
        | wrong =>
          have HE : Hid (R = .wrong) := Lib.hid (HR.out.symm.trans (args_wrong hq))
          have C2 := Lib.hid (begin36 A cap l m wr (HA.out.keep HB1.out) hl hml hcap hq)
          clear hq hgn

          go_wp2_with fail
          refine C2.out.mono ?_
          rintro e w2 ⟨rfl, hb2⟩
          simp only [lnR]
          have HB2 := Lib.hid hb2
          have HB3 := Lib.hid (Dg.below_then HB1.out hb2)
          clear hb2 C2

          go_wp2_with fail
          go_ret2
          rw [HE.out]
          exact ⟨rfl, HB3.out⟩
        | ok k n =>
          obtain ⟨J, hJ⟩ : ∃ J, J = k + 1 := ⟨_, rfl⟩
          have h36 := line36 hq
          rw [List.length_drop] at h36
          obtain ⟨m2, hm2⟩ : ∃ m2, m2 = m + J := ⟨_, rfl⟩
          have em : (m : Int) + (J : Int) = (m2 : Int) := by omega
          have hm2l : m2 ≤ l.length := by omega
          have hm2p : 0 < m2 := by omega
          have ham2 : at0 ≤ m2 := by omega
          have hn : n ≤ 1000 := by omega
          have hj0 : 0 < J := by omega
          have hle : ¬ J = 0 := by omega
          have hdd : (l.drop m).drop (k + 1) = l.drop m2 := by rw [List.drop_drop, ← hJ, ← hm2]
          have C2 := Lib.hid (begin36 A cap l m wr (HA.out.keep HB1.out) hl hml hcap hq)
          have HQ := Lib.hid hq
          have HDD := Lib.hid hdd
          have HJ := Lib.hid hJ
          clear hq h36 hm2 hdd hJ

          go_wp2_with fail
          refine C2.out.mono ?_
          rintro e w2 ⟨rfl, hb2⟩
          simp only [lnR]
          rw [← HJ.out]
          have HB2 := Lib.hid hb2
          have HB3 := Lib.hid (Dg.below_then HB1.out hb2)
          clear hb2 C2

          have A2 := Lib.hid ((HA.out.keep HB1.out).keep HB2.out)
          have S2 := Lib.hid (HS.out.below HB2.out)
          obtain ⟨a, rfl⟩ : ∃ a, A = some a := by
            obtain ⟨a, e, _⟩ := A2.out.at_ (i := 0) (by omega)
            exact ⟨a, e⟩
          clear HB1 HB2 HA HS
          by_cases hsh : l.length < m2 + n
          · have HE : Hid (R = .short) := Lib.hid (HR.out.symm.trans (args_end HQ.out (by rw [HDD.out, List.length_drop]; omega)))
            have j1 : (l.length : Int) < (m2 : Int) + (n : Int) := by omega
            clear hsh
            by_cases hcl : cap = l.length
            · subst hcl
              have gc : (convert 23 9 (.slice (some a) 0 0)).run Try.prog w2 = .ok (.string ⟨#[]⟩) w2 := by
                have := conv_bts A2.out 0 0 0 (by omega)
                simpa [Addr.add] using this
              go_wp2_with fail
              go_ret2
              rw [HE.out]
              exact ⟨rfl, HB3.out⟩
            · have gc : (convert 23 9 (.slice (some (a.add l.length)) 0 (cap - l.length))).run Try.prog w2 = .ok (.string ⟨#[]⟩) w2 := by
                have := conv_bts A2.out l.length 0 (cap - l.length) (by omega)
                simpa using this
              have hcl2 : l.length < cap := by omega
              have hcl3 : ¬ cap ≤ l.length := by omega
              go_wp2_with fail
              go_ret2
              rw [HE.out]
              exact ⟨rfl, HB3.out⟩
          · have hnl : ¬ ((l.drop m).drop (k + 1)).length < n := by rw [HDD.out, List.length_drop]; omega
            have hrr : ∀ r, l.drop (m2 + n) = r → ((l.drop m).drop (k + 1)).drop n = r := fun r h => by rw [HDD.out, List.drop_drop]; exact h
            have hrl : (l.drop (m2 + n)).length = l.length - (m2 + n) := List.length_drop
            have HNL := Lib.hid hnl
            have HRR := Lib.hid hrr
            have hsh2 : m2 + n ≤ l.length := by omega
            clear hnl hrr hsh
            cases hr : l.drop (m2 + n) with
            | nil =>
              have HE : Hid (R = .short) := Lib.hid (HR.out.symm.trans (args_nil HQ.out HNL.out (HRR.out _ hr)))
              rw [hr] at hrl
              have j1 : (m2 : Int) + (n : Int) = (l.length : Int) := by simp at hrl; omega
              clear hr hrl
              by_cases hcl : cap = l.length
              · subst hcl
                have gc : (convert 23 9 (.slice (some a) 0 0)).run Try.prog w2 = .ok (.string ⟨#[]⟩) w2 := by
                  have := conv_bts A2.out 0 0 0 (by omega)
                  simpa [Addr.add] using this
                go_wp2_with fail
                go_ret2
                rw [HE.out]
                exact ⟨rfl, HB3.out⟩
              · have gc : (convert 23 9 (.slice (some (a.add l.length)) 0 (cap - l.length))).run Try.prog w2 = .ok (.string ⟨#[]⟩) w2 := by
                  have := conv_bts A2.out l.length 0 (cap - l.length) (by omega)
                  simpa using this
                have hcl2 : l.length < cap := by omega
                have hcl3 : ¬ cap ≤ l.length := by omega
                go_wp2_with fail
                go_ret2
                rw [HE.out]
                exact ⟨rfl, HB3.out⟩
            | cons c r =>
              rw [hr] at hrl
              obtain ⟨en, hen⟩ : ∃ en, en = m2 + n := ⟨_, rfl⟩
              have j1 : (m2 : Int) + (n : Int) = (en : Int) := by omega
              have j2 : ¬ (l.length : Int) < (en : Int) := by omega
              have hen1 : en < l.length := by simp at hrl; omega
              have hen2 : m2 ≤ en := by omega
              have HEN := Lib.hid hen
              cases r with
              | nil =>
                have j3 : (l.length : Int) < (en : Int) + 2 := by simp at hrl; omega
                have gc : (convert 23 9 (.slice (some (a.add en)) (l.length - en) (cap - en))).run Try.prog w2 = .ok (.string ⟨#[c]⟩) w2 := by
                  have := conv_bts A2.out en (l.length - en) (cap - en) (by omega)
                  rw [hen, hr, List.take_of_length_le (by simp at hrl ⊢; omega), ← hen] at this
                  exact this
                by_cases hc : c = 13
                · subst hc
                  have HE : Hid (R = .short) := Lib.hid (HR.out.symm.trans (args_one HQ.out HNL.out (HRR.out _ hr)))
                  clear hr hrl hen hsh2
                  go_wp2_with fail
                  go_ret2
                  rw [HE.out]
                  exact ⟨rfl, HB3.out⟩
                · have HE : Hid (R = .wrong) := Lib.hid (HR.out.symm.trans (args_one_wrong HQ.out HNL.out (HRR.out _ hr) hc))
                  have tc : ([c] == [(13 : UInt8)]) = false := by simpa using hc
                  clear hr hrl hen hsh2 hc
                  go_wp2_with fail
                  go_ret2
                  rw [HE.out]
                  exact ⟨rfl, HB3.out⟩
              | cons d r =>
                have j3 : ¬ (l.length : Int) < (en : Int) + 2 := by simp at hrl; omega
                have hen3 : en + 2 ≤ l.length := by simp at hrl; omega
                have gc : (convert 23 9 (.slice (some (a.add en)) 2 (cap - en))).run Try.prog w2 = .ok (.string ⟨#[c, d]⟩) w2 := by
                  have := conv_bts A2.out en 2 (cap - en) (by omega)
                  rw [hen, hr, ← hen] at this
                  exact this
                by_cases hcd : c = 13 ∧ d = 10
                · obtain ⟨rfl, rfl⟩ := hcd
                  have hM := HR.out.symm.trans (args_more HQ.out HNL.out (HRR.out _ hr))
                  have hr2 : l.drop (en + 2) = r := by
                    rw [← List.drop_drop, hen, hr]
                    rfl
                  rw [← hr2, HDD.out] at hM
                  have HMM := Lib.hid hM
                  have gc2 : (convert 23 9 (.slice (some (a.add m2)) (en - m2) (cap - m2))).run Try.prog w2 = .ok (.string ⟨((l.drop m2).take n).toArray⟩) w2 := by
                    have := conv_bts A2.out m2 n (cap - m2) (by omega)
                    rw [show en - m2 = n by omega]
                    exact this
                  clear hr hrl hen hsh2 hM hr2
                  have HLN : Hid ((ps.map bat).length ≤ 1048576) := Lib.hid (by rw [List.length_map, ← HN0.out]; omega)
                  have hgk : n0 + (g + 1) = many := hgn
                  clear hgn
                  go_wp2_with (at_builtin; refine wpList_append_str rfl _ _ rfl w.heap.size _ (ps.map bat) rfl (S2.out.alloc _) w2.heap.size (bat ((l.drop m2).take n)) rfl (heap_alloc_new w2 _) HLN.out ?c5 ?_)
                  case c5 => have := HB3.out.size; simp; omega
                  intro v' w10 ho10 hg10
                  have B10 := Lib.hid (SRow.grown (S2.out.alloc (.cells #[.string (bat ((l.drop m2).take n))] 9)) hg10 (HB3.out.alloc HB3.out.size _) (by have := HB3.out.size; simp; omega))
                  have O10 := Lib.hid ho10
                  clear ho10 hg10
                  obtain ⟨m3, hm3⟩ : ∃ m3, m3 = en + 2 := ⟨_, rfl⟩
                  have j4 : (en : Int) + 2 = (m3 : Int) := by omega
                  rw [← hm3] at HMM
                  have hm3l : m3 ≤ l.length := by omega
                  have hm3a : at0 ≤ m3 := by omega
                  clear hm3
                  go_wp2_with fail
                  go_roundg g
                  case rel =>
                    refine ⟨m3, ps ++ [(l.drop m2).take n], rfl, hm3a, hm3l, by simp; have := HN0.out; omega, HMM.out.symm, ?_, B10.out⟩
                    rw [List.map_append]
                    exact O10.out
                  case measure => omega
                · have HE : Hid (R = .wrong) := Lib.hid (HR.out.symm.trans (args_two_wrong HQ.out HNL.out (HRR.out _ hr) hcd))
                  have tc : ([c, d] == [(13 : UInt8), 10]) = false := by
                    rw [beq_eq_false_iff_ne]
                    intro e
                    injection e with e1 e2
                    injection e2 with e2
                    exact hcd ⟨e1, e2⟩
                  clear hr hrl hen hsh2 hcd
                  go_wp2_with fail
                  go_ret2
                  rw [HE.out]
                  exact ⟨rfl, HB3.out⟩
end Go.Proofs.Ytgjedhdnnfdcgaa.Rp
