/-
  ReplyDecodes: any bytes are read as the document reads them.
-/
import Derived.Test.YtflmolhkbpicbaaDoorKGYC
namespace Go.Proofs.YtflmolhkbpicbaaDoor.Ry
open Go.RowKit

set_option maxRecDepth 100000 in
theorem YDec.ok_len {l r : Bytes} {x : Rep} (h : decR l = .ok x r) : x.l.length ≤ l.length := by
  obtain ⟨h1, h2⟩ := dec_ok h
  have h3 := enc_long h1
  have h4 := txL_len x.l
  have h5 := congrArg List.length h2
  rw [List.length_append] at h5
  unfold longR at h3
  omega
/-- what two readers answer, told in one form -/
def DTwo (R : Rd Rep) (n : Nat) (x : Rep) (k : Nat) (e : Nat) : Prop := match R with
  | .ok y r => x = y ∧ k = n - r.length ∧ e = 0
  | .err j => x = zero ∧ k = 0 ∧ e = j
set_option maxRecDepth 100000 in
theorem YDec.two {R : Rd Rep} {n : Nat} {e : Ending} {w : World} (h : YDec R n e w) : ∃ x A c k q, e = .returned (.tuple #[rv x A c, .int .i64 (k : Nat), .int .i64 (q : Nat)]) ∧ Rd4 w x A c ∧ DTwo R n x k q := by
  cases R with
  | ok x r => obtain ⟨A, c, rfl, h⟩ := h; exact ⟨x, A, c, _, 0, rfl, h, rfl, rfl, rfl⟩
  | err j => obtain ⟨A, c, rfl, h⟩ := h; exact ⟨zero, A, c, 0, j, rfl, h, rfl, rfl, rfl⟩
set_option maxRecDepth 100000 in
theorem DecRes.two {R : Rd Rep} {n B : Nat} {e : Ending} {w : World} (h : DecRes R n B e w) : ∃ x A c k q, e = .returned (.tuple #[rv x A c, .int .i64 (k : Nat), .int .i64 (q : Nat)]) ∧ Texts w A (x.l.map bat) ∧ DTwo R n x k q := by
  cases R with
  | ok x r =>
    obtain ⟨A, c, rfl, h⟩ := h
    exact ⟨x, A, c, _, 0, rfl, (SRow.texts h).2, rfl, rfl, rfl⟩
  | err j =>
    obtain rfl := h
    exact ⟨zero, none, 0, 0, j, rfl, (Rd4.zero w).txs, rfl, rfl, rfl⟩
set_option maxRecDepth 100000 in
theorem AllRes.form {R : List Rep × Nat} {B : Nat} {e : Ending} {w : World} (h : AllRes R B e w) : ∃ A c l, e = .returned (.tuple #[.slice A l.length c, .int .i64 (R.2 : Nat)]) ∧ Reps w A l ∧ Txs w l ∧ rs l = R.1 := by
  rcases h with ⟨h0, v, L, rfl, hq, hm, hr⟩ | ⟨h0, h1, rfl⟩
  · obtain ⟨A, c, rfl, h1, h2, h3⟩ := hq.view
    exact ⟨A, c, L, by rw [h0]; rfl, h3, hm.txs, hr⟩
  · exact ⟨none, 0, [], rfl, Reps.nil _ _, (fun x hx => by cases hx), by rw [h1]; rfl⟩
set_option maxRecDepth 100000 in
theorem all_small (s : Bytes) : ∀ x ∈ (all s).1, x.l.length ≤ s.length := by
  have key : ∀ (n : Nat) (s : Bytes), s.length ≤ n → ∀ x ∈ (all s).1, x.l.length ≤ s.length := by
    intro n
    induction n with
    | zero =>
      intro s hs x hx
      obtain rfl : s = [] := List.eq_nil_of_length_eq_zero (by omega)
      cases hx
    | succ n ih =>
      intro s hs x hx
      by_cases h0 : s = []
      · subst h0; cases hx
      · cases hd : decR s with
        | err e => rw [all_err h0 hd] at hx; cases hx
        | ok y r =>
          have h1 := dec_len hd
          have h2 := ih r (by omega)
          rw [all_ok hd] at hx
          rcases hr : all r with ⟨l, e⟩
          rw [hr] at hx h2
          cases e with
          | zero =>
            simp only at hx h2
            rcases List.mem_cons.1 hx with rfl | hx
            · exact YDec.ok_len hd
            · have := h2 x hx; omega
          | succ e => cases hx
  exact key s.length s (Nat.le_refl _)
set_option maxRecDepth 100000 in
theorem all_many (s : Bytes) : (all s).1.length ≤ s.length := by
  have key : ∀ (n : Nat) (s : Bytes), s.length ≤ n → (all s).1.length ≤ s.length := by
    intro n
    induction n with
    | zero =>
      intro s hs
      obtain rfl : s = [] := List.eq_nil_of_length_eq_zero (by omega)
      exact Nat.le_refl _
    | succ n ih =>
      intro s hs
      by_cases h0 : s = []
      · subst h0; exact Nat.le_refl _
      · cases hd : decR s with
        | err e => rw [all_err h0 hd]; exact Nat.zero_le _
        | ok y r =>
          have h1 := dec_len hd
          have h2 := ih r (by omega)
          rw [all_ok hd]
          rcases hr : all r with ⟨l, e⟩
          rw [hr] at h2
          cases e with
          | zero => simp only [List.length_cons] at h2 ⊢; omega
          | succ e => exact Nat.zero_le _
  exact key s.length s (Nat.le_refl _)
set_option maxRecDepth 100000 in
theorem dtwo_eq {R : Rd Rep} {n : Nat} {x y : Rep} {k m p q : Nat} (h : DTwo R n x k p) (h2 : DTwo R n y m q) : x = y ∧ k = m ∧ p = q := by
  cases R with
  | ok z r => obtain ⟨rfl, rfl, rfl⟩ := h; obtain ⟨rfl, rfl, rfl⟩ := h2; exact ⟨rfl, rfl, rfl⟩
  | err j => obtain ⟨rfl, rfl, rfl⟩ := h; obtain ⟨rfl, rfl, rfl⟩ := h2; exact ⟨rfl, rfl, rfl⟩
set_option maxRecDepth 100000 in
theorem dtwo_len {l : Bytes} {x : Rep} {k p : Nat} (h : DTwo (decR l) l.length x k p) : x.l.length ≤ l.length := by
  cases hd : decR l with
  | ok z r => rw [hd] at h; obtain ⟨rfl, -, -⟩ := h; exact YDec.ok_len hd
  | err j => rw [hd] at h; obtain ⟨rfl, -, -⟩ := h; exact Nat.zero_le _

set_option maxHeartbeats 8000000 in
set_option maxRecDepth 100000 in
theorem decodes_law (C : YC) (A : Option Addr) (cap : Nat) (l : Bytes) (w : World) (hA : Bts w A l) (hcap : l.length ≤ cap) (hnil : A = none → cap = 0) (_hl : l.length ≤ maxLen) (hTB : Tb w) :
    Calls Tryd.prog 4 #[.slice A l.length cap] w fun e w' => e = .returned (.bool true) ∧ Below w.heap.size w w' := by
  have HA := Lib.hid hA
  have HTB := Lib.hid hTB
  clear hA hTB
  have KC := known_calls C
  go_enter Tryd.func4, Tryd.ntmps4
  by_cases hg : 1500 < l.length
  · have i1 : (1500 : Int) < (l.length : Int) := by omega
    go_wp2_with fail
    refine (KC _).mono ?_
    rintro e w1 ⟨rfl, hb1⟩
    go_wp2_with fail
    go_ret
    exact ⟨rfl, hb1⟩
  · have i1 : ¬ (1500 : Int) < (l.length : Int) := by omega
    have hl5 : l.length ≤ 65000 := by omega
    have P1 := fun w h => C.decode_ A cap l w h hcap hnil hl5
    have P2 := fun w h => decode_calls A cap l w h hl5 hcap
    have P3 := fun w h => C.all_ A cap l w h hcap hnil hl5
    have P4 := fun w h => all_calls A cap l w h hl5 hcap
    obtain ⟨N, hN⟩ : ∃ N, N = l.length := ⟨_, rfl⟩
    have HN := Lib.hid hN
    rw [← hN] at P1 P2 P3 P4 i1 ⊢
    have HG := Lib.hid (show l.length ≤ 1500 by omega)
    clear hN hg _hl hl5 hcap hnil
    go_wp2_with fail
    refine (P1 _ HA.out HTB.out).mono ?_
    rintro e w1 ⟨hy, hb1⟩
    obtain ⟨x, A1, c1, k1, q1, rfl, hr1, ht1⟩ := hy.two
    have HR1 := Lib.hid hr1
    have HT1 := Lib.hid ht1
    have HB1 := Lib.hid hb1
    clear hy hr1 ht1 hb1 P1
    go_wp2_with fail
    refine (P2 _ (HA.out.keep (HB1.out.alloc HB1.out.size _))).mono ?_
    rintro e w2 ⟨hy, hb2⟩
    obtain ⟨x2, A2, c2, k2, q2, rfl, hr2, ht2⟩ := hy.two
    obtain ⟨rfl, rfl, rfl⟩ := dtwo_eq HT1.out ht2
    have X2 := Lib.hid ((Box.new w1 _ _).keep hb2)
    have HT2 := Lib.hid (HR1.out.keep (((Below.refl _ _).alloc (Nat.le_refl _) _).trans (hb2.mono (by simp))))
    have HR2 := Lib.hid hr2
    have HB2 := Lib.hid ((HB1.out.alloc HB1.out.size _).trans (hb2.mono (by have := HB1.out.size; simp; omega)))
    clear hy hr2 ht2 hb2 P2 HR1
    go_wp2_with fail
    refine (P3 _ (HA.out.keep (HB2.out.alloc HB2.out.size _)) (HTB.out.keep (HB2.out.alloc HB2.out.size _))).mono ?_
    rintro e w3 ⟨⟨A3, c3, L3, rfl, hq3, hl3⟩, hb3⟩
    have hb23 : Below w2.heap.size w2 w3 := ((Below.refl _ _).alloc (Nat.le_refl _) _).trans (hb3.mono (by simp))
    have X3 := Lib.hid (X2.out.keep hb23)
    have Y3 := Lib.hid ((Box.new w2 _ _).keep hb3)
    have HT3 := Lib.hid (HT2.out.keep hb23)
    have HR3 := Lib.hid (HR2.out.keep hb23)
    have HB3 := Lib.hid (HB2.out.trans (hb23.mono HB2.out.size))
    have HQ3 := Lib.hid hq3
    have HL3 := Lib.hid hl3
    clear hb3 hb23 hq3 hl3 P3 X2 HT2 HR2 HB2
    go_wp2_with fail
    refine (P4 _ (HA.out.keep HB3.out)).mono ?_
    rintro e w4 ⟨hy, hb4⟩
    obtain ⟨A4, c4, L4, rfl, hr4, ht4, hl4⟩ := AllRes.form hy
    have X4 := X3.out.keep hb4
    have Y4 := Y3.out.keep hb4
    have HT4 := Lib.hid (HT3.out.keep hb4)
    have HR4 := Lib.hid (HR3.out.keep hb4)
    have HB4 := Lib.hid (HB3.out.trans (hb4.mono HB3.out.size))
    have HQ4 := Lib.hid (HQ3.out.keep hb4)
    have HU4 := Lib.hid (And.intro hr4 ht4)
    have HE4 := Lib.hid (HL3.out.trans hl4.symm)
    have HS4 : Hid (L3.length ≤ 1500 ∧ L4.length ≤ 1500 ∧ (∀ x ∈ L3, x.1.l.length ≤ 1500) ∧ (∀ x ∈ L4, x.1.l.length ≤ 1500) ∧ x.l.length ≤ 1500) := Lib.hid (by
      have g1 := all_many l
      have g2 := all_small l
      have g3 := HG.out
      refine ⟨?_, ?_, fun y hy => ?_, fun y hy => ?_, ?_⟩
      · have := congrArg List.length HL3.out; rw [List.length_map] at this; omega
      · have := congrArg List.length hl4; rw [List.length_map] at this; omega
      · have := g2 y.1 (by rw [← HL3.out]; exact List.mem_map_of_mem hy); omega
      · have := g2 y.1 (by rw [← hl4]; exact List.mem_map_of_mem hy); omega
      · have := HN.out ▸ HT1.out; have := dtwo_len this; omega)
    have d0 := X4.cell 0
    have d1 := X4.cell 1
    have d2 := X4.cell 2
    have d3 := X4.cell 3
    have e0 := Y4.cell 0
    have e1 := Y4.cell 1
    have e2 := Y4.cell 2
    have e3 := Y4.cell 3
    simp only [List.getElem?_toArray, List.getElem?_cons_zero, List.getElem?_cons_succ] at d0 d1 d2 d3 e0 e1 e2 e3
    clear hb4 hy hr4 ht4 hl4 P4 X3 Y3 HT3 HR3 HB3 HQ3 HL3 X4 Y4
    go_wp2_with fail
    refine (rsame_calls x x A1 A2 c1 c2 w4 HT4.out.txs HR4.out (by have := HS4.out.2.2.2.2; omega) (by have := HS4.out.2.2.2.2; omega)).mono ?_
    rintro e w5 ⟨rfl, hb5⟩
    rw [decide_eq_true rfl]
    have HB5 := Lib.hid (HB4.out.trans (hb5.mono HB4.out.size))
    have HQ5 := Lib.hid (HQ4.out.keep hb5)
    have HU5 := Lib.hid (And.intro (HU4.out.1.keep hb5) (HU4.out.2.keep hb5))
    clear hb5 d0 d1 d2 d3 e0 e1 e2 e3 HB4 HQ4 HU4
    go_wp2_with fail
    refine (sameall_calls A3 A4 c3 c4 L3 L4 w5 HQ5.out.reps HU5.out.1 HQ5.out.txs HU5.out.2 (by have := HS4.out.1; omega) (by have := HS4.out.2.1; omega) (fun y hy => by have := HS4.out.2.2.1 y hy; omega) (fun y hy => by have := HS4.out.2.2.2.1 y hy; omega)).mono ?_
    rintro e w6 ⟨rfl, hb6⟩
    rw [decide_eq_true HE4.out]
    have HB6 := Lib.hid (HB5.out.trans (hb6.mono HB5.out.size))
    clear hb6 HQ5 HU5 HB5
    go_wp2_with fail
    refine (KC _).mono ?_
    rintro e w7 ⟨rfl, hb7⟩
    have HB7 := Lib.hid (HB6.out.trans (hb7.mono HB6.out.size))
    clear hb7 HB6
    go_wp2_with fail
    go_ret
    exact ⟨rfl, HB7.out⟩
end Go.Proofs.YtflmolhkbpicbaaDoor.Ry
