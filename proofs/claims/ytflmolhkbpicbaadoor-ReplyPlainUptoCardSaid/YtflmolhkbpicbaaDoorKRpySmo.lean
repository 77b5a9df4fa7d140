/-
  reply.Same; slices.Clone and slices.Equal of texts.
-/
import Derived.Test.YtflmolhkbpicbaaDoorKRpyAlo
import Derived.Test.YtflmolhkbpicbaaDoorKGFor
namespace Go.Proofs.YtflmolhkbpicbaaDoor.Ry
open Go.RowKit

set_option maxRecDepth 100000 in
theorem map_bat_inj {l m : List Bytes} (h : l.map bat = m.map bat) : l = m := by
  have : ∀ a b : Bytes, bat a = bat b → a = b := fun a b e => by
    have := congrArg (fun s : ByteArray => s.data.toList) e
    simpa using this
  exact (List.map_inj_right (f := bat) (fun a b e => this a b e)).1 h
set_option maxRecDepth 100000 in
theorem txt_cell {w : World} {a : Addr} {ps : List ByteArray} (h : Texts w (some a) ps) (h0 : 0 < ps.length) : a.spot = none ∧ ∀ j, j < ps.length → w.cell? ⟨a.block, a.off + j, none⟩ = some (.string (ps.getD j ByteArray.empty)) := by
  have hs : a.spot = none := by
    obtain ⟨a', e, hc⟩ := h 0 h0
    injection e with e
    subst e
    cases hsp : a.spot with
    | none => rfl
    | some k =>
      have e0 : a.add 0 = a := by unfold Addr.add; rfl
      rw [e0] at hc
      unfold World.cell? at hc
      rw [hsp] at hc
      split at hc <;> simp at hc
  refine ⟨hs, fun j hj => ?_⟩
  obtain ⟨a', e, hc⟩ := h j hj
  injection e with e
  subst e
  have ea : a.add j = ⟨a.block, a.off + j, none⟩ := by
    cases j with
    | zero => unfold Addr.add; obtain ⟨b, o, s⟩ := a; simp at hs; simp [hs]
    | succ j => exact addS a j
  rw [← ea, hc]
  simp [List.getD, hj]
set_option maxRecDepth 100000 in
theorem addr_eta (a : Addr) (h : a.spot = none) : a = ⟨a.block, a.off, none⟩ := by
  obtain ⟨b, o, s⟩ := a
  simp at h
  rw [h]
set_option maxRecDepth 100000 in
theorem clone_calls (A : Option Addr) (cap : Nat) (ps : List ByteArray) (w : World) (h : Texts w A ps) (hle : ps.length ≤ cap) (hnil : A = none → cap = 0) (hn : ps.length ≤ 65000) :
    Calls Tryd.prog 26 #[.slice A ps.length cap] w fun e w' => ∃ A' c', e = .returned (.slice A' ps.length c') ∧ SRow w' w.heap.size (.slice A' ps.length c') ps ∧ Below w.heap.size w w' := by
  cases A with
  | none =>
    obtain rfl := hnil rfl
    obtain rfl : ps = [] := List.eq_nil_of_length_eq_zero (by omega)
    refine (Tryd.slices_Clone_string_nil 0 0 w).mono ?_
    rintro e w' ⟨rfl, rfl⟩
    exact ⟨none, 0, rfl, SRow.nil _ _, Below.refl _ _⟩
  | some a =>
    by_cases h0 : ps = []
    · subst h0
      refine (Tryd.slices_Clone_string_zero a cap w).mono ?_
      rintro e w' ⟨v', rfl, hrow, _, hb⟩
      obtain ⟨A', n', c', rfl, hn'⟩ := SRow.form (l := []) hrow
      subst hn'
      exact ⟨A', c', rfl, hrow, hb⟩
    · obtain ⟨hs, hc⟩ := txt_cell h (List.length_pos_iff.2 h0)
      rw [addr_eta a hs]
      refine (Tryd.slices_Clone_string a.block a.off ps.length cap ps w (Nat.le_refl _) (by omega) hc).mono ?_
      rintro e w' ⟨v', rfl, hrow, _, hb⟩
      rw [List.take_length] at hrow
      obtain ⟨A', n', c', rfl, hn'⟩ := SRow.form (l := ps) hrow
      subst hn'
      exact ⟨A', c', rfl, hrow, hb⟩
set_option maxRecDepth 100000 in
theorem equal_calls (A C : Option Addr) (cap cap2 : Nat) (l m : List Bytes) (w : World) (hA : Texts w A (l.map bat)) (hC : Texts w C (m.map bat)) (hl : l.length ≤ 65000) (hm : m.length ≤ 65000) :
    Calls Tryd.prog 29 #[.slice A l.length cap, .slice C m.length cap2] w fun e w' => e = .returned (.bool (decide (l = m))) ∧ Below w.heap.size w w' := by
  by_cases h1 : l.length = m.length
  · by_cases h0 : l = []
    · subst h0
      refine (Tryd.slices_Equal_string_empty A C cap m.length cap2 w (by omega)).mono ?_
      rintro e w' ⟨rfl, rfl⟩
      have hm0 : m = [] := List.eq_nil_of_length_eq_zero (by simpa using h1.symm)
      subst hm0
      exact ⟨rfl, Below.refl _ _⟩
    · have hp := List.length_pos_iff.2 h0
      obtain ⟨a, rfl, _⟩ := hA.at_ (i := 0) (by rw [List.length_map]; exact hp)
      obtain ⟨b, rfl, _⟩ := hC.at_ (i := 0) (by rw [List.length_map]; omega)
      obtain ⟨hs1, hc1⟩ := txt_cell hA (by rw [List.length_map]; exact hp)
      obtain ⟨hs2, hc2⟩ := txt_cell hC (by rw [List.length_map]; omega)
      rw [addr_eta a hs1, addr_eta b hs2]
      refine (Tryd.slices_Equal_string a.block a.off l.length cap b.block b.off m.length cap2 (l.map bat) (m.map bat) w (by simp) (by simp) (by omega) (by omega) hc1 hc2).mono ?_
      rintro e w' ⟨rfl, q, rfl⟩
      have e1 : (l.map bat).take l.length = l.map bat := by rw [List.take_of_length_le]; simp
      have e2 : (m.map bat).take m.length = m.map bat := by rw [List.take_of_length_le]; simp
      rw [e1, e2]
      refine ⟨?_, below_drewN (Below.refl _ _) _⟩
      congr 2
      exact decide_eq_decide.2 ⟨fun h => map_bat_inj h, fun h => by rw [h]⟩
  · refine (Tryd.slices_Equal_string_lens A C l.length cap m.length cap2 w h1).mono ?_
    rintro e w' ⟨rfl, rfl⟩
    exact ⟨by rw [decide_eq_false]; intro h; exact h1 (by rw [h]), Below.refl _ _⟩

set_option maxHeartbeats 4000000 in
set_option maxRecDepth 100000 in
theorem same_own (x y : Rep) (A C : Option Addr) (cap cap2 : Nat) (w : World) (hA : Texts w A (x.l.map bat)) (hC : Texts w C (y.l.map bat)) (hx : x.l.length ≤ 65000) (hy : y.l.length ≤ 65000) :
    Calls Tryd.prog 18 #[rv x A cap, rv y C cap2] w fun e w' => e = .returned (.bool (decide (x = y))) ∧ Below w.heap.size w w' := by
  obtain ⟨k, t, n, l⟩ := x
  obtain ⟨k2, t2, n2, l2⟩ := y
  simp only at hA hC hx hy
  generalize hR : decide ((⟨k, t, n, l⟩ : Rep) = ⟨k2, t2, n2, l2⟩) = R
  have HA := Lib.hid hA
  have HC := Lib.hid hC
  clear hA hC
  unfold rv
  go_enter Tryd.func18, Tryd.ntmps18
  have hbb : Below w.heap.size w ((w.alloc (.cells #[.int .i64 k, .string (bat t), .int .i64 n, .slice A l.length cap] 25)).alloc (.cells #[.int .i64 k2, .string (bat t2), .int .i64 n2, .slice C l2.length cap2] 25)) := ((Below.refl _ w).alloc (Nat.le_refl _) _).alloc (by simp) _
  have HBB := Lib.hid hbb
  clear hbb
  by_cases h1 : k = k2
  · by_cases h2 : t = t2
    · by_cases h3 : n = n2
      · subst h1 h2 h3
        have HR : Hid (decide (l = l2) = R) := Lib.hid (by rw [← hR]; simp)
        have HE := Lib.hid (equal_calls A C cap cap2 l l2 _ (HA.out.keep HBB.out) (HC.out.keep HBB.out) hx hy)
        rw [HR.out] at HE
        clear hR
        go_wp2_with fail
        refine HE.out.mono ?_
        rintro e w1 ⟨rfl, hb1⟩
        have HB1 := Lib.hid (HBB.out.trans (hb1.mono HBB.out.size))
        clear hb1
        go_wp2_with fail
        all_goals
          go_ret
          refine ⟨?_, HB1.out⟩
          first | rfl | (cases R <;> rfl) | simp_all
      · have HR : Hid (R = false) := Lib.hid (by rw [← hR, decide_eq_false]; intro e; injection e with e1 e2 e3 e4; exact h3 e3)
        have j3 : (n == n2) = false := by rw [beq_eq_false_iff_ne]; exact h3
        subst h1 h2
        clear hR h3
        go_wp2_with fail
        go_ret
        exact ⟨by rw [HR.out]; rfl, HBB.out⟩
    · have HR : Hid (R = false) := Lib.hid (by rw [← hR, decide_eq_false]; intro e; injection e with e1 e2 e3 e4; exact h2 e2)
      subst h1
      have j2 : ((bat t).toList == (bat t2).toList) = false := by rw [Lib.toList_data, Lib.toList_data]; simpa using h2
      clear hR
      go_wp2_with fail
      go_ret
      exact ⟨by rw [HR.out]; rfl, HBB.out⟩
  · have HR : Hid (R = false) := Lib.hid (by rw [← hR, decide_eq_false]; intro e; injection e with e1 e2 e3 e4; exact h1 e1)
    have j1 : (k == k2) = false := by rw [beq_eq_false_iff_ne]; exact h1
    clear hR h1
    go_wp2_with fail
    go_ret
    exact ⟨by rw [HR.out]; rfl, HBB.out⟩
end Go.Proofs.YtflmolhkbpicbaaDoor.Ry
