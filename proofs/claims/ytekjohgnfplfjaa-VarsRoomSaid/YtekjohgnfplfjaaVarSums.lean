/-
  The walk of VarsSums.
-/
import Derived.Test.YtekjohgnfplfjaaVarP
namespace Go.Proofs.Ytekjohgnfplfjaa.Va
open Go.RowKit

def akey : ByteArray := ⟨#[97]⟩
theorem set_new (room : Nat) (hr : 0 < room) (n now : Int) : set room [] akey n now = ([(akey, n, -1)], 0) := by
  have : ¬ room = 0 := by omega
  unfold set full has fnd live
  simp [this, kept, has, fnd, live, wi, wo, ins]
theorem live_none (key : ByteArray) (n now : Int) : isLive now (key, n, -1) = true := by simp [isLive]
theorem has_one (n now : Int) : has [(akey, n, -1)] akey now = true := by simp [has, fnd, live, live_none]
theorem getv_one (n now : Int) : getv [(akey, n, -1)] akey now = n := by simp [getv, fnd, live, live_none]
theorem endOf_one (n now : Int) : endOf [(akey, n, -1)] akey now = -1 := by simp [endOf, fnd, live, live_none]
theorem add_one (n m : Int) : add 1 [(akey, n, -1)] akey m 0 = if inR (n + m) = true then ([(akey, n + m, -1)], n + m, 0) else ([(akey, n, -1)], 0, 6) := by
  unfold add
  rw [getv_one]
  by_cases h : inR (n + m) = true
  · rw [if_neg (by simp [h]), if_pos h, if_neg (by unfold full; rw [has_one]; simp)]
    unfold kept
    rw [has_one, if_pos rfl, endOf_one]
    simp [wi, wo, ins]
  · rw [if_pos (by simpa using h), if_neg h]
theorem add_b (n : Int) : add 1 [(akey, n, -1)] ⟨#[98]⟩ 1 0 = ([(akey, n, -1)], 0, 5) := by
  unfold add full has getv fnd live
  simp [live_none, inR, akey]

theorem sign3 (x : Int) : (decide (0 < x) = true ∧ decide (x < 0) = false) ∨ (decide (0 < x) = false ∧ decide (x < 0) = true) ∨ (decide (0 < x) = false ∧ decide (x < 0) = false) := by
  by_cases h1 : 0 < x
  · exact .inl ⟨decide_eq_true h1, decide_eq_false (by omega)⟩
  · by_cases h2 : x < 0
    · exact .inr (.inl ⟨decide_eq_false h1, decide_eq_true h2⟩)
    · exact .inr (.inr ⟨decide_eq_false h1, decide_eq_false h2⟩)
theorem sum_in {z x m : Int} (hz : I64 z) (hx : I64 x) (ew : wrap64 (z + x) = m) :
    (0 < x → decide (m < z) = !inR (z + x)) ∧ (x < 0 → decide (z < m) = !inR (z + x)) ∧ (¬ 0 < x → ¬ x < 0 → inR (z + x) = true) ∧ (inR (z + x) = true → m = z + x) := by
  subst ew
  unfold inR wrap64 I64 at *
  refine ⟨fun h => ?_, fun h => ?_, fun h h2 => decide_eq_true (by omega), fun h => ?_⟩
  · rw [← decide_not]; exact decide_eq_decide.2 (by omega)
  · rw [← decide_not]; exact decide_eq_decide.2 (by omega)
  · have := of_decide_eq_true h; omega
/-- a row of numbers -/
def Ints (w : World) (A : Option Addr) (l : List Int) : Prop := ∀ i (h : i < l.length), ∃ a : Addr, A = some a ∧ w.cell? (a.add i) = some (.int .i64 l[i])
theorem Ints.keep {w w' : World} {A : Option Addr} {l : List Int} (h : Ints w A l) (hb : Below w.heap.size w w') : Ints w' A l := fun i hi => by
  obtain ⟨a, e, hc⟩ := h i hi
  exact ⟨a, e, by rw [hb.cell (World.block_lt_of_cell? w _ hc)]; exact hc⟩

set_option maxRecDepth 100000 in
set_option maxHeartbeats 4000000 in
theorem sums_law (C : VC) (start : Int) (hs : I64 start) (A : Option Addr) (cap : Nat) (l : List Int) (w : World) (hA : Ints w A l) (hL : ∀ x ∈ l, I64 x) (hZ : l.length ≤ maxLen) :
    Calls Try.prog 4 #[.int .i64 start, .slice A l.length cap] w fun e w' => e = .returned (.bool true) ∧ Below w.heap.size w w' := by
  have hZ2 : l.length ≤ 9223372036854775807 := by unfold maxLen at hZ; omega
  clear hZ
  by_cases h60 : 60 < l.length
  · have t1 : decide ((60 : Int) < (l.length : Int)) = true := decide_eq_true (by omega)
    clear hA hL
    go_enter Try.func4, Try.ntmps4
    go_wp2_with fail
    refine (known_calls C _).mono ?_
    rintro e w8 ⟨rfl, hb8⟩
    go_wp2_with fail
    go_ret
    exact ⟨rfl, hb8⟩
  · have t1 : decide ((60 : Int) < (l.length : Int)) = false := decide_eq_false (by omega)
    have HA := Lib.hid hA
    have HL := Lib.hid hL
    have HS := Lib.hid hs
    clear hA hL hs
    go_enter Try.func4, Try.ntmps4
    go_wp2_with fail
    refine (mNew (C := C) 1 (by omega) (Below.refl w.heap.size w)).mono ?_
    rintro e w2 ⟨v, rfl, h2⟩
    have H2 : Hid (Mine C w w2 v 1 []) := Lib.hid h2
    clear h2
    go_wp2_with fail
    refine (mSet H2.out akey start 0 (by decide) HS.out (by omega)).mono ?_
    rw [set_new 1 (by omega)]
    rintro e w3 ⟨rfl, h3⟩
    have H3 := Lib.hid h3
    clear h3 H2
    go_wp2_with fail
    go_loopw [6, 7] (fun n i wr => ∃ (k : Nat) (z : Int), k ≤ l.length ∧ I64 z ∧ n = .int .i64 z ∧ i = .int .i64 (k : Nat) ∧ Hid (Mine C w wr v 1 [(akey, z, -1)])) (fun _ i _ => l.length - (intOf i).toNat)
    case atStart => exact ⟨0, start, Nat.zero_le _, HS.out, rfl, rfl, H3.out⟩
    case round =>
      obtain ⟨k, z, hk, hz, rfl, rfl, HM⟩ := hrel
      by_cases hlt : k < l.length
      · obtain ⟨a, rfl, c0⟩ := (HA.out.keep (HM.out.1)) k hlt
        have hx := HL.out l[k] (List.getElem_mem hlt)
        generalize l[k] = x at c0 hx
        have HIN := Lib.hid (sum_in hz hx rfl)
        have HX := Lib.hid hx
        have HZZ := Lib.hid hz
        clear hx hz
        go_upto_region 10 with (fail)
        go_cut [9] (fun o wx => o = .bool (!inR (z + x)) ∧ wx = wr)
        case first =>
          rcases sign3 x with ⟨d1, d2⟩ | ⟨d1, d2⟩ | ⟨d1, d2⟩
          · have d3 := HIN.out.1 (of_decide_eq_true d1)
            cases hb : inR (z + x) <;> rw [hb] at d3 <;> (go_wp2_with fail; go_meet; case rel => exact ⟨by rw [hb]; rfl, rfl⟩)
          · have d3 := HIN.out.2.1 (of_decide_eq_true d2)
            cases hb : inR (z + x) <;> rw [hb] at d3 <;> (go_wp2_with fail; go_meet; case rel => exact ⟨by rw [hb]; rfl, rfl⟩)
          · have hb := HIN.out.2.2.1 (of_decide_eq_false d1) (of_decide_eq_false d2)
            go_wp2_with fail
            go_meet
            case rel => exact ⟨by rw [hb]; rfl, rfl⟩
        case rest =>
          obtain ⟨rfl, rfl⟩ := hcut
          go_wp2_with fail
          refine (mAdd HM.out akey x 0 (by decide) HX.out (by omega)).mono ?_
          rw [add_one]
          cases hr : inR (z + x) with
          | true =>
            have he := HIN.out.2.2.2 hr
            clear HIN
            rw [if_pos rfl]
            rintro e w4 ⟨rfl, h4⟩
            have H4 := Lib.hid h4
            clear h4
            go_wp2_with fail
            refine (mGet H4.out akey 0 (by decide) (by omega)).mono ?_
            rw [getv_one, has_one]
            rintro e w5 ⟨rfl, h5, -⟩
            have H5 := Lib.hid h5
            clear h5
            go_wp2_with fail
            go_roundw
            case rel => exact ⟨k + 1, z + x, by omega, by unfold inR at hr; exact of_decide_eq_true hr, rfl, by go_num, H5⟩
            case measure => simp [intOf]; omega
          | false =>
            rw [if_neg (by simp)]
            rintro e w4 ⟨rfl, h4⟩
            have H4 := Lib.hid h4
            clear h4
            go_wp2_with fail
            refine (mGet H4.out akey 0 (by decide) (by omega)).mono ?_
            rw [getv_one, has_one]
            rintro e w5 ⟨rfl, h5, -⟩
            have H5 := Lib.hid h5
            clear h5
            go_wp2_with fail
            go_roundw
            case rel => exact ⟨k + 1, z, by omega, HZZ.out, rfl, by go_num, H5⟩
            case measure => simp [intOf]; omega
      · go_wp2_with fail
        refine (mAdd HM.out ⟨#[98]⟩ 1 0 (by decide) (by omega) (by omega)).mono ?_
        rw [add_b]
        rintro e w4 ⟨rfl, h4⟩
        have H4 := Lib.hid h4
        clear h4
        go_wp2_with fail
        refine (known_calls C _).mono ?_
        rintro e w8 ⟨rfl, hb8⟩
        have H8 := Lib.hid (H4.out.below hb8)
        clear hb8
        go_wp2_with fail
        go_ret
        exact ⟨rfl, H8.out.1⟩
end Go.Proofs.Ytekjohgnfplfjaa.Va
