/-
  What window.remembered answers, in any world.
-/
import Derived.Test.YtljaemiggeeghaaWinCopy
namespace Go.Proofs.Ytljaemiggeeghaa
open Go.RowKit
namespace Wn

/-- the entries that are not gone at a time -/
def rem (per tm : Int) (l : List (Int × Int)) : List (Int × Int) := l.dropWhile fun e => !decide (tm - e.1 < per)
theorem rem_gone {per tm : Int} {l : List (Int × Int)} {k : Nat} (hk : k < l.length) (h : ¬ tm - l[k].1 < per) : rem per tm (l.drop k) = rem per tm (l.drop (k + 1)) := by
  unfold rem
  rw [List.drop_eq_getElem_cons hk, List.dropWhile_cons]
  simp [h]
theorem rem_here {per tm : Int} {l : List (Int × Int)} {k : Nat} (hk : k < l.length) (h : tm - l[k].1 < per) : rem per tm (l.drop k) = l.drop k := by
  unfold rem
  rw [List.drop_eq_getElem_cons hk, List.dropWhile_cons]
  simp [h]
theorem rem_none {per tm : Int} {l : List (Int × Int)} {k : Nat} (hk : ¬ k < l.length) : rem per tm (l.drop k) = [] := by
  rw [List.drop_eq_nil_of_le (by omega)]; rfl

theorem Ents.drop {w : World} {a : Addr} {l : List (Int × Int)} (h : Ents w (some a) l) (k : Nat) : Ents w (some (a.add (k * 2))) (l.drop k) := by
  refine Ents.of_cells fun j v hv => ?_
  have hc := h.cells (k * 2 + j) v (by
    rw [← hv]
    have e : ecells l = ecells (l.take k) ++ ecells (l.drop k) := by rw [← ecells_append, List.take_append_drop]
    by_cases hk : k ≤ l.length
    · rw [e, List.getElem?_append_right (by rw [ecells_length, List.length_take]; omega)]
      congr 1
      rw [ecells_length, List.length_take]; omega
    · rw [List.drop_eq_nil_of_le (by omega)] at hv
      simp [ecells] at hv)
  rw [Addr.add_add]; exact hc

set_option maxHeartbeats 2000000 in
theorem remembered_calls (p : Pol) (A : Option Addr) (cap : Nat) (l : List (Int × Int)) (tm : Int) (w : World) (hA : Ents w A l) (hn : l.length ≤ 1000) (hcap : l.length ≤ cap) (ht : ∀ e ∈ l, 0 ≤ e.1 ∧ e.1 ≤ 9007199254740992) (h0 : 0 ≤ tm) (h1 : tm ≤ 9007199254740992) :
    Calls Try.prog 42 #[p.val, .slice A l.length cap, .int .i64 tm] w fun e w' => ∃ v, e = .returned v ∧ Own w' w.heap.size v (rem p.period tm l) ∧ Below w.heap.size w w' := by
  have HA := Lib.hid hA
  have HT := Lib.hid ht
  clear hA ht
  unfold Pol.val
  go_enter Try.func42, Try.ntmps42
  go_wp2_with fail
  go_loopw [11] (fun i wr => ∃ k : Nat, k ≤ l.length ∧ i = .int .i64 k ∧ Hid (rem p.period tm l = rem p.period tm (l.drop k)) ∧ Hid (Below (w.alloc p.box).heap.size (w.alloc p.box) wr)) (fun i _ => l.length - (intOf i).toNat)
  case atStart => exact ⟨0, Nat.zero_le _, rfl, rfl, Below.refl _ _⟩
  case round =>
    obtain ⟨k, hk, rfl, HR, H⟩ := hrel
    have hb0 : Below w.heap.size w (w.alloc p.box) := (Below.refl _ _).alloc (Nat.le_refl _) _
    have H : Below (w.alloc p.box).heap.size (w.alloc p.box) wr := H
    have z0 : w.heap.size < wr.heap.size := by have := H.size; simp at this; omega
    by_cases hlt : k < l.length
    · obtain ⟨a, rfl, c1, c2⟩ := ((HA.out.keep hb0).keep H).at_ hlt
      have e1 : wr.cell? ⟨w.heap.size, 2, none⟩ = some (.int .i64 p.period) := by rw [H.cell (by simp)]; simp [Pol.box, go_sem]
      have t6 := HT.out _ (List.getElem_mem hlt)
      have HB := Lib.hid hb0
      clear hb0
      by_cases hh : tm - l[k].1 < p.period
      · have HH := Lib.hid hh
        have hE := ((HA.out.keep HB.out).keep H).drop k
        have hc : ∀ w1 : World, Ents w1 (some (a.add (k * 2))) (l.drop k) → _ := fun w1 h => copied_calls (some (a.add (k * 2))) (cap - k) (l.drop k) w1 h (by rw [List.length_drop]; omega)
        rw [List.length_drop] at hc
        have HE := Lib.hid hE
        have HCC := Lib.hid hc
        clear hE hc
        go_wp2_with fail
        refine (HCC.out _ (HE.out.alloc _)).mono ?_
        rintro e w2 ⟨v, rfl, ho, hb⟩
        have HO := Lib.hid ho
        have HB2 := Lib.hid hb
        clear ho hb
        go_wp2
        go_ret
        refine ⟨_, rfl, ?_, HB.out.trans (((H.alloc H.size _).mono (by simp)).trans (HB2.out.mono (by simp; omega)))⟩
        rw [show rem _ _ _ = _ from HR, rem_here hlt HH.out]
        exact HO.out.mono (by simp; omega)
      · go_wp2
        go_roundw
        case rel => exact ⟨k + 1, by omega, by go_num, (show _ = _ from HR.out.trans (rem_gone hlt (by omega))), H.alloc H.size _⟩
        case measure => simp [intOf]; omega
    · have HB := Lib.hid hb0
      clear hb0
      go_wp2
      go_ret
      exact ⟨_, rfl, by rw [show rem _ _ _ = _ from HR, rem_none hlt]; exact Own.nil _ _, HB.out.trans (H.mono (by simp))⟩

end Wn
end Go.Proofs.Ytljaemiggeeghaa
