/-
  The walk of RespFeeds.
-/
import Derived.Test.YtgjedhdnnfdcgaaRspCut
namespace Go.Proofs.Ytgjedhdnnfdcgaa.Rp
open Go.RowKit
open Gw

/-- rows of bytes among the arguments -/
def BRows (S : Nat → Prop) (w : World) (A : Option Addr) (rows : List Bytes) : Prop := ∀ i (h : i < rows.length), ∃ a : Addr, A = some a ∧ S a.block ∧ ∃ B c, w.cell? (a.add i) = some (.slice B rows[i].length c) ∧ BS S w B c rows[i]
theorem BRows.at_ {S : Nat → Prop} {w : World} {A : Option Addr} {rows : List Bytes} (h : BRows S w A rows) {i : Nat} (hi : i < rows.length) : ∃ a : Addr, A = some a ∧ S a.block ∧ ∃ B c, w.cell? (a.add i) = some (.slice B rows[i].length c) ∧ BS S w B c rows[i] := h i hi
theorem BRows.goes {S T : Nat → Prop} {w w' : World} {A : Option Addr} {rows : List Bytes} (h : BRows S w A rows) (k : Stands S T w w') : BRows T w' A rows := fun i hi => by
  obtain ⟨a, e, hs, B, c, hc, hb⟩ := h i hi
  exact ⟨a, e, (k _ hs).2, B, c, by rw [k.cell (by rw [add_blk]; exact hs)]; exact hc, hb.goes k⟩
theorem BRows.take {S : Nat → Prop} {w : World} {A : Option Addr} {rows : List Bytes} (h : BRows S w A rows) (n : Nat) : BRows S w A (rows.take n) := fun i hi => by
  rw [List.length_take] at hi
  obtain ⟨a, e, hs, B, c, h1, h2⟩ := h i (by omega)
  exact ⟨a, e, hs, B, c, by rw [List.getElem_take]; exact h1, by rw [List.getElem_take]; exact h2⟩
theorem lt_stands {w w' : World} (hb : Below w.heap.size w w') : Stands (fun x => x < w.heap.size) (fun x => x < w'.heap.size) w w' := fun x hx => ⟨hb.block x hx, Nat.lt_of_lt_of_le hx hb.size⟩
theorem flat_take {rows : List Bytes} {k : Nat} (h : k < rows.length) : (rows.take (k + 1)).flatten = (rows.take k).flatten ++ rows[k] := by
  rw [List.take_succ_eq_append_getElem h, List.flatten_append]
  congr 1
  exact List.append_nil _
theorem flat_le (rows : List Bytes) (k : Nat) : (rows.take k).flatten.length ≤ rows.flatten.length := by
  have : rows.flatten = (rows.take k).flatten ++ (rows.drop k).flatten := by rw [← List.flatten_append, List.take_append_drop]
  rw [this, List.length_append]; omega

set_option maxHeartbeats 1000000 in
theorem join_calls (A : Option Addr) (cap n : Nat) (rows : List Bytes) (w : World) (hA : BRows (fun x => x < w.heap.size) w A rows) (hn : n = rows.length) (hl : rows.length ≤ 1048576) (hf : rows.flatten.length ≤ 1048576) :
    Calls Try.prog 13 #[.slice A n cap] w fun e w' => ∃ v, e = .returned v ∧ BRow w' w.heap.size v rows.flatten ∧ Below w.heap.size w w' := by
  have HA := Lib.hid hA
  have HN := Lib.hid hn
  have hnl : n ≤ 1048576 := by omega
  have HF := Lib.hid hf
  clear hA hf
  go_enter Try.func13, Try.ntmps13
  go_wp2_with fail
  go_loopw [3, 4] (fun v i wr => ∃ k : Nat, k ≤ n ∧ i = .int .i64 (k : Nat) ∧ Hid (BRow wr w.heap.size v (rows.take k).flatten ∧ Below w.heap.size w wr)) (fun _ i _ => n - (intOf i).toNat)
  case atStart => exact ⟨0, Nat.zero_le _, rfl, Lib.hid ⟨BRow.nil _ _, Below.refl _ _⟩⟩
  case round =>
    obtain ⟨k, hk, rfl, H⟩ := hrel
    obtain ⟨V, n0, vc, rfl, hn0⟩ := BRow.form H.out.1
    clear hn0
    by_cases hlt : k < n
    · have hlt2 : k < rows.length := by omega
      obtain ⟨a, rfl, -, X, xc, c0, hx⟩ := (HA.out.goes (lt_stands H.out.2)).at_ hlt2
      have E := Lib.hid (flat_take hlt2)
      have hel : (rows.take k).flatten.length + (rows[k]).length ≤ 67108864 := by
        have h2 := flat_le rows (k + 1)
        rw [E.out, List.length_append] at h2
        have := HF.out
        omega
      generalize rows[k] = x at c0 hx E hel
      have HX := Lib.hid hx
      have HEL := Lib.hid hel
      obtain ⟨xn, hxn⟩ : ∃ xn, xn = x.length := ⟨_, rfl⟩
      rw [← hxn] at c0
      have HXN := Lib.hid hxn
      have i1 : (k : Int) < (n : Int) := by omega
      clear hx hel hxn hn hl hlt2
      go_wp2_with (at_builtin; refine wpList_append_bts rfl _ _ rfl w.heap.size _ _ rfl H.out.1 X xc _ x rfl HX.out.bts HXN.out HX.out.nil HEL.out ?c2 ?_)
      case c2 => exact H.out.2.size
      intro v' w4 ho hg
      have HB4 := Lib.hid (BRow.grown H.out.1 hg H.out.2 H.out.2.size)
      have HO4 := Lib.hid ho
      clear ho hg
      go_wp2_with fail
      go_roundw
      case rel => exact ⟨k + 1, by omega, by go_num, Lib.hid ⟨by rw [E.out]; exact HO4.out, HB4.out⟩⟩
      case measure => simp [intOf]; omega
    · have hke : rows.take k = rows := List.take_of_length_le (by omega)
      have i1 : ¬ (k : Int) < (n : Int) := by omega
      have HO := H.out.1
      rw [hke] at HO
      have HOO := Lib.hid HO
      clear hke HO hn hlt
      go_wp2_with fail
      go_ret
      exact ⟨_, rfl, HOO.out, H.out.2⟩
end Go.Proofs.Ytgjedhdnnfdcgaa.Rp
