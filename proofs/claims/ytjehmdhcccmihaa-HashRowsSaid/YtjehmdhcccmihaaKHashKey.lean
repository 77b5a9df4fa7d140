/-
  What hash.marked and hash.Key answer, in any world.
-/
import Derived.Test.YtjehmdhcccmihaaKHashStr
namespace Go.Proofs.Ytjehmdhcccmihaa
open Go.RowKit
namespace Hs

/-- a slice value reads as texts -/
def Texts (w : World) (A : Option Addr) (ps : List ByteArray) : Prop :=
  ∀ i (h : i < ps.length), ∃ a : Addr, A = some a ∧ w.cell? (a.add i) = some (.string ps[i])

theorem Texts.at_ {w : World} {A : Option Addr} {ps : List ByteArray} (h : Texts w A ps) {i : Nat} (hi : i < ps.length) : ∃ a : Addr, A = some a ∧ w.cell? (a.add i) = some (.string ps[i]) := h i hi
theorem Texts.keep {w w' : World} {A : Option Addr} {ps : List ByteArray} (h : Texts w A ps) (hb : Below w.heap.size w w') : Texts w' A ps := fun i hi => by
  obtain ⟨a, e, hc⟩ := h i hi
  exact ⟨a, e, by rw [hb.cell (World.block_lt_of_cell? w _ hc)]; exact hc⟩
theorem Texts.alloc {w : World} {A : Option Addr} {ps : List ByteArray} (h : Texts w A ps) (o : Obj) : Texts (w.alloc o) A ps := h.keep ((Below.refl _ _).alloc (Nat.le_refl _) _)
theorem Texts.nil (w : World) (A : Option Addr) : Texts w A [] := fun i hi => absurd hi (by simp)
/-- their bytes -/
def bys (ps : List ByteArray) : List (List UInt8) := ps.map fun p => p.data.toList

theorem ne92 {c : UInt8} (h : ¬ c = 92) : ((c.toNat : Int) == 92) = false := by
  rw [beq_eq_false_iff_ne]; intro e
  have e2 : c.toNat = (92 : UInt8).toNat := by show c.toNat = 92; omega
  exact h (UInt8.toNat_inj.1 e2)
theorem ne58 {c : UInt8} (h : ¬ c = 58) : ((c.toNat : Int) == 58) = false := by
  rw [beq_eq_false_iff_ne]; intro e
  have e2 : c.toNat = (58 : UInt8).toNat := by show c.toNat = 58; omega
  exact h (UInt8.toNat_inj.1 e2)

theorem mk_calls (c : UInt8) (w : World) : Calls Try.prog 20 #[.int .u8 (c.toNat : Int)] w fun e w' => e = .returned (.bool (mk c)) ∧ w = w' := by
  by_cases h1 : c = 92
  · subst h1
    go_enter Try.func20, Try.ntmps20
    go_wp2
    go_ret
    exact ⟨rfl, rfl⟩
  · by_cases h2 : c = 58
    · subst h2
      go_enter Try.func20, Try.ntmps20
      go_wp2
      go_ret
      exact ⟨rfl, rfl⟩
    · have t1 := ne92 h1
      have t2 := ne58 h2
      have E := Lib.hid (show mk c = false by unfold mk; simp [h1, h2])
      clear h1 h2
      go_enter Try.func20, Try.ntmps20
      go_wp2
      go_ret
      exact ⟨by rw [E.out]; rfl, rfl⟩
theorem mk_yes {c : UInt8} (h : mk c = true) (w : World) : Calls Try.prog 20 #[.int .u8 (c.toNat : Int)] w fun e w' => e = .returned (.bool true) ∧ w = w' := by
  have := mk_calls c w; rw [h] at this; exact this
theorem mk_no {c : UInt8} (h : mk c = false) (w : World) : Calls Try.prog 20 #[.int .u8 (c.toNat : Int)] w fun e w' => e = .returned (.bool false) ∧ w = w' := by
  have := mk_calls c w; rw [h] at this; exact this

/-- what Key has written: k parts, and j bytes of the next one -/
def acc (ps : List ByteArray) (k j : Nat) : List UInt8 := key (bys (ps.take k)) ++ esc (((bys ps).getD k []).take j)
theorem bys_at (ps : List ByteArray) (k : Nat) (h : k < ps.length) : (bys ps).getD k [] = ps[k].data.toList := by simp [bys, h]
theorem acc_len (ps : List ByteArray) (k j : Nat) : (acc ps k j).length ≤ 2 * long (bys ps) := by
  unfold acc
  have e1 := key_len (bys (ps.take k))
  have e2 := esc_len (((bys ps).getD k []).take j)
  have e4 : (((bys ps).getD k []).take j).length ≤ ((bys ps).getD k []).length := by simp; omega
  have e5 : bys (ps.take k) = (bys ps).take k := by simp [bys, List.map_take]
  rw [e5] at e1
  rw [e5]
  generalize bys ps = l at *
  have e3 : long (l.take k) + (l.getD k []).length ≤ long l := by
    by_cases h : k < l.length
    · have : l = l.take k ++ l[k] :: l.drop (k + 1) := by rw [List.getElem_cons_drop h, List.take_append_drop]
      have e6 : long l = long (l.take k) + long (l[k] :: l.drop (k + 1)) := by conv => lhs; rw [this, long_append]
      have e7 : l.getD k [] = l[k] := by simp [h]
      have e8 : long (l[k] :: l.drop (k + 1)) = 1 + l[k].length + long (l.drop (k + 1)) := by simp only [long, List.map_cons, List.sum_cons]
      rw [e6, e7, e8]; omega
    · have : l.getD k [] = [] := by rw [List.getD_eq_getElem?_getD, List.getElem?_eq_none (by omega)]; rfl
      rw [this, List.take_of_length_le (by omega)]; simp
  simp only [List.length_append]
  omega
theorem acc_start (ps : List ByteArray) : acc ps 0 0 = [] := by simp [acc, bys, key, esc]
theorem acc_next (ps : List ByteArray) (k : Nat) (h : k < ps.length) : acc ps k ps[k].size ++ [58] = acc ps (k + 1) 0 := by
  unfold acc
  rw [bys_at ps k h, take_all ps[k] ps[k].size (by omega), List.take_zero, esc_nil, List.append_nil]
  have : ps.take (k + 1) = ps.take k ++ [ps[k]] := List.take_succ_eq_append_getElem h
  rw [this]
  simp only [bys, List.map_append, List.map_cons, List.map_nil]
  rw [key_snoc]
theorem acc_byte (ps : List ByteArray) (k j : Nat) (h : k < ps.length) (hj : j < ps[k].size) : acc ps k j ++ keyB ps[k][j] = acc ps k (j + 1) := by
  unfold acc
  rw [bys_at ps k h, take_one _ _ hj, esc_snoc, List.append_assoc]
theorem acc_end (ps : List ByteArray) (k : Nat) (h : ¬ k < ps.length) : acc ps k 0 = key (bys ps) := by
  unfold acc
  rw [List.take_of_length_le (by omega), List.take_zero, esc_nil, List.append_nil]
theorem long_ge (ps : List ByteArray) : ps.length ≤ long (bys ps) := by
  induction ps with
  | nil => simp
  | cons p ps ih =>
    have : long (bys (p :: ps)) = 1 + p.data.toList.length + long (bys ps) := by simp only [long, bys, List.map_cons, List.sum_cons]
    rw [this, List.length_cons]; omega
theorem cells_len (ps : List ByteArray) (k j : Nat) (hl : long (bys ps) ≤ 1099511627776) : (Lib.byteCells (acc ps k j)).length ≤ 2199023255552 := by
  have := acc_len ps k j
  rw [Lib.byteCells_length]; omega
theorem cells_snoc (l : List UInt8) (c : UInt8) : Lib.byteCells l ++ [.int .u8 (c.toNat : Int)] = Lib.byteCells (l ++ [c]) := by simp [Lib.byteCells]

set_option maxHeartbeats 1000000 in
theorem key_calls (A : Option Addr) (cap : Nat) (ps : List ByteArray) (w : World) (hA : Texts w A ps) (hs : ∀ p ∈ ps, p.size ≤ maxLen) (hl : long (bys ps) ≤ 1099511627776) :
    Calls Try.prog 14 #[.slice A ps.length cap] w fun e w' => e = .returned (.string ⟨(key (bys ps)).toArray⟩) ∧ Below w.heap.size w w' := by
  have hn := long_ge ps
  go_enter Try.func14, Try.ntmps14
  go_wp2
  go_loopw [9] (fun i wr => ∃ k : Nat, k ≤ ps.length ∧ i = .int .i64 k ∧ Lib.IsBuilder 43 5 w.heap.size w.heap.size (Lib.byteCells (acc ps k 0)) wr ∧ Below w.heap.size w wr) (fun i _ => ps.length - (intOf i).toNat)
  case atStart => exact ⟨0, Nat.zero_le _, rfl, by rw [acc_start]; exact Lib.fresh_isBuilder _ _ w, (Below.refl _ _).alloc (Nat.le_refl _) _⟩
  case round =>
    obtain ⟨k, hk, rfl, hI, hb⟩ := hrel
    by_cases hlt : k < ps.length
    · obtain ⟨a, rfl, hc0⟩ := hA.at_ hlt
      have hc : wr.cell? (a.add k) = some (.string ps[k]) := by rw [hb.cell (World.block_lt_of_cell? w _ hc0)]; exact hc0
      clear hc0
      have hz := hs ps[k] (List.getElem_mem hlt)
      unfold maxLen at hz
      have hb0 := Lib.hid hb
      clear hA hs hb
      go_wp2
      clear hc
      go_loopw [15] (fun i wr => ∃ j : Nat, j ≤ ps[k].size ∧ i = .int .i64 j ∧ Lib.IsBuilder 43 5 w.heap.size w.heap.size (Lib.byteCells (acc ps k j)) wr ∧ Below w.heap.size w wr) (fun i _ => ps[k].size - (intOf i).toNat)
      case atStart => exact ⟨0, Nat.zero_le _, rfl, hI, hb0.out⟩
      case round =>
        clear hI hb0
        obtain ⟨j, hj, rfl, hI, hb⟩ := hrel
        have hcl := cells_len ps k j hl
        by_cases hjl : j < ps[k].size
        · cases hm : mk ps[k][j] with
          | true =>
            have HM := Lib.hid hm
            have E := Lib.hid (acc_byte ps k j hlt hjl)
            clear hm
            go_wp2_with fail
            refine (mk_yes HM.out _).mono ?_
            rintro e w1 ⟨rfl, rfl⟩
            go_wp2_with fail
            refine (write_calls w.heap.size w.heap.size _ 92 _ hI (by omega) hb.size).mono ?_
            rintro e w2 ⟨rfl, hI2, hb2⟩
            go_wp2_with fail
            refine (write_calls w.heap.size w.heap.size _ (ps[k][j].toNat : Int) _ hI2 (by simp; omega) (hb.trans hb2).size).mono ?_
            rintro e w3 ⟨rfl, hI3, hb3⟩
            go_wp2
            go_roundw
            case rel =>
              refine ⟨j + 1, by omega, by go_num, ?_, (hb.trans hb2).trans hb3⟩
              have e1 := E.out
              unfold keyB at e1
              rw [if_pos HM.out] at e1
              rw [← e1]
              have e2 : Lib.byteCells (acc ps k j ++ [92, ps[k][j]]) = Lib.byteCells (acc ps k j) ++ [.int .u8 92] ++ [.int .u8 (ps[k][j].toNat : Int)] := by simp [Lib.byteCells]
              rw [e2]; exact hI3
            case measure => simp [intOf]; omega
          | false =>
            have HM := Lib.hid hm
            have E := Lib.hid (acc_byte ps k j hlt hjl)
            clear hm
            go_wp2_with fail
            refine (mk_no HM.out _).mono ?_
            rintro e w1 ⟨rfl, rfl⟩
            go_wp2_with fail
            refine (write_calls w.heap.size w.heap.size _ (ps[k][j].toNat : Int) _ hI (by omega) hb.size).mono ?_
            rintro e w3 ⟨rfl, hI3, hb3⟩
            go_wp2
            go_roundw
            case rel =>
              refine ⟨j + 1, by omega, by go_num, ?_, hb.trans hb3⟩
              have e1 := E.out
              unfold keyB at e1
              rw [if_neg (by rw [HM.out]; decide)] at e1
              rw [← e1, ← cells_snoc]; exact hI3
            case measure => simp [intOf]; omega
        · have hje : j = ps[k].size := by omega
          have HJ := Lib.hid hje
          clear hje
          go_wp2_with fail
          refine (write_calls w.heap.size w.heap.size _ 58 _ hI (by omega) hb.size).mono ?_
          rintro e w3 ⟨rfl, hI3, hb3⟩
          go_wp2
          go_roundw
          case rel =>
            refine ⟨k + 1, by omega, by go_num, ?_, hb.trans hb3⟩
            rw [← acc_next ps k hlt, ← cells_snoc]
            rw [HJ.out] at hI3
            exact hI3
          case measure => simp [intOf]; omega
    · go_wp2_with fail
      refine (string_calls w.heap.size w.heap.size _ _ hI hb.size).mono ?_
      rintro e w3 ⟨rfl, hb3⟩
      go_wp2
      go_ret
      exact ⟨by rw [acc_end ps k hlt]; rfl, hb.trans hb3⟩

end Hs
end Go.Proofs.Ytjehmdhcccmihaa
