/-
  What the document's own Long, Same and Key answer, in any world.
-/
import Derived.Test.YtlgfdgljagmbaaaHashKnown
import Derived.Laws.IdiomStrings
import Derived.Deep.Draws
import Derived.Deep.QuietTactic
import Derived.BigQuiet
namespace Go.Proofs.Ytlgfdgljagmbaaa
open Go.RowKit
namespace Hs

theorem long_take (ps : List ByteArray) (k : Nat) (h : k < ps.length) : long (bys (ps.take (k + 1))) = long (bys (ps.take k)) + (1 + ps[k].size) := by
  rw [show ps.take (k + 1) = ps.take k ++ [ps[k]] from List.take_succ_eq_append_getElem h]
  simp only [bys, List.map_append, List.map_cons, List.map_nil]
  rw [long_snoc]
  rfl
theorem long_take_le (ps : List ByteArray) (k : Nat) : long (bys (ps.take k)) ≤ long (bys ps) := by
  have : bys ps = bys (ps.take k) ++ bys (ps.drop k) := by simp only [bys, ← List.map_append, List.take_append_drop]
  rw [this, long_append]; omega

set_option maxHeartbeats 400000 in
theorem long_calls (A : Option Addr) (cap : Nat) (ps : List ByteArray) (w : World) (hA : Texts w A ps) (hl : long (bys ps) ≤ 4611686018427387904) :
    Calls Try.prog 13 #[.slice A ps.length cap] w fun e w' => e = .returned (.int .i64 (long (bys ps) : Nat)) ∧ w = w' := by
  have hn := long_ge ps
  go_enter Try.func13, Try.ntmps13
  go_wp2
  go_loop [3, 4] (fun n i => ∃ (k m : Nat), k ≤ ps.length ∧ i = .int .i64 k ∧ n = .int .i64 m ∧ m ≤ 4611686018427387904 ∧ Hid (m = long (bys (ps.take k)))) (fun _ i => ps.length - (intOf i).toNat)
  case atStart => exact ⟨0, 0, Nat.zero_le _, rfl, rfl, by omega, by simp [Hid, bys, long]⟩
  case round =>
    obtain ⟨k, m, hk, rfl, rfl, hm, H⟩ := hrel
    by_cases hlt : k < ps.length
    · obtain ⟨a, rfl, hc⟩ := hA.at_ hlt
      have e1 := Lib.hid (long_take ps k hlt)
      have e2 := long_take_le ps (k + 1)
      have e3 : m + 1 + ps[k].size ≤ 4611686018427387904 := by have := e1.out; have h2 : m = _ := H; omega
      clear hA e2
      go_wp2
      go_round
      case rel => exact ⟨k + 1, m + 1 + ps[k].size, by omega, by go_num, by go_num, by omega, by have h2 : m = _ := H; show _ = _; rw [e1.out, ← h2]; omega⟩
      case measure => simp [intOf]; omega
    · go_wp2
      go_ret
      exact ⟨ret_int (by rw [show m = _ from H, List.take_of_length_le (by omega)]), rfl⟩

/-- the same texts -/
def sameB (ps qs : List ByteArray) : Bool := decide (bys ps = bys qs)

theorem same_len (ps qs : List ByteArray) (h : ps.length ≠ qs.length) : sameB ps qs = false := by
  unfold sameB
  rw [decide_eq_false_iff_not]
  intro e
  have := congrArg List.length e
  simp [bys] at this
  exact h this

theorem same_step (ps qs : List ByteArray) (k : Nat) (h1 : k < ps.length) (h2 : k < qs.length) (h : bys (ps.take k) = bys (qs.take k)) (hx : ps[k].data.toList = qs[k].data.toList) : bys (ps.take (k + 1)) = bys (qs.take (k + 1)) := by
  rw [show ps.take (k + 1) = ps.take k ++ [ps[k]] from List.take_succ_eq_append_getElem h1, show qs.take (k + 1) = qs.take k ++ [qs[k]] from List.take_succ_eq_append_getElem h2]
  unfold bys at h ⊢
  rw [List.map_append, List.map_append, h]
  simp [hx]
theorem same_not (ps qs : List ByteArray) (k : Nat) (h1 : k < ps.length) (h2 : k < qs.length) (hx : ¬ ps[k].data.toList = qs[k].data.toList) : sameB ps qs = false := by
  unfold sameB
  rw [decide_eq_false_iff_not]
  intro e
  have := congrArg (fun l => l[k]?) e
  simp [bys, h1, h2] at this
  exact hx (by rw [this])
theorem same_all (ps qs : List ByteArray) (k : Nat) (h1 : ¬ k < ps.length) (hn : ps.length = qs.length) (h : bys (ps.take k) = bys (qs.take k)) : sameB ps qs = true := by
  rw [List.take_of_length_le (by omega), List.take_of_length_le (by omega)] at h
  unfold sameB
  rw [h]; simp
theorem below_drewN {B : Nat} {a w : World} (h : Below B a w) (n : Nat) : Below B a (w.drewN n) := ⟨h.os, h.tape, h.output, h.size, h.block⟩

set_option maxHeartbeats 400000 in
theorem same_calls (A C : Option Addr) (cap cap2 : Nat) (ps qs : List ByteArray) (w : World) (hA : Texts w A ps) (hC : Texts w C qs) (hp : ps.length ≤ maxLen) :
    Calls Try.prog 18 #[.slice A ps.length cap, .slice C qs.length cap2] w fun e w' => e = .returned (.bool (sameB ps qs)) ∧ Below w.heap.size w w' := by
  unfold maxLen at hp
  by_cases hne : ps.length = qs.length
  · go_enter Try.func18, Try.ntmps18
    go_wp2
    go_loopw [5] (fun i wr => ∃ (k n : Nat), k ≤ ps.length ∧ i = .int .i64 k ∧ wr = w.drewN n ∧ Hid (bys (ps.take k) = bys (qs.take k))) (fun i _ => ps.length - (intOf i).toNat)
    case atStart => exact ⟨0, 0, Nat.zero_le _, rfl, rfl, by simp [Hid, bys]⟩
    case round =>
      obtain ⟨k, n, hk, rfl, rfl, H⟩ := hrel
      by_cases hlt : k < ps.length
      · obtain ⟨a, rfl, hc⟩ := hA.at_ hlt
        obtain ⟨a2, rfl, hc2⟩ := hC.at_ (show k < qs.length by omega)
        have i1 : (k : Int) < (ps.length : Int) := by omega
        have i2 : (k : Int) < (qs.length : Int) := by omega
        have i3 : k < qs.length := by omega
        by_cases hx : ps[k].data.toList = qs[k].data.toList
        · have hq1 : (ps[k].toList == qs[k].toList) = true := by rw [ByteArray.toList_eq, ByteArray.toList_eq, hx]; simp
          have HX := Lib.hid hx
          clear hx
          go_wp2
          go_quiet (fail)
          go_wp2
          go_roundw
          case rel => exact ⟨k + 1, n + nq, by omega, by go_num, rfl, same_step ps qs k hlt i3 H HX.out⟩
          case measure => simp [intOf]; omega
        · have hq1 : (ps[k].toList == qs[k].toList) = false := by rw [ByteArray.toList_eq, ByteArray.toList_eq]; simpa using hx
          have HX := Lib.hid hx
          clear hx
          go_wp2
          go_quiet (fail)
          go_wp2
          go_ret
          exact ⟨by rw [same_not ps qs k hlt i3 HX.out]; rfl, below_drewN (below_drewN (Below.refl _ _) _) _⟩
      · have HN := Lib.hid hne
        have hlt2 : decide (k < qs.length) = false := by simp; omega
        go_wp2
        go_ret
        exact ⟨by rw [same_all ps qs k hlt HN.out H]; rfl, below_drewN (Below.refl _ _) _⟩
  · have hnb : ((ps.length : Int) != (qs.length : Int)) = true := by simp; omega
    have HN := Lib.hid hne
    clear hne
    go_enter Try.func18, Try.ntmps18
    go_wp2
    go_ret
    exact ⟨by rw [same_len ps qs HN.out]; rfl, Below.refl _ _⟩

theorem one_at (w : World) (b : Nat) (c : UInt8) (h : w.heap[b]? = some (.cells #[Value.int IntKind.u8 (c.toNat : Int)] 5 (0, 0))) :
    (convert 35 9 (.slice (some ⟨b, 0, none⟩) 1 1)).run Try.prog w = .ok (.string ⟨#[c]⟩) w := by
  refine run_convert_bytes_back _ 35 9 5 ⟨b, 0, none⟩ 1 [c] Try.underlying35 Try.underlying5 Try.underlying9 fun j hj => ?_
  obtain rfl : j = 0 := by simpa using hj
  rw [Addr.add_lit, cell_of_row _ _ _ _ _ _ h]
  rfl
theorem one_92 (w : World) (b : Nat) (h : w.heap[b]? = some (.cells #[Value.int IntKind.u8 92] 5 (0, 0))) :
    (convert 35 9 (.slice (some ⟨b, 0, none⟩) 1 1)).run Try.prog w = .ok (.string ⟨#[92]⟩) w := one_at w b 92 h
theorem str_cat {l x y : List UInt8} (h : x ++ y = l) : Value.string (ByteArray.mk x.toArray ++ ByteArray.mk y.toArray) = .string ⟨l.toArray⟩ := by
  rw [ByteArray.mk_append_mk, h]
theorem keyB_yes {c : UInt8} (h : mk c = true) : keyB c = [92, c] := if_pos h
theorem keyB_no {c : UInt8} (h : mk c = false) : keyB c = [c] := if_neg (by rw [h]; decide)

set_option maxHeartbeats 1000000 in
theorem refkey_calls (A : Option Addr) (cap : Nat) (ps : List ByteArray) (w : World) (hA : Texts w A ps) (hs : ∀ p ∈ ps, p.size ≤ maxLen) (hl : long (bys ps) ≤ 1099511627776) :
    Calls Try.prog 17 #[.slice A ps.length cap] w fun e w' => e = .returned (.string ⟨(key (bys ps)).toArray⟩) ∧ Below w.heap.size w w' := by
  have hn := long_ge ps
  go_enter Try.func17, Try.ntmps17
  go_wp2
  go_loopw [3, 4] (fun x i wr => ∃ k : Nat, k ≤ ps.length ∧ i = .int .i64 k ∧ x = .string ⟨(acc ps k 0).toArray⟩ ∧ Below w.heap.size w wr) (fun _ i _ => ps.length - (intOf i).toNat)
  case atStart => exact ⟨0, Nat.zero_le _, rfl, by rw [acc_start], Below.refl _ _⟩
  case round =>
    obtain ⟨k, hk, rfl, rfl, hb⟩ := hrel
    by_cases hlt : k < ps.length
    · obtain ⟨a, rfl, hc0⟩ := hA.at_ hlt
      have hz := hs ps[k] (List.getElem_mem hlt)
      unfold maxLen at hz
      have HA := Lib.hid hc0
      have hb0 := Lib.hid hb
      clear hA hs hb hc0
      go_wp2
      go_loopw [3, 5] (fun x i wr => ∃ j : Nat, j ≤ ps[k].size ∧ i = .int .i64 j ∧ x = .string ⟨(acc ps k j).toArray⟩ ∧ Below w.heap.size w wr) (fun _ i _ => ps[k].size - (intOf i).toNat)
      case atStart => exact ⟨0, Nat.zero_le _, rfl, rfl, hb0.out⟩
      case round =>
        clear hb0
        obtain ⟨j, hj, rfl, rfl, hb⟩ := hrel
        have hc : wr.cell? (a.add k) = some (.string ps[k]) := by rw [hb.cell (World.block_lt_of_cell? w _ HA.out)]; exact HA.out
        have hcl := acc_len ps k j
        by_cases hjl : j < ps[k].size
        · have E := Lib.hid (acc_byte ps k j hlt hjl)
          by_cases h92 : ps[k][j] = 92
          · have t1 : ((ps[k][j].toNat : Int) == 92) = true := by rw [h92]; rfl
            have H92 := Lib.hid h92
            clear h92
            have HM := Lib.hid (show mk ps[k][j] = true by rw [H92.out]; decide)
            go_wp2_with fail
            rw [one_92 _ _ (heap_alloc_new _ _)]
            go_wp2_with fail
            rw [one_at _ _ ps[k][j] (heap_alloc2_new _ _ _)]
            go_wp2
            go_roundw
            case rel => exact ⟨j + 1, by omega, by go_num, (by rw [← E.out, keyB_yes HM.out]; rw [str_cat rfl]; exact str_cat (y := [ps[k][j]]) (by simp)), (hb.alloc hb.size _).alloc (by have := hb.size; simp; omega) _⟩
            case measure => simp [intOf]; omega
          · by_cases h58 : ps[k][j] = 58
            · have t1 := ne92 h92
              have t2 : ((ps[k][j].toNat : Int) == 58) = true := by rw [h58]; rfl
              have HM := Lib.hid (show mk ps[k][j] = true by rw [h58]; decide)
              clear h92 h58
              go_wp2_with fail
              rw [one_92 _ _ (heap_alloc_new _ _)]
              go_wp2_with fail
              rw [one_at _ _ ps[k][j] (heap_alloc2_new _ _ _)]
              go_wp2
              go_roundw
              case rel => exact ⟨j + 1, by omega, by go_num, (by rw [← E.out, keyB_yes HM.out]; rw [str_cat rfl]; exact str_cat (y := [ps[k][j]]) (by simp)), (hb.alloc hb.size _).alloc (by have := hb.size; simp; omega) _⟩
              case measure => simp [intOf]; omega
            · have t1 := ne92 h92
              have t2 := ne58 h58
              have HM := Lib.hid (show mk ps[k][j] = false by unfold mk; simp [h92, h58])
              clear h92 h58
              go_wp2_with fail
              rw [one_at _ _ ps[k][j] (heap_alloc_new _ _)]
              go_wp2
              go_roundw
              case rel => exact ⟨j + 1, by omega, by go_num, (by rw [← E.out, keyB_no HM.out]; exact str_cat (y := [ps[k][j]]) rfl), hb.alloc hb.size _⟩
              case measure => simp [intOf]; omega
        · have hje : j = ps[k].size := by omega
          have HJ := Lib.hid hje
          clear hje
          go_wp2
          go_roundw
          case rel => exact ⟨k + 1, by omega, by go_num, (by rw [← acc_next ps k hlt, ← HJ.out]; exact str_cat (y := [58]) rfl), hb⟩
          case measure => simp [intOf]; omega
    · go_wp2
      go_ret
      exact ⟨by rw [acc_end ps k hlt]; rfl, hb⟩

end Hs
end Go.Proofs.Ytlgfdgljagmbaaa
