/-
  What the document's own New, Peek, Next and Keys answer, in any world.
-/
import Derived.Test.YtdnaecmihgcelaaTabRfA
namespace Go.Proofs.Ytdnaecmihgcelaa.Tb
open Go.RowKit
namespace Pr

theorem rnew_calls (room : Int) (hr : -9223372036854775808 ≤ room ∧ room < 9223372036854775808) (w : World) :
    Calls Try.prog 12 #[.int .i64 room] w fun e w' => e = .returned (tv (clipR room) none 0 0) ∧ Below w.heap.size w w' := by
  by_cases h1 : room ≤ 0
  · have E := Lib.hid (show ((clipR room : Nat) : Int) = 0 by unfold clipR; omega)
    have t1 : room < 10000 := by omega
    have t2 : ¬ (0 : Int) < room := by omega
    go_enter Try.func12, Try.ntmps12
    go_wp2_with fail
    refine ret_t1 Try.results12 rfl rfl (heap_alloc_new w _) ⟨?_, (Below.refl _ _).alloc (Nat.le_refl _) _⟩
    unfold tv; rw [E.out]
  · by_cases h2 : 10000 < room
    · have E := Lib.hid (show ((clipR room : Nat) : Int) = 10000 by unfold clipR; omega)
      have t1 : ¬ room < 10000 := by omega
      go_enter Try.func12, Try.ntmps12
      go_wp2_with fail
      refine ret_t1 Try.results12 rfl rfl (heap_alloc_new w _) ⟨?_, (Below.refl _ _).alloc (Nat.le_refl _) _⟩
      unfold tv; rw [E.out]
    · have E := Lib.hid (show ((clipR room : Nat) : Int) = room by unfold clipR; omega)
      have t2 : (0 : Int) < room := by omega
      go_enter Try.func12, Try.ntmps12
      go_wp2_with fail
      refine ret_t1 Try.results12 rfl rfl (heap_alloc_new w _) ⟨?_, (Below.refl _ _).alloc (Nat.le_refl _) _⟩
      unfold tv; rw [E.out]

/-- none of those looked at so far -/
def Past (l : PL) (key : ByteArray) (k : Nat) : Prop := ∀ e ∈ l.take k, ¬ e.1 = key
theorem Past.zero (l : PL) (key : ByteArray) : Past l key 0 := fun e he => by simp at he
theorem Past.succ {l : PL} {key : ByteArray} {k : Nat} (h : Past l key k) (hk : k < l.length) (hx : ¬ l[k].1 = key) : Past l key (k + 1) := fun e he => by
  rw [List.take_succ_eq_append_getElem hk] at he
  rcases List.mem_append.1 he with he | he
  · exact h e he
  · simp only [List.mem_singleton] at he; subst he; exact hx
theorem Past.split {l : PL} {key : ByteArray} {k : Nat} (hk : k < l.length) (hx : l[k].1 = key) : l = l.take k ++ (key, l[k].2) :: l.drop (k + 1) := by
  conv => lhs; rw [← List.take_append_drop k l]
  rw [List.drop_eq_getElem_cons hk, ← hx]
theorem Past.none {l : PL} {key : ByteArray} {k : Nat} (h : Past l key k) (hk : l.length ≤ k) : has l key = false := by
  rw [has_false]
  intro e he
  exact h e (by rw [List.take_of_length_le hk]; exact he)
theorem Past.found {l : PL} {key : ByteArray} {k : Nat} (h : Past l key k) (hk : k < l.length) (hx : l[k].1 = key) : has l key = true ∧ getv l key = l[k].2 := by
  have hs := Past.split hk hx
  have h1 := getv_split (key := key) (v := l[k].2) (b := l.drop (k + 1)) h
  have h2 : has (l.take k ++ (key, l[k].2) :: l.drop (k + 1)) key = true := has_split
  rw [← hs] at h1 h2
  exact ⟨h2, h1⟩
theorem Past.next {l : PL} {key : ByteArray} {k : Nat} (h : Past l key k) (hk : k + 1 < l.length) (hx : l[k].1 = key) : nxt l key = (l[k + 1].1, true) := by
  have hs := Past.split (by omega) hx
  have h1 := nxt_split (key := key) (v := (l[k]'(by omega)).2) (b := l.drop (k + 1)) h
  rw [← hs, List.drop_eq_getElem_cons hk] at h1
  exact h1
theorem Past.last {l : PL} {key : ByteArray} {k : Nat} (h : Past l key k) (hk : l.length ≤ k + 1) : nxt l key = (⟨#[]⟩, false) := by
  by_cases h1 : k < l.length
  · by_cases hx : l[k].1 = key
    · have hs := Past.split h1 hx
      have h2 := nxt_split (key := key) (v := l[k].2) (b := l.drop (k + 1)) h
      rw [← hs, List.drop_eq_nil_of_le hk] at h2
      exact h2
    · exact nxt_none ((h.succ h1 hx).none hk)
  · exact nxt_none (h.none (by omega))

set_option maxHeartbeats 1000000 in
theorem rpeek_calls (room : Nat) (l : PL) (A : Option Addr) (n cap : Nat) (key : ByteArray) (w : World) (hn : n = l.length) (hA : PR w A l) (hl : l.length ≤ 10000) :
    Calls Try.prog 16 #[tv room A n cap, .string key] w fun e w' => e = .returned (.tuple #[.int .i64 (getv l key), .bool (has l key)]) ∧ Below w.heap.size w w' := by
  subst hn
  have HB : Hid (Below w.heap.size w (w.alloc (tbox room A l.length cap))) := Lib.hid ((Below.refl _ _).alloc (Nat.le_refl _) _)
  have HA := Lib.hid (hA.alloc (tbox room A l.length cap))
  clear hA
  go_enter Try.func16, Try.ntmps16
  go_wp2_with fail
  go_loopw [6] (fun i wr => ∃ k : Nat, k ≤ l.length ∧ i = .int .i64 (k : Nat) ∧ wr = w.alloc (tbox room A l.length cap) ∧ Hid (Past l key k)) (fun i _ => l.length - (intOf i).toNat)
  case atStart => exact ⟨0, Nat.zero_le _, rfl, rfl, Past.zero _ _⟩
  case round =>
    obtain ⟨k, hk, rfl, rfl, HP⟩ := hrel
    by_cases hlt : k < l.length
    · obtain ⟨a, rfl, c1, c2⟩ := HA.out.1.at_ hlt
      by_cases hx : l[k].1 = key
      · have tq := str_eq hx
        have F := Past.found HP hlt hx
        have E1 := Lib.hid F.1
        have E2 := Lib.hid F.2
        clear hx F
        go_wp2_with fail
        go_ret2
        exact ⟨by rw [E1.out, E2.out]; rfl, HB.out⟩
      · have tq := str_ne hx
        have HP2 := Lib.hid (Past.succ HP hlt hx)
        clear hx
        go_wp2_with fail
        go_roundw
        case rel => exact ⟨k + 1, by omega, by go_num, by first | rfl | trivial, HP2.out⟩
        case measure => simp [intOf]; omega
    · have E1 := Lib.hid (Past.none HP (by omega))
      have E2 := Lib.hid (getv_none E1.out)
      go_wp2_with fail
      go_ret2
      exact ⟨by rw [E1.out, E2.out]; rfl, HB.out⟩

set_option maxHeartbeats 1000000 in
theorem rnext_calls (room : Nat) (l : PL) (A : Option Addr) (n cap : Nat) (key : ByteArray) (w : World) (hn : n = l.length) (hA : PR w A l) (hl : l.length ≤ 10000) :
    Calls Try.prog 18 #[tv room A n cap, .string key] w fun e w' => e = .returned (.tuple #[.string (nxt l key).1, .bool (nxt l key).2]) ∧ Below w.heap.size w w' := by
  subst hn
  have HB : Hid (Below w.heap.size w (w.alloc (tbox room A l.length cap))) := Lib.hid ((Below.refl _ _).alloc (Nat.le_refl _) _)
  have HA := Lib.hid (hA.alloc (tbox room A l.length cap))
  clear hA
  go_enter Try.func18, Try.ntmps18
  go_wp2_with fail
  go_loopw [6] (fun i wr => ∃ k : Nat, k ≤ l.length ∧ i = .int .i64 (k : Nat) ∧ wr = w.alloc (tbox room A l.length cap) ∧ Hid (Past l key k)) (fun i _ => l.length - (intOf i).toNat)
  case atStart => exact ⟨0, Nat.zero_le _, rfl, rfl, Past.zero _ _⟩
  case round =>
    obtain ⟨k, hk, rfl, rfl, HP⟩ := hrel
    by_cases hlt : k + 1 < l.length
    · have t0 : (k : Int) + 1 < (l.length : Int) := by omega
      obtain ⟨a, rfl, c1, c2⟩ := HA.out.1.at_ (show k < l.length by omega)
      by_cases hx : l[k].1 = key
      · have tq := str_eq hx
        have F := Past.next HP hlt hx
        obtain ⟨a', ea, c3, c4⟩ := HA.out.1.at_ hlt
        injection ea with ea
        subst ea
        have ei : (a.add ((k + 1) * 2)) = ⟨a.block, a.off + (k + 1) * 2, none⟩ := by unfold Addr.add; rw [if_neg (by omega)]
        rw [ei] at c3
        have E1 := Lib.hid F
        clear hx F
        go_wp2_with fail
        go_ret2
        exact ⟨by rw [E1.out]; rfl, HB.out⟩
      · have tq := str_ne hx
        have HP2 := Lib.hid (Past.succ HP (by omega) hx)
        clear hx
        go_wp2_with fail
        go_roundw
        case rel => exact ⟨k + 1, by omega, by go_num, by first | rfl | trivial, HP2.out⟩
        case measure => simp [intOf]; omega
    · have t0 : ¬ (k : Int) + 1 < (l.length : Int) := by omega
      have E1 := Lib.hid (Past.last HP (by omega))
      go_wp2_with fail
      go_ret2
      exact ⟨by rw [E1.out]; rfl, HB.out⟩

/-- the first so many keys -/
def keysTo (l : PL) (k : Nat) : List ByteArray := (l.take k).map (·.1)

set_option maxHeartbeats 1000000 in
theorem rkeys_calls (room : Nat) (l : PL) (A : Option Addr) (n cap : Nat) (w : World) (hn : n = l.length) (hA : PR w A l) (hl : l.length ≤ 10000) :
    Calls Try.prog 21 #[tv room A n cap] w fun e w' => ∃ A' n' cap', e = .returned (.slice A' n' cap') ∧ SRow w' w.heap.size (.slice A' n' cap') (l.map (·.1)) ∧ Below w.heap.size w w' := by
  subst hn
  have HB : Hid (Below w.heap.size w (w.alloc (tbox room A l.length cap))) := Lib.hid ((Below.refl _ _).alloc (Nat.le_refl _) _)
  have BT : Hid (Box (w.alloc (tbox room A l.length cap)) w.heap.size 29 (tc room A l.length cap)) := Lib.hid (Box.new _ _ _)
  have HA := Lib.hid (hA.alloc (tbox room A l.length cap))
  clear hA
  go_enter Try.func21, Try.ntmps21
  go_wp2_with fail
  generalize w.alloc (tbox room A l.length cap) = W at HB BT HA ⊢
  have zW := HB.out.size
  have bW := BT.out.lt
  go_loopw [3, 4] (fun v i wr => ∃ k : Nat, k ≤ l.length ∧ i = .int .i64 (k : Nat) ∧ Hid (SRow wr W.heap.size v (keysTo l k) ∧ Below W.heap.size W wr)) (fun _ i _ => l.length - (intOf i).toNat)
  case atStart => exact ⟨0, Nat.zero_le _, rfl, SRow.nil _ _, Below.refl _ _⟩
  case round =>
    obtain ⟨k, hk, rfl, HJ⟩ := hrel
    have b1 : wr.cell? ⟨w.heap.size, 1, none⟩ = some (.slice A l.length cap) := (BT.out.keep HJ.out.2).cell 1
    by_cases hlt : k < l.length
    · obtain ⟨a, rfl, c1, c2⟩ := (HA.out.keep HJ.out.2).1.at_ hlt
      have HN := Lib.hid (show keysTo l (k + 1) = keysTo l k ++ [l[k].1] by unfold keysTo; rw [List.take_succ_eq_append_getElem hlt, List.map_append]; rfl)
      have HL := Lib.hid (show (keysTo l k).length ≤ 20000 by unfold keysTo; rw [List.length_map]; have := List.length_take_le k l; omega)
      go_wp2_with (at_builtin; refine wpList_append_str rfl _ _ rfl W.heap.size _ _ rfl (HJ.out.1.alloc _) wr.heap.size l[k].1 rfl (heap_alloc_new wr _) HL.out ?c5 ?_)
      case c5 => have := HJ.out.2.size; simp; omega
      intro v' w10 ho10 hg10
      have B10 := Lib.hid ((HJ.out.1.alloc (.cells #[.string l[k].1] 9)).grown hg10 (HJ.out.2.alloc HJ.out.2.size _) (by have := HJ.out.2.size; simp; omega))
      have O10 := Lib.hid ho10
      clear ho10 hg10 c1 c2
      go_wp2_with fail
      go_roundw
      case rel => exact ⟨k + 1, by omega, by go_num, by rw [HN.out]; exact O10.out, B10.out⟩
      case measure => simp [intOf]; omega
    · have HJ2 : Hid (SRow wr W.heap.size u3 (l.map (·.1))) := Lib.hid (by
        have := HJ.out.1
        unfold keysTo at this
        rw [List.take_of_length_le (by omega)] at this
        exact this)
      obtain ⟨A4, n4, cap4, rfl⟩ := HJ2.out.form
      go_wp2_with fail
      go_ret
      refine ⟨_, _, _, rfl, ?_, HB.out.trans (HJ.out.2.mono zW)⟩
      have h := HJ2.out
      refine ⟨h.1, ?_⟩
      rcases h.2 with h2 | ⟨g, cap, cur, hv, hB, r⟩
      · exact .inl h2
      · exact .inr ⟨g, cap, cur, hv, Nat.le_trans zW hB, r⟩

end Pr
end Go.Proofs.Ytdnaecmihgcelaa.Tb
