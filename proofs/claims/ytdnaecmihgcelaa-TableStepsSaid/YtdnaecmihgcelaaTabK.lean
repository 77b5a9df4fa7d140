/-
  New; the table's own methods that range over nothing.
-/
import Derived.Test.YtdnaecmihgcelaaTabJ
namespace Go.Proofs.Ytdnaecmihgcelaa.Tb
open Go.RowKit

abbrev S0 (room : Nat) : Sm := { room := room, n := 0, M := 8, key := fun _ => ⟨#[]⟩, sm := fun _ => 0, val := fun _ => 0, old := fun _ => 0, new := fun _ => 0, pl := fun _ => 0 }
theorem good0 (room : Nat) (h : room ≤ 10000) : Good (S0 room) [] :=
  ⟨⟨rfl, rfl⟩, List.nodup_nil, fun i => by simp; omega, fun i h1 h2 => by simp only at h2; omega, fun i j h1 h2 => by simp only at h2; omega, rfl, rfl,
    ⟨fun i hi => by unfold occ at hi; simp only at hi; omega, fun i hi => by unfold occ at hi; simp only at hi; omega, fun p _ h => absurd rfl h, fun i hi => by unfold occ at hi; simp only at hi; omega, fun p q _ _ _ h => absurd rfl h, fun p _ h => absurd rfl h⟩, by simp, Nat.zero_le _, h⟩

theorem make_ent1 (w : World) : (Instr.makeSlice 72 (.int .i64 1) (.int .i64 1)).run Try.prog w = .ok (.slice (some ⟨w.heap.size, 0, none⟩) 1 1) (w.alloc (.cells #[.string ⟨#[]⟩, .int .u64 0, .int .i64 0, .int .i64 0, .int .i64 0] 80)) := by
  obtain ⟨i0, hi, hz0, hz1, hz2⟩ := ent_parts
  have := run_make (P := Try.prog) w 72 80 i0 _ Try.underlying72 hi hz0 .i64 .i64 1 1 (by omega) (Int.le_refl _) (by rw [hz2]; omega) (by omega)
  have e : madeCells (Value.agg #[.string ⟨#[]⟩, .int .u64 0, .int .i64 0, .int .i64 0, .int .i64 0]).cells (Int.toNat 1 * 5) = #[.string ⟨#[]⟩, .int .u64 0, .int .i64 0, .int .i64 0, .int .i64 0] := by kernel_rfl
  rw [hz1, e] at this
  exact this
theorem make_pl8 (w : World) : (Instr.makeSlice 73 (.int .i64 8) (.int .i64 8)).run Try.prog w = .ok (.slice (some ⟨w.heap.size, 0, none⟩) 8 8) (w.alloc (.cells (madeCells #[.int .i64 0] 8) 3)) := by
  have := make_ints w 4 (by omega)
  exact this

theorem at0 {w : World} (room ob eb pb : Nat) (h1 : ob ≠ eb) (h2 : ob ≠ pb) (h3 : eb ≠ pb) (ho : w.heap[ob]? = some (.cells #[.int .i64 (room : Nat), .slice (some ⟨eb, 0, none⟩) 1 1, .slice (some ⟨pb, 0, none⟩) 8 8] 75 (0, 0)))
    (he : w.heap[eb]? = some (.cells #[.string ⟨#[]⟩, .int .u64 0, .int .i64 0, .int .i64 0, .int .i64 0] 80 (0, 0))) (hp : w.heap[pb]? = some (.cells (madeCells #[.int .i64 0] 8) 3 (0, 0))) : At w ⟨ob, eb, pb, 1⟩ (S0 room) := by
  refine ⟨ho, ⟨_, he, rfl, ⟨fun i hi => ?_, fun i hi => ?_, fun i hi => ?_, fun i hi => ?_, fun i hi => ?_⟩⟩, ⟨_, hp, size_madeCells _ _, fun i hi => made_get _ _ hi⟩, h1, h2, h3, Nat.le_refl _, by show 1 ≤ maxLen; decide, by simp, ⟨3, by omega, by omega, rfl⟩⟩ <;>
    (obtain rfl : i = 0 := by simp only at hi; omega
     rfl)

theorem heap3 (w : World) (A B C : Obj) : (((w.alloc A).alloc B).alloc C).heap[w.heap.size]? = some A ∧ (((w.alloc A).alloc B).alloc C).heap[w.heap.size + 1]? = some B ∧ (((w.alloc A).alloc B).alloc C).heap[w.heap.size + 1 + 1]? = some C := by
  refine ⟨?_, ?_, ?_⟩
  · rw [heap_alloc_old _ _ (by simp; omega), heap_alloc_old _ _ (by simp), heap_alloc_new]
  · rw [heap_alloc_old _ _ (by simp)]
    have := heap_alloc_new (w.alloc A) B
    rw [World.size_alloc] at this
    exact this
  · have := heap_alloc_new ((w.alloc A).alloc B) C
    rw [World.size_alloc, World.size_alloc] at this
    exact this

set_option maxHeartbeats 1000000 in
theorem newOrdered_calls (room : Nat) (w : World) :
    Calls Try.prog 28 #[.int .i64 (room : Nat)] w fun e w' => ∃ L, e = .returned (.pointer (some ⟨L.ob, 0, none⟩)) ∧ At w' L (S0 room) ∧ Below w.heap.size w w' ∧ ∀ x ∈ L.own, w.heap.size ≤ x := by
  have hm1 := fun W => make_ent1 W
  have hm2 := fun W => make_pl8 W
  go_enter Try.func28, Try.ntmps28
  go_wp2_with fail
  go_region_with (fail)
  all_goals go_wp2_with fail
  all_goals go_ret
  · refine ⟨⟨w.heap.size + 1 + 1, w.heap.size, w.heap.size + 1, 1⟩, rfl, at0 room _ _ _ (by omega) (by omega) (by omega) (heap3 w _ _ _).2.2 (heap3 w _ _ _).1 (heap3 w _ _ _).2.1, ((((Below.refl _ _).alloc (Nat.le_refl _) _).alloc (by simp) _).alloc (by simp; omega) _).drew, fun x hx => ?_⟩
    simp only [List.mem_cons, List.not_mem_nil, or_false] at hx
    omega
  · refine ⟨⟨w.heap.size + 1 + 1, w.heap.size + 1, w.heap.size, 1⟩, rfl, at0 room _ _ _ (by omega) (by omega) (by omega) (heap3 w _ _ _).2.2 (heap3 w _ _ _).2.1 (heap3 w _ _ _).1, ((((Below.refl _ _).alloc (Nat.le_refl _) _).alloc (by simp) _).alloc (by simp; omega) _).drew, fun x hx => ?_⟩
    simp only [List.mem_cons, List.not_mem_nil, or_false] at hx
    omega

def clipR (n : Int) : Nat := (min (max n 0) 10000).toNat
theorem clipR_le (n : Int) : clipR n ≤ 10000 := by unfold clipR; omega

/-- a table's own methods may be called -/
theorem made_calls {w : World} {own : List Nat} {t room : Nat} {l : PL} (h : Tbl w own t room l) : Calls Try.prog 32 #[.pointer (some ⟨t, 0, none⟩)] w fun e w' => e = .returned (.bool true) ∧ w = w' := by
  obtain ⟨L, S, ids, _, _, _, _, _, _, ht, _⟩ := h.ex
  have c1 : w.cell? ⟨t, 0, none⟩ = some (.pointer (some ⟨L.ob, 0, none⟩)) := by rw [cell_of_row _ _ _ _ _ _ ht]; rfl
  clear ht h
  go_enter Try.func32, Try.ntmps32
  go_wp2_with fail
  go_ret
  exact ⟨rfl, rfl⟩
theorem made_nil (w : World) : Calls Try.prog 32 #[.pointer none] w fun e w' => e = .returned (.bool false) ∧ w = w' := by
  go_enter Try.func32, Try.ntmps32
  go_wp2_with fail
  go_ret
  exact ⟨rfl, rfl⟩

theorem new_calls (room : Int) (hr : -9223372036854775808 ≤ room ∧ room < 9223372036854775808) (w : World) :
    Calls Try.prog 11 #[.int .i64 room] w fun e w' => ∃ t own, e = .returned (.pointer (some ⟨t, 0, none⟩)) ∧ Tbl w' own t (clipR room) [] ∧ Below w.heap.size w w' ∧ ∀ x ∈ own, w.heap.size ≤ x := by
  have fin : ∀ {w1 : World} {L : Lay} {n : Nat}, n ≤ 10000 → At w1 L (S0 n) → Below w.heap.size w w1 → (∀ x ∈ L.own, w.heap.size ≤ x) → Tbl (w1.alloc (.cells #[.pointer (some ⟨L.ob, 0, none⟩)] 63)) (w1.heap.size :: L.own) w1.heap.size n [] ∧ Below w.heap.size w (w1.alloc (.cells #[.pointer (some ⟨L.ob, 0, none⟩)] 63)) ∧ ∀ x ∈ w1.heap.size :: L.own, w.heap.size ≤ x := fun hn ha hb ho => by
    refine ⟨⟨_, _, [], ha.alloc _, good0 _ hn, fun i => by simp, rfl, rfl, rfl, heap_alloc_new _ _, fun hc => ?_⟩, hb.alloc hb.size _, fun x hx => ?_⟩
    · have h1 := ha.olt
      have h2 := ha.elt
      have h3 := ha.plt
      simp only [List.mem_cons, List.not_mem_nil, or_false] at hc
      omega
    · rcases List.mem_cons.1 hx with rfl | hx
      · exact hb.size
      · exact ho x hx
  by_cases h1 : room < 0
  · have e : clipR room = 0 := by unfold clipR; omega
    rw [e]
    go_enter Try.func11, Try.ntmps11
    go_wp2_with fail
    refine (newOrdered_calls 0 w).mono ?_
    rintro e w1 ⟨L, rfl, ha, hb, ho⟩
    have F := Lib.hid (fin (by omega) ha hb ho)
    clear ha hb ho fin
    go_wp2_with fail
    go_ret
    exact ⟨_, _, rfl, F.out⟩
  · by_cases h2 : 10000 < room
    · have e : clipR room = 10000 := by unfold clipR; omega
      rw [e]
      have h3 : 0 ≤ room := by omega
      go_enter Try.func11, Try.ntmps11
      go_wp2_with fail
      refine (newOrdered_calls 10000 w).mono ?_
      rintro e w1 ⟨L, rfl, ha, hb, ho⟩
      have F := Lib.hid (fin (by omega) ha hb ho)
      clear ha hb ho fin
      go_wp2_with fail
      go_ret
      exact ⟨_, _, rfl, F.out⟩
    · obtain ⟨n, rfl⟩ : ∃ n : Nat, room = n := ⟨room.toNat, by omega⟩
      have e : clipR (n : Int) = n := by unfold clipR; omega
      rw [e]
      go_enter Try.func11, Try.ntmps11
      go_wp2_with fail
      refine (newOrdered_calls n w).mono ?_
      rintro e w1 ⟨L, rfl, ha, hb, ho⟩
      have F := Lib.hid (fin (by omega) ha hb ho)
      clear ha hb ho fin
      go_wp2_with fail
      go_ret
      exact ⟨_, _, rfl, F.out⟩

end Go.Proofs.Ytdnaecmihgcelaa.Tb
