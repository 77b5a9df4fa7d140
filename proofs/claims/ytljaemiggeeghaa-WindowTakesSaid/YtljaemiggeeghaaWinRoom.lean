/-
  What window.room answers, in any world.
-/
import Derived.Test.YtljaemiggeeghaaWinVal
namespace Go.Proofs.Ytljaemiggeeghaa
open Go.RowKit
namespace Wn

/-- a policy's box, and a state's -/
abbrev Pol.box (p : Pol) : Obj := .cells #[.int .i64 p.kind, .int .i64 p.limit, .int .i64 p.period, .int .i64 p.burst, .int .i64 p.cap, .bool p.opn] 23
abbrev St.box (s : St) (A : Option Addr) (n cap : Nat) : Obj := .cells #[.int .i64 s.tm, .int .i64 s.level, .int .i64 s.held, .slice A n cap] 32
theorem below_two (w : World) (o o' : Obj) : Below w.heap.size w ((w.alloc o).alloc o') := ((Below.refl _ _).alloc (by simp) _).alloc (by simp) _

/-- the variable that a counting function holds -/
def Cnt (w : World) (b : Nat) (n : Int) (wr : World) : Prop := Below w.heap.size w wr ∧ wr.cell? ⟨b, 0, none⟩ = some (.int .i64 n) ∧ wr.frozen? ⟨b, 0, none⟩ = false ∧ b < wr.heap.size
theorem Cnt.alloc {w wr : World} {b : Nat} {n : Int} (h : Cnt w b n wr) (o : Obj) : Cnt w b n (wr.alloc o) :=
  ⟨h.1.alloc h.1.size o, (World.cell?_alloc_past _ _ _ h.2.2.2).trans h.2.1, (World.frozen?_alloc_past _ _ _ h.2.2.2).trans h.2.2.1, by have := h.2.2.2; simp; omega⟩
theorem Cnt.set {w wr : World} {b : Nat} {n : Int} (h : Cnt w b n wr) (hb : w.heap.size ≤ b) (m : Int) : Cnt w b m (wr.setCell ⟨b, 0, none⟩ (.int .i64 m)) :=
  ⟨h.1.setCell hb _, World.cell?_setCell_same _ _ _ h.2.1, (World.frozen?_setCell _ _ _ _).trans h.2.2.1, by have := h.2.2.2; simp [World.setCell]; omega⟩

theorem Cnt.drew {w wr : World} {b : Nat} {n : Int} (h : Cnt w b n wr) : Cnt w b n wr.drew := ⟨h.1.drew, h.2.1, h.2.2.1, h.2.2.2⟩
theorem Cnt.start {w w1 : World} {b : Nat} {n m : Int} (h : Below w.heap.size w w1) (hb : b = w1.heap.size) (hm : n = m) : Cnt w b m (w1.alloc (.cells #[.int .i64 n] 3)) := by
  subst hm hb
  exact ⟨h.alloc h.size _, World.cell?_alloc_at _ _ _ _ rfl, World.frozen?_alloc_at _ _ _ _ rfl, by simp⟩

/-- no block but b has turned -/
def Only (b : Nat) (w w' : World) : Prop := ∀ a : Addr, a.block ≠ b → w'.cell? a = w.cell? a
theorem add_cnt {w wr : World} {b : Nat} {n : Int} (H : Cnt w b n wr) (hb : w.heap.size ≤ b) (m : Int) (h1 : -4611686018427387904 ≤ n + m) (h2 : n + m ≤ 4611686018427387904) :
    Calls Try.prog 46 #[.int .i64 m, .pointer (some ⟨b, 0, none⟩)] wr fun e w' => e = .returned (.int .i64 (n + m)) ∧ Cnt w b (n + m) w' ∧ Only b wr w' ∧ wr.heap.size ≤ w'.heap.size :=
  (add_calls n m b wr H.2.1 H.2.2.1 h1 h2).mono fun e w' ⟨he, hw⟩ => by
    subst hw
    exact ⟨he, H.set hb _, fun a ha => World.cell?_setCell_other _ _ _ _ (fun (e : (⟨b, 0, none⟩ : Addr) = a) => ha (by rw [← e])), by simp [World.setCell]⟩

set_option maxHeartbeats 1000000 in
theorem room_calls (p : Pol) (s : St) (A : Option Addr) (cap : Nat) (w : World) (hA : Ents w A s.log) (hc : ∀ e ∈ s.log, 1 ≤ e.2) (hl : tot s.log ≤ 1048576) (h1 : 0 ≤ p.limit) (h2 : p.limit ≤ 1048576) (h3 : 0 ≤ s.held) (h4 : s.held ≤ 1048576) (hn : s.log.length ≤ 1000) :
    Calls Try.prog 41 #[p.val, s.val A s.log.length cap] w fun e w' => e = .returned (.int .i64 (p.limit - s.held - tot s.log)) ∧ Below w.heap.size w w' := by
  have HA := Lib.hid hA
  have HC := Lib.hid hc
  clear hA hc
  unfold Pol.val St.val
  go_enter Try.func41, Try.ntmps41
  go_wp2_with fail
  refine (sum_calls _ _).mono ?_
  rintro e w1 ⟨rfl, rfl⟩
  go_wp2_with fail
  go_loopw [5, 19] (fun f i wr => ∃ k : Nat, k ≤ s.log.length ∧ i = .int .i64 k ∧ f = .int .i64 (p.limit - s.held - tot (s.log.take k)) ∧ Hid (Cnt w (w.heap.size + 1 + 1) (p.limit - s.held - tot (s.log.take k)) wr)) (fun _ i _ => s.log.length - (intOf i).toNat)
  case atStart => exact ⟨0, Nat.zero_le _, rfl, val_int (by simp [tot]), Cnt.start (((Below.refl _ _).alloc (by simp) _).alloc (by simp) _) (by simp) (by simp [tot])⟩
  case round =>
    obtain ⟨k, hk, rfl, rfl, H⟩ := hrel
    have H : Cnt w (w.heap.size + 1 + 1) (p.limit - s.held - tot (s.log.take k)) wr := H
    by_cases hlt : k < s.log.length
    · obtain ⟨a, rfl, c1, c2⟩ := (HA.out.keep H.1).at_ hlt
      have t1 := tot_take s.log k hlt
      have t2 := tot_take_le s.log k HC.out
      have t3 := tot_nonneg (s.log.take k) fun e he => HC.out e (List.mem_of_mem_take he)
      have t4 := tot_take_le s.log (k+1) HC.out
      have t5 := HC.out _ (List.getElem_mem hlt)
      have T1 := Lib.hid t1
      have b1 : s.log[k].2 ≤ 1048576 := by omega
      clear t1 t4
      go_wp2_with fail
      refine (add_calls _ (-s.log[k].2) _ _ (H.alloc _).2.1 (H.alloc _).2.2.1 (by omega) (by omega)).mono ?_
      rintro e w1 ⟨rfl, rfl⟩
      go_wp2_with fail
      go_roundw
      case rel => exact ⟨k + 1, by omega, by go_num, val_int (by rw [T1.out]; omega), by rw [show p.limit - s.held - tot (s.log.take (k + 1)) = p.limit - s.held - tot (s.log.take k) + -s.log[k].2 by rw [T1.out]; omega]; exact (H.alloc _).set (by omega) _⟩
      case measure => simp [intOf]; omega
    · go_wp2
      go_ret
      exact ⟨ret_int (by rw [tot_all _ _ hlt]), H.1⟩

end Wn
end Go.Proofs.Ytljaemiggeeghaa
