/-
  seat: each entry from a number on has its place.
-/
import Derived.Test.YtdnaecmihgcelaaTabB
import Derived.Deep.RegionWith
import Derived.BigRegion
namespace Go.Proofs.Ytdnaecmihgcelaa.Tb
open Go.RowKit

abbrev Sm.withPl (S : Sm) (P : Nat → Nat) : Sm := { S with pl := P }
abbrev entCells (S : Sm) (i : Nat) : Array Value := #[.string (S.key i), .int .u64 (S.sm i : Nat), .int .i64 (S.val i), .int .i64 (S.old i : Nat), .int .i64 (S.new i : Nat)]

def SeatR (w : World) (L : Lay) (S : Sm) (first k : Nat) (wr : World) : Prop :=
  ∃ P, At wr L (S.withPl P) ∧ Seats S.M (hm S) P (fun j => 1 ≤ j ∧ j < k) ∧ Only L.own w wr ∧ first ≤ k ∧ k ≤ S.n + 1

set_option maxHeartbeats 1000000 in
theorem seat_calls {w : World} {L : Lay} {S : Sm} (h : At w L S) {first : Nat} (h1 : 1 ≤ first) (h2 : first ≤ S.n + 1) (hs : Seats S.M (hm S) S.pl (fun j => 1 ≤ j ∧ j < first)) (hn : S.n < S.M)
    (hk : ∀ i j, 1 ≤ i → i ≤ S.n → 1 ≤ j → j ≤ S.n → S.key i = S.key j → i = j) (hsm : ∀ i, S.sm i < 18446744073709551616) :
    Calls Try.prog 50 #[.pointer (some ⟨L.ob, 0, none⟩), .int .i64 (first : Nat)] w fun e w' => e = .returned (.tuple #[]) ∧ SeatR w L S first (S.n + 1) w' := by
  have nn := h.nn
  have hl := h.pow.le
  have H := Lib.hid h
  have HS := Lib.hid hs
  have HK := Lib.hid hk
  have HM := Lib.hid hsm
  clear h hs hk hsm
  go_enter Try.func50, Try.ntmps50
  go_wp2_with fail
  go_loopw [4, 5] (fun v _ wr => ∃ k : Nat, v = .int .i64 (k : Nat) ∧ Hid (SeatR w L S first k wr)) (fun v _ _ => S.n + 1 - (intOf v).toNat)
  case atStart => exact ⟨first, rfl, S.pl, H.out, HS.out, Only.refl _ _, Nat.le_refl _, h2⟩
  case round =>
    obtain ⟨k, rfl, hr⟩ := hrel
    obtain ⟨P, a, s, o, k1, k2⟩ := hr.out
    have c1 := a.entc
    by_cases hlt : k ≤ S.n
    · have c2 := a.key hlt
      have c3 := a.sm hlt
      have c4 := a.val hlt
      have c5 := a.old hlt
      have c6 := a.new hlt
      have HA := Lib.hid a
      have HR := Lib.hid (And.intro s o)
      clear a s o hr
      simp only at c1 c2 c3 c4 c5 c6
      obtain ⟨W, hW⟩ : ∃ W, W = wr.alloc (.cells (entCells S k) 80) := ⟨_, rfl⟩
      have hA := HA.out.alloc (.cells (entCells S k) 80)
      have hO := HR.out.2.alloc (.cells (entCells S k) 80)
      have b0 : (wr.alloc (.cells (entCells S k) 80)).cell? ⟨wr.heap.size, 0, none⟩ = some (.string (S.key k)) := by rw [cell_of_row _ _ _ _ _ _ (heap_alloc_new wr _)]; rfl
      have b1 : (wr.alloc (.cells (entCells S k) 80)).cell? ⟨wr.heap.size, 1, none⟩ = some (.int .u64 (S.sm k : Nat)) := by rw [cell_of_row _ _ _ _ _ _ (heap_alloc_new wr _)]; rfl
      rw [← hW] at hA hO b0 b1
      have HW := Lib.hid hW
      have HA2 := Lib.hid hA
      have HO := Lib.hid hO
      have HB := Lib.hid (And.intro b0 b1)
      clear hW hA hO b0 b1
      go_wp2_with fail
      have hW := HW.out
      simp only [entCells] at hW
      rw [← hW]
      clear hW HW HA c1 c2 c3 c4 c5 c6
      have b0 := HB.out.1
      have b1 := HB.out.2
      have cp := HA2.out.plc
      simp only at cp
      generalize wr.heap.size = b at b0 b1 HB ⊢
      have hS := HR.out.1
      have hfree := hS.free (n := k - 1) (fun i hi => by omega) (by omega)
      obtain ⟨q, hq, hq0⟩ := hfree
      obtain ⟨p, hf⟩ := Found.exists_ P (fun i => S.sm i = S.sm k ∧ S.key i = S.key k) (home_lt HA2.out.pow (S.sm k)) hq hq0
      have hpM : p < S.M := hf.lt (home_lt HA2.out.pow (S.sm k))
      have hp0 : P p = 0 := hS.miss (home_lt HA2.out.pow _) (fun j hj hm => by
        have := HK.out j k hj.1 (by omega) (by omega) hlt hm.2
        omega) hf
      have hS2 := hS.seat (i := k) (p := p) (fun hc => by omega) (by omega) (home_lt HA2.out.pow _) hf hp0
      have hlow : ∀ r, r < S.M → P r ≤ S.n := fun r hr => by
        by_cases e : P r = 0
        · omega
        · have := hS.mem r hr e; omega
      have HF := Lib.hid hf
      have HQ := Lib.hid (show ∃ q, q < S.M ∧ P q = 0 from ⟨q, hq, hq0⟩)
      have HL := Lib.hid hlow
      have HS2 := Lib.hid hS2
      clear hS hf hp0 hS2 hlow hq0 hq HR
      have b2 : ¬ ((p : Int) < 0) := by omega
      have b3 : (p : Int) < (S.M : Int) := by omega
      have ck := HA2.out.pl (i := p) hpM
      have cf := HA2.out.pfree p
      simp only at ck cf
      go_region_with (go_at_call 45; refine (seek_calls HA2.out.drew (S.key k) (HM.out k) HL.out HQ.out HF.out).mono ?_; rintro e w1 ⟨rfl, rfl⟩)
      all_goals
        go_wp2_with fail
        go_roundw
        case rel => exact ⟨k + 1, by simp, Lib.hid ⟨upd P p k, (HA2.out.setPl (i := p) hpM k).drew, by
          have hS := HS2.out
          have e : (fun j => 1 ≤ j ∧ j < k ∨ j = k) = (fun j => 1 ≤ j ∧ j < k + 1) := by funext j; exact propext ⟨fun h => by omega, fun h => by omega⟩
          rw [e] at hS
          exact hS, (HO.out.set (by simp) _).drew, by omega, by omega⟩⟩
        case measure => simp [intOf]; omega
    · have HR := Lib.hid (show SeatR w L S first (S.n + 1) wr from by
        have : k = S.n + 1 := by omega
        subst this
        exact hr.out)
      clear a s o hr
      simp only at c1
      go_wp2_with fail
      go_end0
      exact ⟨rfl, HR.out⟩

end Go.Proofs.Ytdnaecmihgcelaa.Tb
