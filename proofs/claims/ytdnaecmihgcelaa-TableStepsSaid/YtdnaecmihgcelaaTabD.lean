/-
  vacate: a place is made nobody's, and whom a search would then miss moves up.
-/
import Derived.Test.YtdnaecmihgcelaaTabC
namespace Go.Proofs.Ytdnaecmihgcelaa.Tb
open Go.RowKit

def VacR (w : World) (L : Lay) (S : Sm) (i q hole f : Nat) (wr : World) : Prop :=
  ∃ P, At wr L (S.withPl P) ∧ Hole S.M (hm S) P (occ S) i hole f q ∧ Only L.own w wr

set_option maxHeartbeats 1000000 in
theorem vacate_calls {w : World} {L : Lay} {S : Sm} (h : At w L S) (hs : Seats S.M (hm S) S.pl (occ S)) (hn : S.n < S.M) {i p : Nat} (hi : occ S i) (hp : p < S.M) (hpi : S.pl p = i) (hsm : ∀ i, S.sm i < 18446744073709551616) :
    Calls Try.prog 48 #[.pointer (some ⟨L.ob, 0, none⟩), .int .i64 (p : Nat)] w fun e w' => e = .returned (.tuple #[]) ∧ ∃ P, At w' L (S.withPl P) ∧ Seats S.M (hm S) P (fun j => occ S j ∧ j ≠ i) ∧ Only L.own w w' := by
  have nn := h.nn
  have hl := h.pow.le
  obtain ⟨q, hh⟩ := hs.hole (n := S.n) (fun j hj => hj.2) hn (by omega) hp hpi hi
  have H := Lib.hid h
  have HH := Lib.hid hh
  have HM := Lib.hid hsm
  clear h hs hsm hpi hh hi
  go_enter Try.func48, Try.ntmps48
  go_wp2_with fail
  refine (behind_calls H.out hp).mono ?_
  rintro e w1 ⟨rfl, rfl⟩
  go_wp2_with fail
  go_loopw [1, 4, 5] (fun pv fv _ wr => ∃ hole f : Nat, pv = .int .i64 (hole : Nat) ∧ fv = .int .i64 (f : Nat) ∧ Hid (VacR w L S i q hole f wr)) (fun _ fv _ _ => dist S.M (intOf fv).toNat q)
  case atStart => exact ⟨p, go S.M p 1, rfl, rfl, Lib.hid ⟨S.pl, H.out, HH.out, Only.refl _ _⟩⟩
  case round =>
    obtain ⟨hole, f, rfl, rfl, hr⟩ := hrel
    obtain ⟨P, a, ho, o⟩ := hr.out
    clear hr
    have hol : hole < S.M := ho.lt
    have fl : f < S.M := ho.flt
    have c1 := a.plc
    have c2 := a.pl (i := f) fl
    have HA := Lib.hid a
    have HO := Lib.hid o
    have HE := Lib.hid ho
    clear a ho o
    simp only at c1 c2
    by_cases hz : P f = 0
    · have t1 : ((P f : Int) != 0) = false := by rw [nz_eq]; simpa using hz
      have cf := HA.out.pfree hole
      have ck := HA.out.pl (i := hole) hol
      simp only at ck cf
      have HZ := Lib.hid (HE.out.exit hz)
      clear hz
      go_wp2_with fail
      go_end0
      exact ⟨rfl, upd P hole 0, HA.out.setPl (i := hole) hol 0, HZ.out, HO.out.set (by simp) _⟩
    · have t1 : ((P f : Int) != 0) = true := by rw [nz_eq]; simpa using hz
      have hoc : occ S (P f) := by
        have := HE.out.mem f fl (by rw [upd_ne _ _ HE.out.ne]; exact hz)
        rw [upd_ne _ _ HE.out.ne] at this
        exact this.1
      have hml : P f ≤ S.n := hoc.2
      have hhm : hm S (P f) < S.M := HE.out.home _ hoc
      have c3 := HA.out.entc
      have c4 := HA.out.sm (i := P f) hml
      simp only at c3 c4
      have HZ := Lib.hid hz
      have HC := Lib.hid hoc
      clear hz hoc
      have b0 : ¬ ((f : Int) < 0) := by omega
      have b1 : (f : Int) < (S.M : Int) := by omega
      have b2 : ¬ ((P f : Int) < 0) := by omega
      have b3 : (P f : Int) < (S.n : Int) + 1 := by omega
      go_wp2_with fail
      go_quiet ((go_at_call 52; refine Calls.quiet_of_same ((home_calls (HA.out.drewN _) (HM.out _)).mono fun _ _ h => ⟨h.1, h.2.symm⟩)))
      have HA2 := Lib.hid (HA.out.drewN nq)
      have HO2 := Lib.hid (HO.out.drewN nq)
      clear HA HO c1 c2 c3 c4
      generalize wr.drewN nq = W at HA2 HO2 ⊢
      go_wp2_with fail
      refine (way_calls HA2.out (f := home S.M (S.sm (P f))) (t := f) hhm fl).mono ?_
      rintro e w1 ⟨rfl, rfl⟩
      go_wp2_with fail
      refine (way_calls HA2.out (f := hole) (t := f) hol fl).mono ?_
      rintro e w1 ⟨rfl, rfl⟩
      by_cases hge : dist S.M hole f ≤ dist S.M (home S.M (S.sm (P f))) f
      · have t2 : decide ((dist S.M hole f : Int) ≤ (dist S.M (home S.M (S.sm (P f))) f : Int)) = true := decide_eq_true (by omega)
        have t3 : (dist S.M hole f : Int) ≤ (dist S.M (home S.M (S.sm (P f))) f : Int) := by omega
        have HG := Lib.hid hge
        clear hge
        have c1 := HA2.out.plc
        have c2 := HA2.out.pl (i := f) fl
        simp only at c1 c2
        go_wp2_with fail
        go_still_tail 13, (by kernel_rfl)
        change wpList _ _ _ _ _ W.drew
        have HA3 := Lib.hid HA2.out.drew
        have HO3 := Lib.hid HO2.out.drew
        clear HA2 HO2 c1 c2
        generalize W.drew = W3 at HA3 HO3 ⊢
        have ck := HA3.out.pl (i := hole) hol
        have cf := HA3.out.pfree hole
        simp only at ck cf
        go_wp2_with fail
        have HA4 := Lib.hid (HA3.out.setPl (i := hole) hol (P f))
        have HO4 := Lib.hid (HO3.out.set (p := ⟨L.pb, hole, none⟩) (by simp) (.int .i64 (P f : Nat)))
        generalize W3.setCell ⟨L.pb, hole, none⟩ (.int .i64 (P f : Nat)) = W4 at HA4 HO4 ⊢
        refine (behind_calls HA4.out (p := f) fl).mono ?_
        rintro e w1 ⟨rfl, rfl⟩
        go_wp2_with fail
        go_roundw
        case rel => exact ⟨f, go S.M f 1, rfl, rfl, Lib.hid ⟨upd P hole (P f), HA4.out, HE.out.move HZ.out HG.out, HO4.out⟩⟩
        case measure => simp [intOf]; exact HE.out.less HZ.out
      · have t2 : decide ((dist S.M hole f : Int) ≤ (dist S.M (home S.M (S.sm (P f))) f : Int)) = false := decide_eq_false (by omega)
        have t3 : ¬ (dist S.M hole f : Int) ≤ (dist S.M (home S.M (S.sm (P f))) f : Int) := by omega
        have HG := Lib.hid hge
        clear hge
        go_wp2_with fail
        refine (behind_calls HA2.out (p := f) fl).mono ?_
        rintro e w1 ⟨rfl, rfl⟩
        go_wp2_with fail
        go_roundw
        case rel => exact ⟨hole, go S.M f 1, rfl, rfl, Lib.hid ⟨P, HA2.out, HE.out.stay HZ.out (by have := HG.out; unfold hm; omega), HO2.out⟩⟩
        case measure => simp [intOf]; exact HE.out.less HZ.out

end Go.Proofs.Ytdnaecmihgcelaa.Tb
