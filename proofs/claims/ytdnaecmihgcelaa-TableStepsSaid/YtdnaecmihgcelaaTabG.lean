/-
  remove.
-/
import Derived.Test.YtdnaecmihgcelaaTabF
namespace Go.Proofs.Ytdnaecmihgcelaa.Tb
open Go.RowKit

theorem Good.sm_lt {S : Sm} {ids : List Nat} (g : Good S ids) (h0 : S.sm 0 < 18446744073709551616) (h1 : ∀ i, S.n < i → S.sm i < 18446744073709551616) : ∀ i, S.sm i < 18446744073709551616 := fun i => by
  by_cases e : i = 0
  · rw [e]; exact h0
  · by_cases e2 : i ≤ S.n
    · rw [g.sums i (by omega) e2]; exact Hs.sum_lt _
    · exact h1 i (by omega)
/-- the sums are numbers of 64 bits -/
def Small (S : Sm) : Prop := ∀ i, S.sm i < 18446744073709551616

theorem remove_calls {w : World} {L : Lay} {S : Sm} {ids : List Nat} (h : At w L S) (g : Good S ids) (hsm : Small S) (key : ByteArray) (hk : key.size ≤ maxLen) {i : Nat} (hi : Num S key i) :
    Calls Try.prog 38 #[.pointer (some ⟨L.ob, 0, none⟩), .string key] w fun e w' => e = .returned (.bool (decide (i ≠ 0))) ∧ Only L.own w w' ∧
      ((i = 0 ∧ At w' L S) ∨ (i ≠ 0 ∧ ∃ P1 P2, At w' L ((((S.leave i).withPl P1)).fill i P2) ∧ Seats S.M (hm S) P1 (fun j => occ S j ∧ j ≠ i) ∧ ((i = S.n ∧ P2 = P1) ∨ (i ≠ S.n ∧ ∃ p, p < S.M ∧ P1 p = S.n ∧ P2 = upd P1 p i)))) := by
  obtain ⟨p, hf⟩ := g.at_ h.pow key
  obtain ⟨hp, hn⟩ := g.found h.pow hf
  have e := hn.unique g hi
  subst e
  have hl := h.pow.le
  have hhalf := g.half
  have H := Lib.hid h
  have G := Lib.hid g
  have HS := Lib.hid hsm
  have HF := Lib.hid hf
  have HN := Lib.hid hn
  have c1 := h.plc
  have c2 := h.pl hp
  clear h g hsm hf hn hi
  go_enter Try.func38, Try.ntmps38
  go_wp2_with fail
  refine (Hs.sum_calls key w hk).mono ?_
  rintro e w1 ⟨rfl, rfl⟩
  go_wp2_with fail
  refine (seek_calls H.out key (Hs.sum_lt _) G.out.low G.out.free HF.out).mono ?_
  rintro e w1 ⟨rfl, rfl⟩
  by_cases hz : S.pl p = 0
  · have t1 : ((S.pl p : Int) == 0) = true := by rw [hz]; rfl
    have HZ := Lib.hid hz
    clear hz
    go_wp2_with fail
    go_ret
    exact ⟨by rw [HZ.out]; rfl, Only.refl _ _, .inl ⟨HZ.out, H.out⟩⟩
  · have t1 : ((S.pl p : Int) == 0) = false := beq_eq_false_iff_ne.2 (by omega)
    have HZ := Lib.hid hz
    have hoc : occ S (S.pl p) := HN.out.elim (fun h => ⟨h.1, h.2.1⟩) (fun h => absurd h.1 hz)
    have hle := hoc.2
    have HO := Lib.hid hoc
    clear hz hoc
    go_wp2_with fail
    refine (leave_calls H.out hle G.out.bnd).mono ?_
    rintro e w2 ⟨rfl, a2, o2⟩
    have A2 := Lib.hid a2
    have O2 := Lib.hid o2
    clear a2 o2 c1 c2
    go_wp2_with fail
    refine (vacate_calls (S := S.leave (S.pl p)) A2.out G.out.seats (by show S.n < S.M; omega) HO.out hp rfl HS.out).mono ?_
    rintro e w3 ⟨rfl, P1, a3, s3, o3⟩
    have A3 := Lib.hid a3
    have S3 := Lib.hid s3
    have O3 := Lib.hid (O2.out.also o3)
    clear a3 s3 o3
    go_wp2_with fail
    refine (fill_calls (S := (S.leave (S.pl p)).withPl P1) A3.out HO.out S3.out (by show S.n < S.M; omega) ((G.out.bnd.leave hle) S.n (Nat.le_refl _)) G.out.keys HS.out).mono ?_
    rintro e w4 ⟨rfl, P2, a4, o4, q4⟩
    have A4 := Lib.hid a4
    have O4 := Lib.hid (O3.out.also o4)
    have Q4 := Lib.hid q4
    clear a4 o4 q4
    go_wp2_with fail
    go_ret
    exact ⟨congrArg (fun b => Ending.returned (.bool b)) (decide_eq_true HZ.out).symm, O4.out, .inr ⟨HZ.out, P1, P2, A4.out, S3.out, Q4.out⟩⟩

end Go.Proofs.Ytdnaecmihgcelaa.Tb
