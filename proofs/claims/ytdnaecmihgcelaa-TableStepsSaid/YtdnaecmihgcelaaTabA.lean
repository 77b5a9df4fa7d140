/-
  The small functions of the table: count, home, behind, way, tie.
-/
import Derived.Test.YtdnaecmihgcelaaTabBase
namespace Go.Proofs.Ytdnaecmihgcelaa.Tb
open Go.RowKit

theorem pow_pos63 {M : Nat} (h : Pow M) : ∃ k, k ≤ 15 ∧ M = 2 ^ k := by obtain ⟨k, _, h2, h3⟩ := h; exact ⟨k, h2, h3⟩
theorem u64_mask {M : Nat} (h : Pow M) (a : Nat) (ha : a < 18446744073709551616) : bits .and .u64 (a : Int) ((M : Int) - 1) = ((a % M : Nat) : Int) := by
  have hl := h.le
  obtain ⟨k, hk, rfl⟩ := pow_pos63 h
  rw [show (((2 ^ k : Nat) : Int) - 1) = ((2 ^ k - 1 : Nat) : Int) by omega, bits_and_u64_nat a (2 ^ k - 1) ha (by omega), Nat.and_two_pow_sub_one_eq_mod]
theorem i64_mask {M : Nat} (h : Pow M) (x : Int) : bits .and .i64 x ((M : Int) - 1) = x % (M : Int) := by
  have hl := h.le
  obtain ⟨k, hk, rfl⟩ := pow_pos63 h
  rw [show (((2 ^ k : Nat) : Int) - 1) = ((2 ^ k - 1 : Nat) : Int) by omega]
  have h1 : (BitVec.ofInt 64 ((2 ^ k - 1 : Nat) : Int)).toNat = 2 ^ k - 1 := by
    rw [BitVec.ofInt_natCast, BitVec.toNat_ofNat]; exact Nat.mod_eq_of_lt (by omega)
  have hd : (2 ^ k : Nat) ∣ 2 ^ 64 := Nat.pow_dvd_pow 2 (by omega)
  have key : (BitVec.ofInt 64 x &&& BitVec.ofInt 64 ((2 ^ k - 1 : Nat) : Int)).toNat = (x % ((2 ^ 64 : Nat) : Int)).toNat % 2 ^ k := by
    rw [BitVec.toNat_and, BitVec.toNat_ofInt, h1, Nat.and_two_pow_sub_one_eq_mod]
  show IntKind.i64.wrap ((BitVec.ofInt 64 x &&& BitVec.ofInt 64 ((2 ^ k - 1 : Nat) : Int)).toNat : Nat) = _
  rw [key, IntKind.wrap_i64]
  have hlt := Nat.mod_lt (x % ((2 ^ 64 : Nat) : Int)).toNat (show 2 ^ k > 0 by omega)
  have e1 : (((x % ((2 ^ 64 : Nat) : Int)).toNat % 2 ^ k : Nat) : Int) = x % ((2 ^ k : Nat) : Int) := by
    rw [Int.natCast_emod, Int.toNat_of_nonneg (Int.emod_nonneg _ (by decide))]
    exact Int.emod_emod_of_dvd x (Int.ofNat_dvd.2 hd)
  rw [e1]
  have := Int.emod_nonneg x (show ((2 ^ k : Nat) : Int) ≠ 0 by omega)
  have := Int.emod_lt_of_pos x (show 0 < ((2 ^ k : Nat) : Int) by omega)
  omega
theorem i64_next {M : Nat} (h : Pow M) {p : Nat} (hp : p < M) : bits .and .i64 ((p : Int) + 1) ((M : Int) - 1) = (go M p 1 : Nat) := by
  rw [i64_mask h]
  rcases go_or M p 1 with ⟨h1, e⟩ | ⟨h1, e⟩ <;> rw [e]
  · rw [Int.emod_eq_of_lt (by omega) (by omega)]; omega
  · have : (p : Int) + 1 = M := by omega
    rw [this, Int.emod_self]; omega
theorem i64_way {M : Nat} (h : Pow M) {f t : Nat} (hf : f < M) (ht : t < M) : bits .and .i64 ((t : Int) - f) ((M : Int) - 1) = (dist M f t : Nat) := by
  rw [i64_mask h]
  rcases dist_or M f t with ⟨h1, e⟩ | ⟨h1, e⟩ <;> rw [e]
  · rw [Int.emod_eq_of_lt (by omega) (by omega)]; omega
  · rw [← Int.add_emod_right, Int.emod_eq_of_lt (by omega) (by omega)]; omega

def home (M s : Nat) : Nat := (s ^^^ (s / 4294967296)) % M

theorem tie_calls {w : World} {L : Lay} {S : Sm} (h : At w L S) {a b : Nat} (ha : a ≤ S.n) (hb : b ≤ S.n) :
    Calls Try.prog 54 #[.pointer (some ⟨L.ob, 0, none⟩), .int .i64 (a : Nat), .int .i64 (b : Nat)] w fun e w' => e = .returned (.tuple #[]) ∧ At w' L ((S.setNew a b).setOld b a) ∧ Only L.own w w' := by
  have c1 := h.entc
  have k1 := h.new ha
  have f1 := h.efree (a * 5 + 4)
  have h1 := h.setNew ha b
  have c2 := h1.entc
  have k2 := h1.old (i := b) hb
  have f2 := h1.efree (b * 5 + 3)
  have h2 := h1.setOld (i := b) hb a
  have nn := h.nn
  have HO : Hid (Only L.own w ((w.setCell ⟨L.eb, a * 5 + 4, none⟩ (.int .i64 (b : Nat))).setCell ⟨L.eb, b * 5 + 3, none⟩ (.int .i64 (a : Nat)))) := Lib.hid (((Only.refl _ _).set (by simp) _).set (by simp) _)
  have H2 := Lib.hid h2
  clear h h1 h2
  simp only at c2 k2 f2
  go_enter Try.func54, Try.ntmps54
  go_wp2_with fail
  go_end0
  exact ⟨rfl, H2.out, HO.out⟩

theorem count_calls {w : World} {L : Lay} {S : Sm} (h : At w L S) :
    Calls Try.prog 35 #[.pointer (some ⟨L.ob, 0, none⟩)] w fun e w' => e = .returned (.int .i64 (S.n : Nat)) ∧ w = w' := by
  have c1 := h.entc
  have nn := h.nn
  clear h
  go_enter Try.func35, Try.ntmps35
  go_wp2_with fail
  go_ret
  exact ⟨rfl, rfl⟩

theorem behind_calls {w : World} {L : Lay} {S : Sm} (h : At w L S) {p : Nat} (hp : p < S.M) :
    Calls Try.prog 53 #[.pointer (some ⟨L.ob, 0, none⟩), .int .i64 (p : Nat)] w fun e w' => e = .returned (.int .i64 (go S.M p 1 : Nat)) ∧ w = w' := by
  have c1 := h.plc
  have hl := h.pow.le
  have E := Lib.hid (i64_next h.pow hp)
  clear h
  go_enter Try.func53, Try.ntmps53
  go_wp2_with fail
  go_ret
  exact ⟨ret_int E.out, rfl⟩

theorem way_calls {w : World} {L : Lay} {S : Sm} (h : At w L S) {f t : Nat} (hf : f < S.M) (ht : t < S.M) :
    Calls Try.prog 55 #[.pointer (some ⟨L.ob, 0, none⟩), .int .i64 (f : Nat), .int .i64 (t : Nat)] w fun e w' => e = .returned (.int .i64 (dist S.M f t : Nat)) ∧ w = w' := by
  have c1 := h.plc
  have hl := h.pow.le
  have E := Lib.hid (i64_way h.pow hf ht)
  clear h
  go_enter Try.func55, Try.ntmps55
  go_wp2_with fail
  go_ret
  exact ⟨ret_int E.out, rfl⟩

theorem home_calls {w : World} {L : Lay} {S : Sm} (h : At w L S) {s : Nat} (hs : s < 18446744073709551616) :
    Calls Try.prog 52 #[.pointer (some ⟨L.ob, 0, none⟩), .int .u64 (s : Nat)] w fun e w' => e = .returned (.int .i64 (home S.M s : Nat)) ∧ w = w' := by
  have c1 := h.plc
  have hl := h.pow.le
  have E := Lib.hid h.pow
  clear h
  go_enter Try.func52, Try.ntmps52
  go_wp2_with fail
  go_ret
  refine ⟨ret_int ?_, rfl⟩
  have hx : s ^^^ (s / 4294967296) < 2 ^ 64 := Nat.xor_lt_two_pow (by omega) (by omega)
  have e1 : bits .xor .u64 (s : Int) ((s : Int) / 4294967296) = ((s ^^^ (s / 4294967296) : Nat) : Int) := by
    rw [show ((s : Int) / 4294967296) = ((s / 4294967296 : Nat) : Int) by omega]
    exact bits_xor_u64_nat s (s / 4294967296) hs (by omega)
  rw [e1, u64_mask E.out _ (by omega)]
  have hlt := Nat.mod_lt (s ^^^ (s / 4294967296)) (show S.M > 0 by omega)
  unfold home
  generalize (s ^^^ (s / 4294967296)) % S.M = x at hlt
  unfold wrap64
  omega

theorem home_lt {M : Nat} (h : Pow M) (s : Nat) : home M s < M := Nat.mod_lt _ (by have := h.le; omega)

theorem str_eq {x y : ByteArray} (h : x = y) : (x.toList == y.toList) = true := by rw [h]; exact beq_self_eq_true _
theorem str_ne {x y : ByteArray} (h : ¬ x = y) : (x.toList == y.toList) = false := beq_eq_false_iff_ne.2 (fun e => h (by
  rw [ByteArray.toList_eq, ByteArray.toList_eq] at e
  exact ByteArray.ext (Array.toList_inj.1 e)))
theorem nz_eq (i : Nat) : ((i : Int) != 0) = decide (i ≠ 0) := by
  by_cases h : i = 0
  · subst h; rfl
  · have h2 : ((i : Int) == 0) = false := beq_eq_false_iff_ne.2 (by omega)
    simp [bne, h2, h]
theorem value_calls {w : World} {L : Lay} {S : Sm} (h : At w L S) {i : Nat} (hi : i ≤ S.n) :
    Calls Try.prog 40 #[.pointer (some ⟨L.ob, 0, none⟩), .int .i64 (i : Nat)] w fun e w' => e = .returned (.tuple #[.int .i64 (S.val i), .bool (decide (i ≠ 0))]) ∧ w = w' := by
  have c1 := h.entc
  have c2 := h.val hi
  have nn := h.nn
  clear h
  go_enter Try.func40, Try.ntmps40
  go_wp2_with fail
  go_ret2
  exact ⟨congrArg (fun b => Ending.returned (.tuple #[.int .i64 (S.val i), .bool b])) (nz_eq i), rfl⟩

/-- a search goes on -/
def SeekR (w : World) (M : Nat) (P : Nat → Nat) (Mt : Nat → Prop) (h D g : Nat) (v : Value) (wr : World) : Prop :=
  ∃ d, d + g = D ∧ v = .int .i64 (go M h d : Nat) ∧ wr = w ∧ ∀ e, e < d → P (go M h e) ≠ 0 ∧ ¬ Mt (P (go M h e))

theorem seek_any {w : World} {L : Lay} {S : Sm} (h : At w L S) (key : ByteArray) {s : Nat} (hs : s < 18446744073709551616) (hp : ∀ p, p < S.M → S.pl p ≤ S.n) {q : Nat} (hq : q < S.M) (hq0 : S.pl q = 0) :
    Calls Try.prog 45 #[.pointer (some ⟨L.ob, 0, none⟩), .string key, .int .u64 (s : Nat)] w fun e w' => ∃ p, Found S.M S.pl (fun i => S.sm i = s ∧ S.key i = key) (home S.M s) p ∧ e = .returned (.int .i64 (p : Nat)) ∧ w = w' := by
  have c1 := h.entc
  have c2 := h.plc
  have nn := h.nn
  have hl := h.pow.le
  have hh := home_lt h.pow s
  have HA := Lib.hid h
  clear h
  go_enter Try.func45, Try.ntmps45
  go_wp2_with fail
  go_step3
  go_wp2_with fail
  refine (home_calls HA.out hs).mono ?_
  rintro e w1 ⟨rfl, rfl⟩
  go_wp2_with fail
  go_step3
  go_wp2_with fail
  go_loopg [7, 8] (dist S.M (home S.M s) q) (fun g v _ wr => SeekR w S.M S.pl (fun i => S.sm i = s ∧ S.key i = key) (home S.M s) (dist S.M (home S.M s) q) g v wr)
  case atStart => exact ⟨0, by omega, by rw [go_zero hh], rfl, fun e he => absurd he (by omega)⟩
  case round =>
    obtain ⟨d, hd, rfl, rfl, hb⟩ := hrel
    have hql := dist_lt hh hq
    have hgq := go_dist hh hq
    have hpM : go S.M (home S.M s) d < S.M := go_lt hh (by omega)
    have HB := Lib.hid hb
    have HG := Lib.hid hgq
    have HD := Lib.hid (show ¬ S.pl (go S.M (home S.M s) d) = 0 → d + 1 ≤ dist S.M (home S.M s) q from fun hz => by
      have : d ≠ dist S.M (home S.M s) q := fun e => hz (by rw [e, hgq]; exact hq0)
      omega)
    have HE := Lib.hid (show ¬ S.pl (go S.M (home S.M s) d) = 0 → go S.M (go S.M (home S.M s) d) 1 = go S.M (home S.M s) (d + 1) from fun hz => go_go hh (by have := HD.out hz; omega))
    have HF := Lib.hid (show (S.pl (go S.M (home S.M s) d) = 0 ∨ (S.sm (S.pl (go S.M (home S.M s) d)) = s ∧ S.key (S.pl (go S.M (home S.M s) d)) = key)) → Found S.M S.pl (fun i => S.sm i = s ∧ S.key i = key) (home S.M s) (go S.M (home S.M s) d) from fun ho => ⟨d, by omega, rfl, ho, hb⟩)
    have HS := Lib.hid (show ¬ S.pl (go S.M (home S.M s) d) = 0 → ¬ (S.sm (S.pl (go S.M (home S.M s) d)) = s ∧ S.key (S.pl (go S.M (home S.M s) d)) = key) → ∀ e, e < d + 1 → S.pl (go S.M (home S.M s) e) ≠ 0 ∧ ¬ (S.sm (S.pl (go S.M (home S.M s) e)) = s ∧ S.key (S.pl (go S.M (home S.M s) e)) = key) from fun hz hm e he => by
      by_cases h1 : e = d
      · rw [h1]; exact ⟨hz, hm⟩
      · exact hb e (by omega))
    have c3 := HA.out.pl hpM
    have hpn := hp _ hpM
    clear hb hgq hp hq0 hq
    generalize hP : go S.M (home S.M s) d = p at c3 hpM hpn HD HE HF HS ⊢
    have HP := Lib.hid hP
    clear hP
    by_cases hz : S.pl p = 0
    · have t1 : ((S.pl p : Int) == 0) = true := by rw [hz]; rfl
      have HZ := Lib.hid hz
      clear hz
      go_wp2_with fail
      go_ret
      exact ⟨p, HF.out (.inl HZ.out), rfl, rfl⟩
    · have t1 : ((S.pl p : Int) == 0) = false := beq_eq_false_iff_ne.2 (by omega)
      have HZ := Lib.hid hz
      clear hz
      have c4 := HA.out.sm hpn
      have c5 := HA.out.key hpn
      by_cases hs1 : S.sm (S.pl p) = s
      · by_cases hk1 : S.key (S.pl p) = key
        · have t2 : ((S.sm (S.pl p) : Int) == (s : Int)) = true := by rw [hs1]; exact beq_self_eq_true _
          have t3 := str_eq hk1
          have HQ := Lib.hid (And.intro hs1 hk1)
          clear hs1 hk1
          go_wp2_with fail
          go_ret
          exact ⟨p, HF.out (.inr HQ.out), rfl, rfl⟩
        · have t2 : ((S.sm (S.pl p) : Int) == (s : Int)) = true := by rw [hs1]; exact beq_self_eq_true _
          have t3 := str_ne hk1
          have HQ := Lib.hid (show ¬ (S.sm (S.pl p) = s ∧ S.key (S.pl p) = key) from fun h => hk1 h.2)
          clear hs1 hk1
          go_wp2_with fail
          refine (behind_calls HA.out hpM).mono ?_
          rintro e w1 ⟨rfl, rfl⟩
          go_wp2_with fail
          go_roundg (gk - 1)
          case rel => exact ⟨d + 1, by have := HD.out HZ.out; omega, by rw [HE.out HZ.out], rfl, HS.out HZ.out HQ.out⟩
          case measure => have := HD.out HZ.out; omega
      · have t2 : ((S.sm (S.pl p) : Int) == (s : Int)) = false := beq_eq_false_iff_ne.2 (by omega)
        have HQ := Lib.hid (show ¬ (S.sm (S.pl p) = s ∧ S.key (S.pl p) = key) from fun h => hs1 h.1)
        clear hs1
        go_wp2_with fail
        refine (behind_calls HA.out hpM).mono ?_
        rintro e w1 ⟨rfl, rfl⟩
        go_wp2_with fail
        go_roundg (gk - 1)
        case rel => exact ⟨d + 1, by have := HD.out HZ.out; omega, by rw [HE.out HZ.out], rfl, HS.out HZ.out HQ.out⟩
        case measure => have := HD.out HZ.out; omega

theorem seek_calls {w : World} {L : Lay} {S : Sm} (h : At w L S) (key : ByteArray) {s : Nat} (hs : s < 18446744073709551616) (hp : ∀ p, p < S.M → S.pl p ≤ S.n) (hq : ∃ q, q < S.M ∧ S.pl q = 0) {p : Nat} (hf : Found S.M S.pl (fun i => S.sm i = s ∧ S.key i = key) (home S.M s) p) :
    Calls Try.prog 45 #[.pointer (some ⟨L.ob, 0, none⟩), .string key, .int .u64 (s : Nat)] w fun e w' => e = .returned (.int .i64 (p : Nat)) ∧ w = w' := by
  obtain ⟨q, hq, hq0⟩ := hq
  refine (seek_any h key hs hp hq hq0).mono ?_
  rintro e w1 ⟨r, hr, rfl, rfl⟩
  rw [hf.unique hr]
  exact ⟨rfl, rfl⟩

end Go.Proofs.Ytdnaecmihgcelaa.Tb
