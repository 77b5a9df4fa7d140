/-
  What the document's own Parse and Upto answer, in any world.
-/
import Derived.Test.YtlgdalgbonlelaaDigRef
namespace Go.Proofs.Ytlgdalgbonlelaa
open Go.RowKit
namespace Dg

/-- what is read so far by the document's loop -/
def RpInv (l : List UInt8) (a : Int) : Prop := -9223372036854775808 ≤ a ∧ a ≤ 9223372036854775807 ∧ a = wrap64 (val (body l))

def RefParses (s : List UInt8) (w : World) (e : Ending) (w' : World) : Prop :=
  (∃ c : Int, e = .returned (.tuple #[.int .i64 c, .bool (num? s).isSome]) ∧ -9223372036854775808 ≤ c ∧ c ≤ 9223372036854775807 ∧ (∀ n, num? s = some n → c = n)) ∧ Below w.heap.size w w'

theorem body_snoc (l : List UInt8) (c : UInt8) (h : l = [] → c ≠ 45) : body (l ++ [c]) = body l ++ [c] := by
  cases l with
  | nil => simp [body, h rfl]
  | cons x l =>
    by_cases hx : x = 45
    · simp [body, hx]
    · simp [body, hx]
theorem rp_nil : RpInv [] 0 := ⟨by omega, by omega, by unfold wrap64; simp [val, body]⟩
theorem rp_minus {a : Int} (h : RpInv [] a) : RpInv [45] a := h
theorem rp_step {l : List UInt8} {a : Int} (c : UInt8) (h : RpInv l a) (hc : l = [] → c ≠ 45) : RpInv (l ++ [c]) (wrap64 (wrap64 (wrap64 (10 * a) + (c.toNat : Int)) - 48)) := by
  refine ⟨(wrap64_bd _).1, (wrap64_bd _).2, ?_⟩
  rw [body_snoc l c hc, val_snoc, h.2.2]
  generalize val (body l) = v
  unfold wrap64
  omega
theorem rp_neg {s : List UInt8} {a n : Int} (h : RpInv s a) (hg : neg s = true) (hn : num? s = some n) : wrap64 (-a) = n := by
  obtain ⟨h1, h2, h3⟩ := num_some hn
  subst h3
  rw [neg_txt] at hg
  simp at hg
  have ha := h.2.2
  rw [body_txt, val_dec] at ha
  subst ha
  unfold wrap64; omega
theorem rp_pos {s : List UInt8} {a n : Int} (h : RpInv s a) (hg : neg s = false) (hn : num? s = some n) : a = n := by
  obtain ⟨h1, h2, h3⟩ := num_some hn
  subst h3
  rw [neg_txt] at hg
  simp at hg
  have ha := h.2.2
  rw [body_txt, val_dec] at ha
  subst ha
  unfold wrap64; omega
theorem rp_not {s : List UInt8} (p q : List UInt8) (c : UInt8) (h : s = p ++ c :: q) (hp : p = [] → c ≠ 45) (hc : isD c = false) : num? s = none := by
  cases hn : num? s with
  | none => rfl
  | some n =>
    exfalso
    obtain ⟨h1, h2, h3⟩ := num_some hn
    have hb : c ∈ body s := by
      rw [h]
      cases p with
      | nil => simp [body, hp rfl]
      | cons x p =>
        by_cases hx : x = 45
        · simp [body, hx]
        · simp [body, hx]
    rw [← h3, body_txt] at hb
    have := dec_all _ _ hb
    rw [hc] at this; cases this
theorem rp_end (s : ByteArray) {r : Int} (h1 : -9223372036854775808 ≤ r) (h2 : r ≤ 9223372036854775807) (h : ∀ n, num? s.data.toList = some n → r = n) : (txt r == s.toList) = (num? s.data.toList).isSome := by
  rw [Lib.toList_data]
  cases hn : num? s.data.toList with
  | none => simpa using num_none hn r h1 h2
  | some n => have := h n hn; subst this; simpa using (num_some hn).2.2
theorem split_at (s : ByteArray) (k : Nat) (h : k < s.size) : s.data.toList = s.data.toList.take k ++ s[k] :: s.data.toList.drop (k + 1) := by
  have e := List.take_append_drop (k + 1) s.data.toList
  rw [take_one s k h] at e
  rw [List.append_assoc] at e
  exact e.symm
theorem take_nil (s : ByteArray) (k : Nat) (h : k < s.size) (e : s.data.toList.take k = []) : k = 0 := by
  have := congrArg List.length e
  simp at this
  rcases this with h' | h'
  · exact h'
  · rw [show s.size = s.data.size from rfl, h'] at h; simp at h
theorem notD_lt (c : UInt8) (h : (c.toNat : Int) < 48) : isD c = false := by unfold isD; simp; omega
theorem notD_gt (c : UInt8) (h : 57 < (c.toNat : Int)) : isD c = false := by unfold isD; simp; omega

set_option maxHeartbeats 1000000 in
theorem refparse_neg (s : ByteArray) (w : World) (hs : s.size ≤ 20) (h0 : 1 ≤ s.size) (h45 : ((s[0].toNat : Int) == 45) = true) :
    Calls Try.prog 14 #[.string s] w (RefParses s.data.toList w) := by
  have hc0 := head_cons s (by omega)
  have a2 : s[0] = 45 := UInt8.toNat_inj.1 (by have := beq_iff_eq.1 h45; show s[0].toNat = 45; omega)
  rw [a2] at hc0
  have HC := Lib.hid hc0
  clear a2 hc0
  go_enter Try.func14, Try.ntmps14
  go_wp2_with fail
  go_loop [4, 5] (fun nv i => ∃ (k : Nat) (a : Int), k ≤ s.size ∧ i = .int .i64 k ∧ nv = .int .i64 a ∧ RpInv (s.data.toList.take k) a) (fun _ i => s.size - (intOf i).toNat)
  case atStart => exact ⟨0, 0, by omega, rfl, rfl, rp_nil⟩
  case round =>
    obtain ⟨k, a, hk, rfl, rfl, hinv⟩ := hrel
    have hi1 := hinv.1
    have hi2 := hinv.2.1
    by_cases hlt : k < s.size
    · by_cases hk0 : k = 0
      · subst hk0
        go_wp2
        refine ⟨⟨1, a, by omega, rfl, rfl, ?_⟩, by simp [intOf]; omega⟩
        rw [HC.out]
        exact hinv
      · have hk1 : ((k : Int) == 0) = false := beq_eq_false_iff_ne.2 (by omega)
        by_cases hd1 : (s[k].toNat : Int) < 48
        · have N := Lib.hid (rp_not _ _ _ (split_at s k hlt) (fun e => absurd (take_nil s k hlt e) hk0) (notD_lt _ hd1))
          go_wp2
          go_ret2
          exact ⟨⟨0, by rw [N.out]; rfl, by omega, by omega, fun n hn => by rw [N.out] at hn; cases hn⟩, Below.refl _ _⟩
        · by_cases hd2 : 57 < (s[k].toNat : Int)
          · have N := Lib.hid (rp_not _ _ _ (split_at s k hlt) (fun e => absurd (take_nil s k hlt e) hk0) (notD_gt _ hd2))
            go_wp2
            go_ret2
            exact ⟨⟨0, by rw [N.out]; rfl, by omega, by omega, fun n hn => by rw [N.out] at hn; cases hn⟩, Below.refl _ _⟩
          · go_wp2
            refine ⟨⟨k + 1, _, by omega, by go_num, rfl, ?_⟩, by simp [intOf]; omega⟩
            rw [take_one s k hlt]
            exact rp_step _ hinv (fun e => absurd (take_nil s k hlt e) hk0)
    · have R : ∀ n, num? s.data.toList = some n → wrap64 (-a) = n := fun n hn => by
        rw [List.take_of_length_le (by simp; have : s.data.size = s.size := rfl; omega)] at hinv
        exact rp_neg hinv (by rw [HC.out]; rfl) hn
      have HR := Lib.hid R
      clear R
      have hb := wrap64_bd (-a)
      go_wp2_with fail
      refine (refprint (wrap64 (-a)) _ hb.1 hb.2).mono ?_
      rintro e w1 ⟨rfl, hb1⟩
      have E := Lib.hid (rp_end s hb.1 hb.2 HR.out)
      go_wp2
      go_ret2
      exact ⟨⟨_, by rw [← E.out]; rfl, hb.1, hb.2, HR.out⟩, hb1⟩

set_option maxHeartbeats 1000000 in
theorem refparse_pos (s : ByteArray) (w : World) (hs : s.size ≤ 20) (h0 : 1 ≤ s.size) (h45 : ((s[0].toNat : Int) == 45) = false) :
    Calls Try.prog 14 #[.string s] w (RefParses s.data.toList w) := by
  have a1 : s[0] ≠ 45 := fun h => by rw [h] at h45; revert h45; decide
  have HC := Lib.hid (show neg s.data.toList = false by rw [head_cons s (by omega)]; exact beq_eq_false_iff_ne.2 a1)
  have HA := Lib.hid a1
  clear a1
  go_enter Try.func14, Try.ntmps14
  go_wp2_with fail
  go_loop [4, 5] (fun nv i => ∃ (k : Nat) (a : Int), k ≤ s.size ∧ i = .int .i64 k ∧ nv = .int .i64 a ∧ RpInv (s.data.toList.take k) a) (fun _ i => s.size - (intOf i).toNat)
  case atStart => exact ⟨0, 0, by omega, rfl, rfl, rp_nil⟩
  case round =>
    obtain ⟨k, a, hk, rfl, rfl, hinv⟩ := hrel
    have hi1 := hinv.1
    have hi2 := hinv.2.1
    by_cases hlt : k < s.size
    · have hp : s.data.toList.take k = [] → s[k] ≠ 45 := fun e => by
        obtain rfl := take_nil s k hlt e
        exact HA.out
      have HP := Lib.hid hp
      clear hp
      cases hk0 : ((k : Int) == 0)
      all_goals
        by_cases hd1 : (s[k].toNat : Int) < 48
        · have N := Lib.hid (rp_not _ _ _ (split_at s k hlt) HP.out (notD_lt _ hd1))
          go_wp2
          go_ret2
          exact ⟨⟨0, by rw [N.out]; rfl, by omega, by omega, fun n hn => by rw [N.out] at hn; cases hn⟩, Below.refl _ _⟩
        · by_cases hd2 : 57 < (s[k].toNat : Int)
          · have N := Lib.hid (rp_not _ _ _ (split_at s k hlt) HP.out (notD_gt _ hd2))
            go_wp2
            go_ret2
            exact ⟨⟨0, by rw [N.out]; rfl, by omega, by omega, fun n hn => by rw [N.out] at hn; cases hn⟩, Below.refl _ _⟩
          · go_wp2
            refine ⟨⟨k + 1, _, by omega, by go_num, rfl, ?_⟩, by simp [intOf]; omega⟩
            rw [take_one s k hlt]
            exact rp_step _ hinv HP.out
    · have R : ∀ n, num? s.data.toList = some n → a = n := fun n hn => by
        rw [List.take_of_length_le (by simp; have : s.data.size = s.size := rfl; omega)] at hinv
        exact rp_pos hinv HC.out hn
      have HR := Lib.hid R
      clear R
      have hb : -9223372036854775808 ≤ a ∧ a ≤ 9223372036854775807 := ⟨hi1, hi2⟩
      go_wp2_with fail
      refine (refprint (a) _ hb.1 hb.2).mono ?_
      rintro e w1 ⟨rfl, hb1⟩
      have E := Lib.hid (rp_end s hb.1 hb.2 HR.out)
      go_wp2
      go_ret2
      exact ⟨⟨_, by rw [← E.out]; rfl, hb.1, hb.2, HR.out⟩, hb1⟩

set_option maxHeartbeats 400000 in
theorem refparse_out (s : ByteArray) (w : World) (h : s.size < 1 ∨ 20 < s.size) :
    Calls Try.prog 14 #[.string s] w (RefParses s.data.toList w) := by
  have N := Lib.hid (show num? s.data.toList = none by
    cases hn : num? s.data.toList with
    | none => rfl
    | some n =>
      obtain ⟨h1, h2, h3⟩ := num_some hn
      have hl := txt_len n h1 h2
      rw [h3] at hl
      have : s.data.toList.length = s.size := rfl
      omega)
  rcases h with h | h
  all_goals
    go_enter Try.func14, Try.ntmps14
    go_wp2
    go_ret2
    exact ⟨⟨0, by rw [N.out]; rfl, by omega, by omega, fun n hn => by rw [N.out] at hn; cases hn⟩, Below.refl _ _⟩

theorem refparse (s : ByteArray) (w : World) :
    Calls Try.prog 14 #[.string s] w (RefParses s.data.toList w) := by
  by_cases h1 : s.size < 1
  · exact refparse_out s w (Or.inl h1)
  · by_cases h2 : 20 < s.size
    · exact refparse_out s w (Or.inr h2)
    · have h0 : 1 ≤ s.size := by omega
      cases h : ((s[0].toNat : Int) == 45) with
      | true => exact refparse_neg s w (by omega) h0 h
      | false => exact refparse_pos s w (by omega) h0 h

theorem refparse_some (s : ByteArray) (w : World) (n : Int) (h : num? s.data.toList = some n) :
    Calls Try.prog 14 #[.string s] w fun e w' => e = .returned (.tuple #[.int .i64 n, .bool true]) ∧ Below w.heap.size w w' :=
  (refparse s w).mono fun e w' ⟨⟨c, he, _, _, hc⟩, hb⟩ => ⟨by rw [he, h, hc n h]; rfl, hb⟩
theorem refparse_none (s : ByteArray) (w : World) (h : num? s.data.toList = none) :
    Calls Try.prog 14 #[.string s] w fun e w' => ∃ c : Int, (e = .returned (.tuple #[.int .i64 c, .bool false]) ∧ -9223372036854775808 ≤ c ∧ c ≤ 9223372036854775807) ∧ Below w.heap.size w w' :=
  (refparse s w).mono fun e w' ⟨⟨c, he, h1, h2, _⟩, hb⟩ => ⟨c, ⟨by rw [he, h]; rfl, h1, h2⟩, hb⟩

set_option maxHeartbeats 400000 in
theorem refupto (s : ByteArray) (a b : Int) (w : World) :
    Calls Try.prog 16 #[.string s, .int .i64 a, .int .i64 b] w fun e w' => e = told (upto? s.data.toList a b) ∧ Below w.heap.size w w' := by
  cases h : num? s.data.toList with
  | some n =>
    have H := Lib.hid h
    clear h
    by_cases h1 : n < a
    · have E := Lib.hid (upto_out (b := b) H.out (Or.inl h1))
      go_enter Try.func16, Try.ntmps16
      go_wp2_with fail
      refine (refparse_some s _ n H.out).mono ?_
      rintro e w1 ⟨rfl, hb⟩
      go_wp2
      go_ret2
      rw [E.out]
      exact ⟨rfl, hb⟩
    · by_cases h2 : b < n
      · have E := Lib.hid (upto_out (a := a) H.out (Or.inr h2))
        go_enter Try.func16, Try.ntmps16
        go_wp2_with fail
        refine (refparse_some s _ n H.out).mono ?_
        rintro e w1 ⟨rfl, hb⟩
        go_wp2
        go_ret2
        rw [E.out]
        exact ⟨rfl, hb⟩
      · have E := Lib.hid (upto_in (a := a) (b := b) H.out (by omega) (by omega))
        go_enter Try.func16, Try.ntmps16
        go_wp2_with fail
        refine (refparse_some s _ n H.out).mono ?_
        rintro e w1 ⟨rfl, hb⟩
        go_wp2
        go_ret2
        rw [E.out]
        exact ⟨rfl, hb⟩
  | none =>
    have E := Lib.hid (upto_no (a := a) (b := b) h)
    have H := Lib.hid h
    clear h
    go_enter Try.func16, Try.ntmps16
    go_wp2_with fail
    refine (refparse_none s _ H.out).mono ?_
    rintro e w1 ⟨c, ⟨rfl, hc1, hc2⟩, hb⟩
    go_wp2
    go_ret2
    rw [E.out]
    exact ⟨rfl, hb⟩

end Dg
end Go.Proofs.Ytlgdalgbonlelaa
