/-
  What the document's own Clamp, Get and Next (of a ledger) answer, in any world.
-/
import Derived.Test.YtplinlgafgfepaaLedRfA
namespace Go.Proofs.Ytplinlgafgfepaa.Ld
open Go.RowKit
namespace Pr

theorem rclamp_calls (t : Int) (w : World) : Calls Try.prog 38 #[.int .i64 t] w fun e w' => e = .returned (.int .i64 (clip t : Nat)) ∧ w = w' := by
  by_cases h1 : t < 0
  · have E := Lib.hid (show ((clip t : Nat) : Int) = 0 by unfold clip; rw [if_pos h1]; rfl)
    go_enter Try.func38, Try.ntmps38
    go_wp2
    go_ret
    exact ⟨by rw [E.out]; rfl, rfl⟩
  · by_cases h2 : t > 9007199254740992
    · have E := Lib.hid (show ((clip t : Nat) : Int) = 9007199254740992 by unfold clip; rw [if_neg h1, if_pos h2]; rfl)
      go_enter Try.func38, Try.ntmps38
      go_wp2
      go_ret
      exact ⟨by rw [E.out]; rfl, rfl⟩
    · have E := Lib.hid (clip_mid (Int.not_lt.1 h1) (Int.not_lt.1 h2))
      go_enter Try.func38, Try.ntmps38
      go_wp2
      go_ret
      exact ⟨by rw [E.out]; rfl, rfl⟩

/-- none of those looked at so far -/
def Past (l : LL Sl) (id : Int) (k : Nat) : Prop := ∀ e ∈ l.take k, ¬ (e.1 : Int) = id
theorem Past.zero (l : LL Sl) (id : Int) : Past l id 0 := fun e he => by simp at he
theorem Past.succ {l : LL Sl} {id : Int} {k : Nat} (h : Past l id k) (hk : k < l.length) (hx : ¬ (l[k].1 : Int) = id) : Past l id (k + 1) := fun e he => by
  rw [List.take_succ_eq_append_getElem hk] at he
  rcases List.mem_append.1 he with he | he
  · exact h e he
  · simp only [List.mem_singleton] at he; subst he; exact hx
theorem Past.none {l : LL Sl} {id : Int} {k : Nat} (h : Past l id k) (hk : l.length ≤ k) : getO l id = none := by
  rw [getO_none]
  intro e he
  exact h e (by rw [List.take_of_length_le hk]; exact he)
theorem Past.found {l : LL Sl} {id : Int} {k : Nat} (h : Past l id k) (hk : k < l.length) (hx : (l[k].1 : Int) = id) : getO l id = some l[k] := by
  have h0 : l.find? (fun x => decide ((x.1 : Int) = id)) = (l.take k ++ l.drop k).find? (fun x => decide ((x.1 : Int) = id)) := by rw [List.take_append_drop]
  unfold getO
  rw [h0, List.find?_append, List.drop_eq_getElem_cons hk]
  have h1 : (l.take k).find? (fun x => decide ((x.1 : Int) = id)) = Option.none := List.find?_eq_none.2 fun e he => by simpa using h e he
  rw [h1, List.find?_cons]
  simp [hx]
abbrev zbox : Obj := .cells #[.int .i64 0, .int .i64 0, .slice none 0 0] 38
theorem two_boxes (w : World) (o : Obj) (t : TypeId) (cs : Array Value) : Below w.heap.size w ((w.alloc o).alloc (.cells cs t)) ∧ Box ((w.alloc o).alloc (.cells cs t)) (w.heap.size + 1) t cs :=
  ⟨((Below.refl _ _).alloc (Nat.le_refl _) _).alloc (by simp) _, Box.new1 _ _ _ _⟩

set_option maxHeartbeats 1000000 in
theorem rget_calls (l : LL Sl) (A : Option Addr) (n cap last : Nat) (id : Int) (w : World) (hn : n = l.length) (hA : Ents w A l) (hl : l.length ≤ 10000) :
    Calls Try.prog 15 #[tv A n cap last, .int .i64 id] w fun e w' => e = .returned (.tuple #[ev (oe (getO l id)), .bool (getO l id).isSome]) ∧ Below w.heap.size w w' := by
  subst hn
  obtain ⟨hb, hz⟩ := two_boxes w (tbox A l.length cap last) 38 #[.int .i64 0, .int .i64 0, .slice none 0 0]
  have HA := Lib.hid (hA.keep hb)
  clear hA hb hz
  go_enter Try.func15, Try.ntmps15
  go_wp2_with fail
  go_loopw [6] (fun i wr => ∃ k : Nat, k ≤ l.length ∧ i = .int .i64 (k : Nat) ∧ wr = (w.alloc (tbox A l.length cap last)).alloc zbox ∧ Hid (Past l id k)) (fun i _ => l.length - (intOf i).toNat)
  case atStart => exact ⟨0, Nat.zero_le _, rfl, rfl, Past.zero _ _⟩
  case round =>
    obtain ⟨k, hk, rfl, rfl, HP⟩ := hrel
    by_cases hlt : k < l.length
    · obtain ⟨a, rfl, c0, c1, c2⟩ := HA.out.at_ hlt
      by_cases hx : (l[k].1 : Int) = id
      · have tq : ((l[k].1 : Int) == id) = true := beq_iff_eq.2 hx
        have F := Lib.hid (Past.found HP hlt hx)
        clear hx
        go_wp2_with fail
        refine ret_d2 Try.results15 rfl rfl rfl (two_boxes w _ _ _).2 ?_
        rw [F.out]
        exact ⟨rfl, (two_boxes w _ _ _).1⟩
      · have tq : ((l[k].1 : Int) == id) = false := beq_eq_false_iff_ne.2 hx
        have HP2 := Lib.hid (Past.succ HP hlt hx)
        clear hx
        go_wp2_with fail
        go_roundw
        case rel => exact ⟨k + 1, by omega, by go_num, by first | rfl | trivial, HP2.out⟩
        case measure => simp [intOf]; omega
    · have F := Lib.hid (Past.none HP (by omega))
      go_wp2_with fail
      refine ret_d2 Try.results15 rfl rfl rfl (two_boxes w _ _ _).2 ?_
      rw [F.out]
      exact ⟨rfl, (two_boxes w _ _ _).1⟩

/-- the best of those looked at so far -/
def Best (l : LL Sl) (b : Int) (k : Nat) : Prop := k = 0 ∧ b = -1 ∨ ∃ (m : Nat) (h : m < l.length), m < k ∧ b = (m : Nat) ∧ ∀ j (hj : j < l.length), j < k → j ≠ m → Lt l[m] l[j]
theorem Best.zero (l : LL Sl) : Best l (-1) 0 := .inl ⟨rfl, rfl⟩
theorem Best.first {l : LL Sl} (h : 0 < l.length) : Best l 0 1 := .inr ⟨0, h, by decide, rfl, fun j _ h1 h2 => absurd h1 (by omega)⟩
theorem Best.stay {l : LL Sl} {last m k : Nat} (hg : Good last l) (h : Best l (m : Nat) k) (hk : k < l.length) (hm : m < l.length) (ht : ¬ l[k].2.1 < l[m].2.1) : Best l (m : Nat) (k + 1) := by
  rcases h with ⟨_, h⟩ | ⟨m', h1, h2, h3, h4⟩
  · omega
  obtain rfl : m = m' := by omega
  refine .inr ⟨m, h1, by omega, rfl, fun j hj h5 h6 => ?_⟩
  by_cases e : j = k
  · subst e
    have := List.pairwise_iff_getElem.1 hg.rise m j h1 hj h2
    unfold Lt; omega
  · exact h4 j hj (by omega) h6
theorem Best.turn {l : LL Sl} {m k : Nat} (h : Best l (m : Nat) k) (hk : k < l.length) (hm : m < l.length) (ht : l[k].2.1 < l[m].2.1) : Best l (k : Nat) (k + 1) := by
  rcases h with ⟨_, h⟩ | ⟨m', h1, h2, h3, h4⟩
  · omega
  obtain rfl : m = m' := by omega
  refine .inr ⟨k, hk, by omega, rfl, fun j hj h5 h6 => ?_⟩
  have h7 : Lt l[k] l[m] := .inl ht
  by_cases e : j = m
  · subst e; exact h7
  · exact h7.trans (h4 j hj (by omega) e)
theorem Best.done {l : LL Sl} {last m : Nat} (hg : Good last l) (h : Best l (m : Nat) l.length) (hm : m < l.length) : nxt l = some l[m] := by
  rcases h with ⟨_, h⟩ | ⟨m', h1, h2, h3, h4⟩
  · omega
  obtain rfl : m = m' := by omega
  refine (nxt_some hg).2 ⟨List.getElem_mem hm, fun y hy hne => ?_⟩
  obtain ⟨j, hj, rfl⟩ := List.mem_iff_getElem.1 hy
  exact h4 j hj hj (fun e => hne (by subst e; rfl))
theorem Best.form {l : LL Sl} {b : Int} {k : Nat} (h : Best l b k) : k = 0 ∧ b = -1 ∨ ∃ m : Nat, m < l.length ∧ m < k ∧ b = (m : Nat) := h.imp id fun ⟨m, h1, h2, h3, _⟩ => ⟨m, h1, h2, h3⟩

set_option maxHeartbeats 2000000 in
theorem rnext_calls (l : LL Sl) (A : Option Addr) (n cap last : Nat) (w : World) (hn : n = l.length) (hA : Ents w A l) (hg : Good last l) :
    Calls Try.prog 17 #[tv A n cap last] w fun e w' => e = .returned (.tuple #[ev (oe (nxt l)), .bool (nxt l).isSome]) ∧ Below w.heap.size w w' := by
  have hl : l.length ≤ 1000 := hg.few
  have HG := Lib.hid hg
  subst hn
  obtain ⟨hb, hz⟩ := two_boxes w (tbox A l.length cap last) 38 #[.int .i64 0, .int .i64 0, .slice none 0 0]
  have HB := Lib.hid hb
  have HZ := Lib.hid hz
  have HA := Lib.hid (hA.keep hb)
  clear hA hb hz hg
  go_enter Try.func17, Try.ntmps17
  go_wp2_with fail
  go_loopw [4, 5] (fun b i wr => ∃ (k n : Nat) (z : Int), k ≤ l.length ∧ i = .int .i64 (k : Nat) ∧ b = .int .i64 z ∧ wr = ((w.alloc (tbox A l.length cap last)).alloc zbox).drewN n ∧ Hid (Best l z k)) (fun _ i _ => l.length - (intOf i).toNat)
  case atStart => exact ⟨0, 0, -1, Nat.zero_le _, rfl, rfl, rfl, Best.zero _⟩
  case round =>
    obtain ⟨k, n, z, hk, rfl, rfl, rfl, HP⟩ := hrel
    rcases HP.form with ⟨rfl, rfl⟩ | ⟨m, hm, hmk, rfl⟩
    · by_cases hlt : 0 < l.length
      · obtain ⟨a, rfl, c0, c1, c2⟩ := HA.out.at_ hlt
        have HP2 := Lib.hid (Best.first hlt)
        have i1 : (0 : Int) < (l.length : Int) := by omega
        have i2 : ((-1 : Int) < 0) := by decide
        go_wp2_with fail
        go_quiet (fail)
        go_wp2_with fail
        go_roundw
        case rel => exact ⟨1, n + nq, 0, by omega, rfl, rfl, rfl, HP2.out⟩
        case measure => simp [intOf]; omega
      · obtain rfl : l = [] := List.eq_nil_of_length_eq_zero (by omega)
        go_wp2_with fail
        refine ret_d2 Try.results17 rfl rfl rfl (Box.set3 (HZ.out.drewN n) _ _ _) ?_
        exact ⟨rfl, below_set3 (below_drewN HB.out n) (by omega) _ _ _⟩
    · have i3 : ¬ ((m : Int) < 0) := by omega
      have i4 : decide ((m : Int) < 0) = false := decide_eq_false i3
      by_cases hlt : k < l.length
      · obtain ⟨a, rfl, c0, c1, c2⟩ := HA.out.at_ hlt
        obtain ⟨a', ea, d0, d1, d2⟩ := HA.out.at_ hm
        injection ea with ea
        subst ea
        have i1 : (k : Int) < (l.length : Int) := by omega
        have i2 : (m : Int) < (l.length : Int) := by omega
        by_cases ht : l[k].2.1 < l[m].2.1
        · have HP2 := Lib.hid (Best.turn HP hlt hm ht)
          have tq : (l[k].2.1 : Int) < (l[m].2.1 : Int) := by omega
          clear ht
          go_wp2_with fail
          go_quiet (fail)
          go_wp2_with fail
          go_roundw
          case rel => exact ⟨k + 1, n + nq, (k : Nat), by omega, by go_num, rfl, rfl, HP2.out⟩
          case measure => simp [intOf]; omega
        · have HP2 := Lib.hid (Best.stay HG.out HP hlt hm ht)
          have tq : ¬ (l[k].2.1 : Int) < (l[m].2.1 : Int) := by omega
          have tq2 : decide ((l[k].2.1 : Int) < (l[m].2.1 : Int)) = false := decide_eq_false tq
          clear ht
          go_wp2_with fail
          go_quiet (fail)
          go_wp2_with fail
          go_roundw
          case rel => exact ⟨k + 1, n + nq, (m : Nat), by omega, by go_num, rfl, rfl, HP2.out⟩
          case measure => simp [intOf]; omega
      · obtain rfl : k = l.length := by omega
        have F := Lib.hid (Best.done HG.out HP hm)
        obtain ⟨a, rfl, c0, c1, c2⟩ := HA.out.at_ hm
        have i2 : (m : Int) < (l.length : Int) := by omega
        go_wp2_with fail
        refine ret_d2 Try.results17 rfl rfl rfl (Box.set3 (HZ.out.drewN n) _ _ _) ?_
        rw [F.out]
        exact ⟨rfl, below_set3 (below_drewN HB.out n) (by omega) _ _ _⟩
end Pr
end Go.Proofs.Ytplinlgafgfepaa.Ld
