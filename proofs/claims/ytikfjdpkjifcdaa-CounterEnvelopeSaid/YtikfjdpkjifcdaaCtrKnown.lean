/-
  What the law's known answers, in any world; the contracts of counter in the form in which laws with a run use them.
-/
import Derived.Test.YtikfjdpkjifcdaaCtrOwnC
namespace Go.Proofs.Ytikfjdpkjifcdaa
open Go.RowKit
namespace Wn

set_option maxHeartbeats 2000000 in
theorem of_calls (limit period : Int) (w : World) (h1 : 0 ≤ limit ∧ limit < 65536) (h2 : 0 ≤ period ∧ period < 65536) :
    Calls Try.prog 20 #[.int .u16 limit, .int .u16 period] w fun e w' => e = .returned (ofP limit period).val ∧ Below w.heap.size w w' := by
  unfold Pol.val
  go_enter Try.func20, Try.ntmps20
  go_wp2_with fail
  refine ret_pol Try.results20 rfl rfl (heap_alloc_new _ _) ⟨rfl, (Below.refl _ _).alloc (Nat.le_refl _) _⟩
theorem of_at {a b : Int} {p : Pol} (h : ofP a b = p) (h1 : 0 ≤ a ∧ a < 65536) (h2 : 0 ≤ b ∧ b < 65536) (w : World) :
    Calls Try.prog 20 #[.int .u16 a, .int .u16 b] w fun e w' => e = .returned p.val ∧ Below w.heap.size w w' := by
  have := of_calls a b w h1 h2; rw [h] at this; exact this
theorem new_at {p : Pol} {now : Int} {s : St} (h : new p now = s) (w : World) : Calls Try.prog 14 #[p.val, .int .i64 now] w fun e w' => e = .returned (s.val none 0 0) ∧ Below w.heap.size w w' := by
  have := new_calls p now w; rw [h] at this; exact this
/-- where a run stands: the boxes of its policy and of its state -/
def At (w wr : World) (bp bs : Nat) (p : Pol) (s : St) (A : Option Addr) (cap : Nat) : Prop :=
  Below w.heap.size w wr ∧ Box wr bp 23 (pcells p) ∧ Box wr bs 32 (scells s.tm s.level s.held (.slice A s.log.length cap)) ∧ Sl wr 0 A cap s.log
theorem do_sl (p : Pol) (s : St) (B : Nat) (A : Option Addr) (cap : Nat) (k now cost : Int) (w : World) (_h : Sl w B A cap s.log) :
    Calls Try.prog 17 #[p.val, s.val A s.log.length cap, .agg (acells k now cost)] w fun e w' => ∃ A' cap', e = .returned (.tuple #[(act p s k now cost).1.val A' (act p s k now cost).1.log.length cap', .bool (act p s k now cost).2]) ∧ Sl w' w.heap.size A' cap' (act p s k now cost).1.log ∧ Below w.heap.size w w' :=
  (do_calls p s A cap k now cost w).mono fun e w' ⟨he, hb⟩ => ⟨none, 0, by rw [he, act_log]; rfl, by rw [act_log]; exact Sl.nil _ _, hb⟩
theorem do_is {p : Pol} {s t : St} {b : Bool} {k now cost : Int} (he : act p s k now cost = (t, b)) (B : Nat) (A : Option Addr) (cap : Nat) (w : World) (h : Sl w B A cap s.log) :
    Calls Try.prog 17 #[p.val, s.val A s.log.length cap, .agg (acells k now cost)] w fun e w' => ∃ A' cap', e = .returned (.tuple #[t.val A' t.log.length cap', .bool b]) ∧ Sl w' w.heap.size A' cap' t.log ∧ Below w.heap.size w w' := by
  have := do_sl p s B A cap k now cost w h
  rw [he] at this; exact this
theorem Sl.drew {w : World} {B cap : Nat} {A : Option Addr} {l : List (Int × Int)} (h : Sl w B A cap l) : Sl w.drew B A cap l := h
theorem adv_is {p : Pol} {s t : St} {now : Int} (he : adv p s now = t) (B : Nat) (A : Option Addr) (cap : Nat) (w : World) (_h : Sl w B A cap s.log) :
    Calls Try.prog 25 #[p.val, s.val A s.log.length cap, .int .i64 now] w fun e w' => ∃ A' cap', e = .returned (t.val A' t.log.length cap') ∧ Sl w' w.heap.size A' cap' t.log ∧ Below w.heap.size w w' :=
  (advance_is he A cap w).mono fun e w' ⟨hv, hb⟩ => by
    have hl : t.log = [] := by rw [← he]; exact adv_log p s now
    exact ⟨none, 0, by rw [hv, hl]; rfl, by rw [hl]; exact Sl.nil _ _, hb⟩
theorem room_is {p : Pol} {s : St} {now r : Int} (he : roomAt p s now = r) (B : Nat) (A : Option Addr) (cap : Nat) (w : World) (_h : Sl w B A cap s.log) :
    Calls Try.prog 24 #[p.val, s.val A s.log.length cap, .int .i64 now] w fun e w' => e = .returned (.int .i64 r) ∧ Below w.heap.size w w' := by
  have := roomAt_calls p s A cap now w; rw [he] at this; exact this
theorem right_is {p : Pol} {s : St} (he : right p s = true) (B : Nat) (A : Option Addr) (cap : Nat) (w : World) (_h : Sl w B A cap s.log) :
    Calls Try.prog 23 #[p.val, s.val A s.log.length cap] w fun e w' => e = .returned (.bool true) ∧ Below w.heap.size w w' := right_yes he A cap w
theorem retry_is {p : Pol} {s : St} {now c r : Int} {b : Bool} (he : retryAt p s now c = (r, b)) (B : Nat) (A : Option Addr) (cap : Nat) (w : World) (_h : Sl w B A cap s.log) :
    Calls Try.prog 21 #[p.val, s.val A s.log.length cap, .int .i64 now, .int .i64 c] w fun e w' => e = .returned (.tuple #[.int .i64 r, .bool b]) ∧ Below w.heap.size w w' := by
  have := retryAt_calls p s A cap now c w; rw [he] at this; exact this
theorem until_is {p : Pol} {s : St} {now u : Int} (he : untilAt p s now = u) (B : Nat) (A : Option Addr) (cap : Nat) (w : World) (_h : Sl w B A cap s.log) :
    Calls Try.prog 22 #[p.val, s.val A s.log.length cap, .int .i64 now] w fun e w' => e = .returned (.int .i64 u) ∧ Below w.heap.size w w' := by
  have := untilAt_calls p s A cap now w; rw [he] at this; exact this
theorem small_calls (A : Option Addr) (n cap : Nat) (w : World) : Calls Try.prog 10 #[.slice A n cap] w fun e w' => e = .returned (.bool (decide (n ≤ 60))) ∧ w = w' := by
  by_cases h : n ≤ 60
  · have E := Lib.hid (show decide (n ≤ 60) = true by simp [h])
    have t : (n : Int) ≤ 60 := by omega
    clear h
    go_enter Try.func10, Try.ntmps10
    go_wp2
    go_ret
    exact ⟨by rw [E.out]; rfl, rfl⟩
  · have E := Lib.hid (show decide (n ≤ 60) = false by simp [h])
    have t : ¬ (n : Int) ≤ 60 := by omega
    clear h
    go_enter Try.func10, Try.ntmps10
    go_wp2
    go_ret
    exact ⟨by rw [E.out]; rfl, rfl⟩
theorem small_yes {n : Nat} (h : n ≤ 60) (A : Option Addr) (cap : Nat) (w : World) : Calls Try.prog 10 #[.slice A n cap] w fun e w' => e = .returned (.bool true) ∧ w = w' := by
  have := small_calls A n cap w; rwa [decide_eq_true h] at this
theorem small_no {n : Nat} (h : ¬ n ≤ 60) (A : Option Addr) (cap : Nat) (w : World) : Calls Try.prog 10 #[.slice A n cap] w fun e w' => e = .returned (.bool false) ∧ w = w' := by
  have := small_calls A n cap w; rwa [decide_eq_false h] at this

/-- the chapter's example -/
def kp : Pol := ⟨4, 5, 1000, 0, 0, false⟩
theorem k_new : new kp 10 = ⟨10, 0, 0, []⟩ := by rfl
theorem k_act : act kp ⟨10, 0, 0, []⟩ 1 0 5 = (⟨10, 5, 0, []⟩, true) := by rfl
theorem k_act2 : act kp ⟨10, 5, 0, []⟩ 1 0 1 = (⟨10, 5, 0, []⟩, false) := by rfl
theorem k_retry : retryAt kp ⟨10, 5, 0, []⟩ 0 1 = (990, true) := by rfl
theorem k_chk : chk ⟨0, 0, 0, 0, 0, false⟩ = false := by rfl
theorem k_new_calls (w : World) : Calls Try.prog 14 #[.agg #[.int .i64 4, .int .i64 5, .int .i64 1000, .int .i64 0, .int .i64 0, .bool false], .int .i64 10] w fun e w' => e = .returned (.agg #[.int .i64 10, .int .i64 0, .int .i64 0, .slice none 0 0]) ∧ Below w.heap.size w w' := by
  have := new_calls kp 10 w; rw [k_new] at this; exact this
/-- the boxes of the example's policy and of the state in which 5 were taken -/
def KnownAt (w w1 : World) (b : Nat) (A : Option Addr) (cap : Nat) : Prop := Below w.heap.size w w1 ∧ Box w1 w.heap.size 23 (pcells kp) ∧ Box w1 b 32 (scells 10 5 0 (.slice A 0 cap)) ∧ Sl w1 0 A cap [] ∧ w.heap.size < b
theorem k_do (w : World) : Calls Try.prog 17 #[.agg #[.int .i64 4, .int .i64 5, .int .i64 1000, .int .i64 0, .int .i64 0, .bool false], .agg #[.int .i64 10, .int .i64 0, .int .i64 0, .slice none 0 0], .agg #[.int .i64 1, .int .i64 0, .int .i64 5]] w fun e w' =>
    ∃ A cap, e = .returned (.tuple #[.agg #[.int .i64 10, .int .i64 5, .int .i64 0, .slice A 0 cap], .bool true]) ∧ Sl w' w.heap.size A cap [] ∧ Below w.heap.size w w' := do_is k_act 0 none 0 w (Sl.nil _ _)

theorem k_retry_calls (A : Option Addr) (cap : Nat) (w : World) :
    Calls Try.prog 21 #[kp.val, (⟨10, 5, 0, []⟩ : St).val A 0 cap, .int .i64 0, .int .i64 1] w fun e w' => e = .returned (.tuple #[.int .i64 990, .bool true]) ∧ Below w.heap.size w w' := by
  have := retryAt_calls kp ⟨10, 5, 0, []⟩ A cap 0 1 w
  rw [k_retry] at this; exact this

set_option maxHeartbeats 16000000 in
theorem known_calls (w : World) : Calls Try.prog 11 #[] w fun e w' => e = .returned (.bool true) ∧ Below w.heap.size w w' := by
  go_enter Try.func11, Try.ntmps11
  go_wp2_with fail
  go_cut [2, 3] (fun s2 s3 w1 => ∃ b A cap, s2 = .pointer (some ⟨b, 0, none⟩) ∧ s3 = .bool true ∧ Hid (KnownAt w w1 b A cap))
  case first =>
    go_region_held3 (fun w' => w'.cell? ⟨w.heap.size, 0, none⟩ = some (.int .i64 4) ∧ w'.cell? ⟨w.heap.size, 1, none⟩ = some (.int .i64 5) ∧ w'.cell? ⟨w.heap.size, 2, none⟩ = some (.int .i64 1000) ∧ w'.cell? ⟨w.heap.size, 3, none⟩ = some (.int .i64 0) ∧ w'.cell? ⟨w.heap.size, 4, none⟩ = some (.int .i64 0) ∧ w'.cell? ⟨w.heap.size, 5, none⟩ = some (.bool false)) (go_keep)
      (first | (go_at_call 14; refine (k_new_calls _).mono ?_; rintro e w1 ⟨rfl, hb1⟩; have hz1 := hb1.size; (first | (have r1 := Box.keep (Box.drew (Box.new w 23 (pcells kp))) hb1; have hB1 := ((Below.refl _ _).alloc (Nat.le_refl _) _).drew.trans (hb1.mono (below_lt1 w _))) | (have r1 := Box.keep (Box.drew (Box.alloc (Box.new w 23 (pcells kp)) _)) hb1; have rz := Box.keep (Box.drew (Box.new1 w 32 (scells 0 0 0 (.slice none 0 0)) _)) hb1; have hB1 := (below_two w _ _).drew.trans (hb1.mono (below_lt2 w _ _)); have y0 : w1.cell? ⟨w.heap.size + 1, 0, none⟩ = some (.int .i64 0) := rz.cell 0; have y1 : w1.cell? ⟨w.heap.size + 1, 1, none⟩ = some (.int .i64 0) := rz.cell 1; have y2 : w1.cell? ⟨w.heap.size + 1, 2, none⟩ = some (.int .i64 0) := rz.cell 2; have y3 : w1.cell? ⟨w.heap.size + 1, 3, none⟩ = some (.slice none 0 0) := rz.cell 3; have yf0 := rz.free 0; have yf1 := rz.free 1; have yf2 := rz.free 2; have yf3 := rz.free 3)); have zn1 : ¬ (w1.heap.size = w.heap.size) := Nat.ne_of_gt r1.lt; have b0 : w1.cell? ⟨w.heap.size, 0, none⟩ = some (.int .i64 4) := r1.cell 0; have b1 : w1.cell? ⟨w.heap.size, 1, none⟩ = some (.int .i64 5) := r1.cell 1; have b2 : w1.cell? ⟨w.heap.size, 2, none⟩ = some (.int .i64 1000) := r1.cell 2; have b3 : w1.cell? ⟨w.heap.size, 3, none⟩ = some (.int .i64 0) := r1.cell 3; have b4 : w1.cell? ⟨w.heap.size, 4, none⟩ = some (.int .i64 0) := r1.cell 4; have b5 : w1.cell? ⟨w.heap.size, 5, none⟩ = some (.bool false) := r1.cell 5) | (go_at_call 17; refine (k_do _).mono ?_; rintro e w2 ⟨A', cap', rfl, hE, hb2⟩; have hz2 := hb2.size; (first | (have rz2 := Box.keep rz hb2; have r2 := Box.keep r1 hb2; have hB2 := hB1.trans (hb2.mono (Nat.le_of_lt r1.lt)); have x0 : w2.cell? ⟨w.heap.size + 1, 0, none⟩ = some (.int .i64 0) := rz2.cell 0; have x1 : w2.cell? ⟨w.heap.size + 1, 1, none⟩ = some (.int .i64 0) := rz2.cell 1; have x2 : w2.cell? ⟨w.heap.size + 1, 2, none⟩ = some (.int .i64 0) := rz2.cell 2; have x3 : w2.cell? ⟨w.heap.size + 1, 3, none⟩ = some (.slice none 0 0) := rz2.cell 3; have xf0 := rz2.free 0; have xf1 := rz2.free 1; have xf2 := rz2.free 2; have xf3 := rz2.free 3) | (have r2 := Box.keep r1 hb2; have hB2 := hB1.trans (hb2.mono (Nat.le_of_lt r1.lt))) | (have r2 := Box.keep (Box.alloc r1 _) hb2; have rz2 := Box.keep (Box.new w1 32 (scells 0 0 0 (.slice none 0 0))) hb2; have hB2 := (hB1.alloc (Nat.le_of_lt r1.lt) _).trans (hb2.mono (Nat.le_trans (Nat.le_of_lt r1.lt) (below_lt1 w1 _))); have x0 : w2.cell? ⟨w1.heap.size, 0, none⟩ = some (.int .i64 0) := rz2.cell 0; have x1 : w2.cell? ⟨w1.heap.size, 1, none⟩ = some (.int .i64 0) := rz2.cell 1; have x2 : w2.cell? ⟨w1.heap.size, 2, none⟩ = some (.int .i64 0) := rz2.cell 2; have x3 : w2.cell? ⟨w1.heap.size, 3, none⟩ = some (.slice none 0 0) := rz2.cell 3; have xf0 := rz2.free 0; have xf1 := rz2.free 1; have xf2 := rz2.free 2; have xf3 := rz2.free 3)); have c0 : w2.cell? ⟨w.heap.size, 0, none⟩ = some (.int .i64 4) := r2.cell 0; have c1 : w2.cell? ⟨w.heap.size, 1, none⟩ = some (.int .i64 5) := r2.cell 1; have c2 : w2.cell? ⟨w.heap.size, 2, none⟩ = some (.int .i64 1000) := r2.cell 2; have c3 : w2.cell? ⟨w.heap.size, 3, none⟩ = some (.int .i64 0) := r2.cell 3; have c4 : w2.cell? ⟨w.heap.size, 4, none⟩ = some (.int .i64 0) := r2.cell 4; have c5 : w2.cell? ⟨w.heap.size, 5, none⟩ = some (.bool false) := r2.cell 5))
    all_goals (go_wp2_with fail; go_meet)
    case rel => exact ⟨_, A', cap', rfl, rfl, hB2.alloc (Nat.le_of_lt r2.lt) _, r2.alloc _, Box.new _ _ _, (hE.mono (Nat.zero_le _)).alloc _, r2.lt⟩
    case rel => exact ⟨_, A', cap', rfl, rfl, below_set4 hB2 (Nat.le_of_lt r1.lt) _ _ _ _, r2.far4 (Nat.ne_of_lt r1.lt) _ _ _ _, rz2.set4 _ _ _ _, (hE.mono (Nat.zero_le _)).far4 rz2 _ _ _ _, r1.lt⟩
    case rel => exact ⟨_, A', cap', rfl, rfl, below_set4 hB2 (Nat.le_succ _) _ _ _ _, r2.far4 (Nat.ne_of_lt (Nat.lt_succ_self _)) _ _ _ _, rz2.set4 _ _ _ _, (hE.mono (Nat.zero_le _)).far4 rz2 _ _ _ _, Nat.lt_succ_self _⟩
  case rest =>
    obtain ⟨b, A, cap, rfl, rfl, hB, rp, rs, hS, hlt⟩ := hcut
    have p0 : wc.cell? ⟨w.heap.size, 0, none⟩ = some (.int .i64 4) := rp.cell 0
    have p1 : wc.cell? ⟨w.heap.size, 1, none⟩ = some (.int .i64 5) := rp.cell 1
    have p2 : wc.cell? ⟨w.heap.size, 2, none⟩ = some (.int .i64 1000) := rp.cell 2
    have p3 : wc.cell? ⟨w.heap.size, 3, none⟩ = some (.int .i64 0) := rp.cell 3
    have p4 : wc.cell? ⟨w.heap.size, 4, none⟩ = some (.int .i64 0) := rp.cell 4
    have p5 : wc.cell? ⟨w.heap.size, 5, none⟩ = some (.bool false) := rp.cell 5
    have s0 : wc.cell? ⟨b, 0, none⟩ = some (.int .i64 10) := rs.cell 0
    have s1 : wc.cell? ⟨b, 1, none⟩ = some (.int .i64 5) := rs.cell 1
    have s2 : wc.cell? ⟨b, 2, none⟩ = some (.int .i64 0) := rs.cell 2
    have s3 : wc.cell? ⟨b, 3, none⟩ = some (.slice A 0 cap) := rs.cell 3
    have z1 := rp.lt
    have z2 := rs.lt
    have HB := Lib.hid hB
    have HP := Lib.hid rp
    have HS := Lib.hid rs
    have HL := Lib.hid hS
    clear hB rp rs hS
    go_wp2_with fail
    refine (do_is k_act2 0 A cap _ HL.out).mono ?_
    rintro e w3 ⟨A3, cap3, rfl, -, hb3⟩
    have rp := HP.out.keep hb3
    have rs := HS.out.keep hb3
    have q0 : w3.cell? ⟨w.heap.size, 0, none⟩ = some (.int .i64 4) := rp.cell 0
    have q1 : w3.cell? ⟨w.heap.size, 1, none⟩ = some (.int .i64 5) := rp.cell 1
    have q2 : w3.cell? ⟨w.heap.size, 2, none⟩ = some (.int .i64 1000) := rp.cell 2
    have q3 : w3.cell? ⟨w.heap.size, 3, none⟩ = some (.int .i64 0) := rp.cell 3
    have q4 : w3.cell? ⟨w.heap.size, 4, none⟩ = some (.int .i64 0) := rp.cell 4
    have q5 : w3.cell? ⟨w.heap.size, 5, none⟩ = some (.bool false) := rp.cell 5
    have t0 : w3.cell? ⟨b, 0, none⟩ = some (.int .i64 10) := rs.cell 0
    have t1 : w3.cell? ⟨b, 1, none⟩ = some (.int .i64 5) := rs.cell 1
    have t2 : w3.cell? ⟨b, 2, none⟩ = some (.int .i64 0) := rs.cell 2
    have t3 : w3.cell? ⟨b, 3, none⟩ = some (.slice A 0 cap) := rs.cell 3
    have z3 := rp.lt
    have z4 := rs.lt
    have HB3 := Lib.hid (HB.out.trans (hb3.mono (Nat.le_of_lt z1)))
    have HL3 := Lib.hid (HL.out.keep hb3)
    clear hb3 rp rs
    go_wp2_with fail
    refine (k_retry_calls A cap _).mono ?_
    rintro e w4 ⟨rfl, hb4⟩
    have HB4 := Lib.hid ((HB3.out.alloc (Nat.le_of_lt z3) _).trans (hb4.mono (Nat.le_trans (Nat.le_of_lt z3) (below_lt1 w3 _))))
    have z5 : w.heap.size ≤ w4.heap.size := HB4.out.size
    clear hb4
    go_wp2_with fail
    refine (check_no k_chk _).mono ?_
    rintro e w5 ⟨rfl, hb5⟩
    have HB5 := Lib.hid (HB4.out.trans (hb5.mono z5))
    clear hb5
    go_wp2_with fail
    go_ret
    exact ⟨rfl, HB5.out⟩

end Wn
end Go.Proofs.Ytikfjdpkjifcdaa
