/-
  What the document's Of, and the laws' small and known, answer, in any world.
-/
import Derived.Test.YtljaemiggeeghaaWinSame
import Derived.Deep.DeepCutAuto
namespace Go.Proofs.Ytljaemiggeeghaa
open Go.RowKit
attribute [local go_sem ↓] Go.wp_at_zero Go.wp_at_succ
namespace Wn

/-- a block that holds these cells, none of them frozen -/
def Box (w : World) (b : Nat) (t : TypeId) (cs : Array Value) : Prop := w.heap[b]? = some (.cells cs t (0, 0))
theorem Box.keep {w w' : World} {b : Nat} {t : TypeId} {cs : Array Value} (h : Box w b t cs) (hb : Below w.heap.size w w') : Box w' b t cs := by
  unfold Box at *
  rw [hb.block b (Array.getElem?_eq_some_iff.1 h).1]; exact h
theorem Box.alloc {w : World} {b : Nat} {t : TypeId} {cs : Array Value} (h : Box w b t cs) (o : Obj) : Box (w.alloc o) b t cs := h.keep ((Below.refl _ _).alloc (Nat.le_refl _) _)
theorem Box.drew {w : World} {b : Nat} {t : TypeId} {cs : Array Value} (h : Box w b t cs) : Box w.drew b t cs := h
theorem Box.drewN {w : World} {b : Nat} {t : TypeId} {cs : Array Value} (h : Box w b t cs) (n : Nat) : Box (w.drewN n) b t cs := h
theorem Box.new (w : World) (t : TypeId) (cs : Array Value) : Box (w.alloc (.cells cs t)) w.heap.size t cs := heap_alloc_new w _
theorem Box.lt {w : World} {b : Nat} {t : TypeId} {cs : Array Value} (h : Box w b t cs) : b < w.heap.size := (Array.getElem?_eq_some_iff.1 h).1
theorem Box.cell {w : World} {b : Nat} {t : TypeId} {cs : Array Value} (h : Box w b t cs) (i : Nat) : w.cell? ⟨b, i, none⟩ = cs[i]? := cell_of_row _ _ _ _ _ _ h
theorem Box.free {w : World} {b : Nat} {t : TypeId} {cs : Array Value} (h : Box w b t cs) (i : Nat) : w.frozen? ⟨b, i, none⟩ = false := frozen_of_row _ _ _ _ _ h
theorem Box.new1 (w : World) (t : TypeId) (cs : Array Value) (o : Obj) : Box ((w.alloc o).alloc (.cells cs t)) (w.heap.size + 1) t cs := by
  have := Box.new (w.alloc o) t cs; simpa using this
/-- a state's box, written whole -/
theorem Box.set4 {w : World} {g : Nat} {x y z u : Value} (hg : Box w g 32 #[x, y, z, u]) (a b c d : Value) : Box ((((w.setCell ⟨g, 0, none⟩ a).setCell ⟨g, 1, none⟩ b).setCell ⟨g, 2, none⟩ c).setCell ⟨g, 3, none⟩ d) g 32 #[a, b, c, d] := set4_heap hg _ _ _ _
theorem Box.far4 {w : World} {g b : Nat} {t : TypeId} {cs : Array Value} (h : Box w b t cs) (hne : b ≠ g) (x y z u : Value) : Box ((((w.setCell ⟨g, 0, none⟩ x).setCell ⟨g, 1, none⟩ y).setCell ⟨g, 2, none⟩ z).setCell ⟨g, 3, none⟩ u) b t cs := by
  unfold Box at *
  rw [Below.heap_setCell _ _ _ _ hne, Below.heap_setCell _ _ _ _ hne, Below.heap_setCell _ _ _ _ hne, Below.heap_setCell _ _ _ _ hne]; exact h

/-- a slice of entries that lies in a row of the call's own -/
def Sl (w : World) (B : Nat) (A : Option Addr) (cap : Nat) (l : List (Int × Int)) : Prop := Own w B (.slice A l.length cap) l
theorem Sl.ents {w : World} {B cap : Nat} {A : Option Addr} {l : List (Int × Int)} (h : Sl w B A cap l) : Ents w A l := by
  obtain ⟨A', cap', e, hE⟩ := Own.ents h
  injection e with e1 e2 e3
  subst e1; exact hE
theorem Sl.cap {w : World} {B cap : Nat} {A : Option Addr} {l : List (Int × Int)} (h : Sl w B A cap l) : l.length ≤ cap := by
  obtain ⟨A', cap', e, hc, hE⟩ := Own.view h
  injection e with e1 e2 e3
  omega
theorem Sl.keep {w w' : World} {B cap : Nat} {A : Option Addr} {l : List (Int × Int)} (h : Sl w B A cap l) (hb : Below w.heap.size w w') : Sl w' B A cap l := Own.keep h hb
theorem Sl.mono {w : World} {B B' cap : Nat} {A : Option Addr} {l : List (Int × Int)} (h : Sl w B A cap l) (hB : B' ≤ B) : Sl w B' A cap l := Own.mono h hB
theorem Sl.alloc {w : World} {B cap : Nat} {A : Option Addr} {l : List (Int × Int)} (h : Sl w B A cap l) (o : Obj) : Sl (w.alloc o) B A cap l := Own.alloc h o
theorem Sl.far4 {w : World} {B g cap : Nat} {A : Option Addr} {l : List (Int × Int)} (h : Sl w B A cap l) {x y z u : Value} (hg : Box w g 32 #[x, y, z, u]) (a b c d : Value) : Sl ((((w.setCell ⟨g, 0, none⟩ a).setCell ⟨g, 1, none⟩ b).setCell ⟨g, 2, none⟩ c).setCell ⟨g, 3, none⟩ d) B A cap l := Own.setOther4 h hg _ _ _ _
theorem Sl.nil (w : World) (B : Nat) : Sl w B none 0 [] := Own.nil w B
theorem Own.sl {w : World} {B : Nat} {v : Value} {l : List (Int × Int)} (h : Own w B v l) : ∃ A cap, v = .slice A l.length cap ∧ Sl w B A cap l := by
  obtain ⟨A, cap, e, _⟩ := h.ents
  exact ⟨A, cap, e, by subst e; exact h⟩

theorem do_sl (p : Pol) (s : St) (B : Nat) (A : Option Addr) (cap : Nat) (k now cost : Int) (w : World) (h : Sl w B A cap s.log) :
    Calls Try.prog 18 #[p.val, s.val A s.log.length cap, .agg (acells k now cost)] w fun e w' => ∃ A' cap', e = .returned (.tuple #[(act p s k now cost).1.val A' (act p s k now cost).1.log.length cap', .bool (act p s k now cost).2]) ∧ Sl w' w.heap.size A' cap' (act p s k now cost).1.log ∧ Below w.heap.size w w' :=
  (do_calls p s A cap k now cost w h.ents h.cap).mono fun e w' ⟨v, he, ⟨u, hu, ho⟩, hb⟩ => by
    obtain ⟨A', cap', e', hs⟩ := ho.sl
    exact ⟨A', cap', by rw [he, hu, e'], hs, hb⟩
theorem do_is {p : Pol} {s t : St} {b : Bool} {k now cost : Int} (he : act p s k now cost = (t, b)) (B : Nat) (A : Option Addr) (cap : Nat) (w : World) (h : Sl w B A cap s.log) :
    Calls Try.prog 18 #[p.val, s.val A s.log.length cap, .agg (acells k now cost)] w fun e w' => ∃ A' cap', e = .returned (.tuple #[t.val A' t.log.length cap', .bool b]) ∧ Sl w' w.heap.size A' cap' t.log ∧ Below w.heap.size w w' := by
  have := do_sl p s B A cap k now cost w h
  rw [he] at this; exact this

abbrev pcells (p : Pol) : Array Value := #[.int .i64 p.kind, .int .i64 p.limit, .int .i64 p.period, .int .i64 p.burst, .int .i64 p.cap, .bool p.opn]

theorem pol_size : (Try.prog.info? 23).map (·.size) = some 6 := by kernel_rfl
/-- one result, a policy that was stored -/
theorem ret_pol {fn : Func} {q : Tmp} {Q : Ending → World → Prop} {a : Act} {w : World} {g : Nat} {x y z u b c : Value} {fr : Nat × Nat} (h : fn.results = #[.cell q 23]) (hp : a.tmps.getD q undef = .pointer (some ⟨g, 0, none⟩)) (hd : a.defers = []) (hg : w.heap[g]? = some (.cells #[x, y, z, u, b, c] 23 fr))
    (hQ : Q (.returned (.agg #[x, y, z, u, b, c])) w) : bodyPost Try.prog fn Q .ret a w :=
  bodyPost_ret (results_cell_row h _ _ g 23 _ fr _ hp hg Try.underlying23 rfl pol_size) hd hQ

def ofP (limit period most : Int) : Pol := ⟨3, 1 + limit, 1 + period, 0, 1 + most % 100, false⟩
set_option maxHeartbeats 2000000 in
theorem of_calls (limit period most : Int) (w : World) (h1 : 0 ≤ limit ∧ limit < 65536) (h2 : 0 ≤ period ∧ period < 65536) (h3 : 0 ≤ most ∧ most < 256) :
    Calls Try.prog 21 #[.int .u16 limit, .int .u16 period, .int .u8 most] w fun e w' => e = .returned (ofP limit period most).val ∧ Below w.heap.size w w' := by
  unfold Pol.val
  go_enter Try.func21, Try.ntmps21
  go_wp2_with fail
  refine ret_pol Try.results21 rfl rfl (heap_alloc_new _ _) ⟨rfl, (Below.refl _ _).alloc (Nat.le_refl _) _⟩

theorem small_calls (A : Option Addr) (n cap : Nat) (w : World) : Calls Try.prog 11 #[.slice A n cap] w fun e w' => e = .returned (.bool (decide (n ≤ 60))) ∧ w = w' := by
  by_cases h : n ≤ 60
  · have E := Lib.hid (show decide (n ≤ 60) = true by simp [h])
    have t : (n : Int) ≤ 60 := by omega
    clear h
    go_enter Try.func11, Try.ntmps11
    go_wp2
    go_ret
    exact ⟨by rw [E.out]; rfl, rfl⟩
  · have E := Lib.hid (show decide (n ≤ 60) = false by simp [h])
    have t : ¬ (n : Int) ≤ 60 := by omega
    clear h
    go_enter Try.func11, Try.ntmps11
    go_wp2
    go_ret
    exact ⟨by rw [E.out]; rfl, rfl⟩
theorem small_yes {n : Nat} (h : n ≤ 60) (A : Option Addr) (cap : Nat) (w : World) : Calls Try.prog 11 #[.slice A n cap] w fun e w' => e = .returned (.bool true) ∧ w = w' := by
  have := small_calls A n cap w; rwa [decide_eq_true h] at this
theorem small_no {n : Nat} (h : ¬ n ≤ 60) (A : Option Addr) (cap : Nat) (w : World) : Calls Try.prog 11 #[.slice A n cap] w fun e w' => e = .returned (.bool false) ∧ w = w' := by
  have := small_calls A n cap w; rwa [decide_eq_false h] at this

/-- the chapter's example -/
def kp : Pol := ⟨3, 5, 1000, 0, 9, false⟩
theorem k_new : new kp 10 = ⟨10, 0, 0, []⟩ := by rfl
theorem k_act : act kp ⟨10, 0, 0, []⟩ 1 0 5 = (⟨10, 0, 0, [(10, 5)]⟩, true) := by rfl
theorem k_act2 : act kp ⟨10, 0, 0, [(10, 5)]⟩ 1 0 1 = (⟨10, 0, 0, [(10, 5)]⟩, false) := by rfl
theorem k_retry : retryAt kp ⟨10, 0, 0, [(10, 5)]⟩ 0 1 = (1000, true) := by rfl
theorem k_chk : chk ⟨0, 0, 0, 0, 0, false⟩ = false := by rfl
theorem k_new_calls (w : World) : Calls Try.prog 15 #[.agg #[.int .i64 3, .int .i64 5, .int .i64 1000, .int .i64 0, .int .i64 9, .bool false], .int .i64 10] w fun e w' => e = .returned (.agg #[.int .i64 10, .int .i64 0, .int .i64 0, .slice none 0 0]) ∧ Below w.heap.size w w' := by
  have := new_calls kp 10 w; rw [k_new] at this; exact this
theorem below_lt1 (w : World) (o : Obj) : w.heap.size ≤ (w.alloc o).heap.size := by simp
theorem below_lt2 (w : World) (o o' : Obj) : w.heap.size ≤ ((w.alloc o).alloc o').heap.size := by simp; omega
/-- the boxes of the example's policy and of the state in which 5 were taken -/
def KnownAt (w w1 : World) (b : Nat) (A : Option Addr) (cap : Nat) : Prop := Below w.heap.size w w1 ∧ Box w1 w.heap.size 23 (pcells kp) ∧ Box w1 b 32 (scells 10 0 0 (.slice A 1 cap)) ∧ Sl w1 0 A cap [(10, 5)] ∧ w.heap.size < b
theorem k_do (w : World) : Calls Try.prog 18 #[.agg #[.int .i64 3, .int .i64 5, .int .i64 1000, .int .i64 0, .int .i64 9, .bool false], .agg #[.int .i64 10, .int .i64 0, .int .i64 0, .slice none 0 0], .agg #[.int .i64 1, .int .i64 0, .int .i64 5]] w fun e w' =>
    ∃ A cap, e = .returned (.tuple #[.agg #[.int .i64 10, .int .i64 0, .int .i64 0, .slice A 1 cap], .bool true]) ∧ Sl w' w.heap.size A cap [(10, 5)] ∧ Below w.heap.size w w' := do_is k_act 0 none 0 w (Sl.nil _ _)

theorem k_retry_calls (A : Option Addr) (cap : Nat) (w : World) (hA : Ents w A [(10, 5)]) (hc : 1 ≤ cap) :
    Calls Try.prog 22 #[kp.val, (⟨10, 0, 0, [(10, 5)]⟩ : St).val A 1 cap, .int .i64 0, .int .i64 1] w fun e w' => e = .returned (.tuple #[.int .i64 1000, .bool true]) ∧ Below w.heap.size w w' := by
  have := retryAt_calls kp ⟨10, 0, 0, [(10, 5)]⟩ A cap 0 1 w hA hc
  rw [k_retry] at this; exact this

set_option maxHeartbeats 16000000 in
theorem known_calls (w : World) : Calls Try.prog 12 #[] w fun e w' => e = .returned (.bool true) ∧ Below w.heap.size w w' := by
  go_enter Try.func12, Try.ntmps12
  go_wp2_with fail
  go_cut [2, 3] (fun s2 s3 w1 => ∃ b A cap, s2 = .pointer (some ⟨b, 0, none⟩) ∧ s3 = .bool true ∧ Hid (KnownAt w w1 b A cap))
  case first =>
    go_region_held3 (fun w' => w'.cell? ⟨w.heap.size, 0, none⟩ = some (.int .i64 3) ∧ w'.cell? ⟨w.heap.size, 1, none⟩ = some (.int .i64 5) ∧ w'.cell? ⟨w.heap.size, 2, none⟩ = some (.int .i64 1000) ∧ w'.cell? ⟨w.heap.size, 3, none⟩ = some (.int .i64 0) ∧ w'.cell? ⟨w.heap.size, 4, none⟩ = some (.int .i64 9) ∧ w'.cell? ⟨w.heap.size, 5, none⟩ = some (.bool false)) (go_keep)
      (first | (go_at_call 15; refine (k_new_calls _).mono ?_; rintro e w1 ⟨rfl, hb1⟩; have hz1 := hb1.size; (first | (have r1 := Box.keep (Box.drew (Box.new w 23 (pcells kp))) hb1; have hB1 := ((Below.refl _ _).alloc (Nat.le_refl _) _).drew.trans (hb1.mono (below_lt1 w _))) | (have r1 := Box.keep (Box.drew (Box.alloc (Box.new w 23 (pcells kp)) _)) hb1; have rz := Box.keep (Box.drew (Box.new1 w 32 (scells 0 0 0 (.slice none 0 0)) _)) hb1; have hB1 := (below_two w _ _).drew.trans (hb1.mono (below_lt2 w _ _)); have y0 : w1.cell? ⟨w.heap.size + 1, 0, none⟩ = some (.int .i64 0) := rz.cell 0; have y1 : w1.cell? ⟨w.heap.size + 1, 1, none⟩ = some (.int .i64 0) := rz.cell 1; have y2 : w1.cell? ⟨w.heap.size + 1, 2, none⟩ = some (.int .i64 0) := rz.cell 2; have y3 : w1.cell? ⟨w.heap.size + 1, 3, none⟩ = some (.slice none 0 0) := rz.cell 3; have yf0 := rz.free 0; have yf1 := rz.free 1; have yf2 := rz.free 2; have yf3 := rz.free 3)); have zn1 : ¬ (w1.heap.size = w.heap.size) := Nat.ne_of_gt r1.lt; have b0 : w1.cell? ⟨w.heap.size, 0, none⟩ = some (.int .i64 3) := r1.cell 0; have b1 : w1.cell? ⟨w.heap.size, 1, none⟩ = some (.int .i64 5) := r1.cell 1; have b2 : w1.cell? ⟨w.heap.size, 2, none⟩ = some (.int .i64 1000) := r1.cell 2; have b3 : w1.cell? ⟨w.heap.size, 3, none⟩ = some (.int .i64 0) := r1.cell 3; have b4 : w1.cell? ⟨w.heap.size, 4, none⟩ = some (.int .i64 9) := r1.cell 4; have b5 : w1.cell? ⟨w.heap.size, 5, none⟩ = some (.bool false) := r1.cell 5) | (go_at_call 18; refine (k_do _).mono ?_; rintro e w2 ⟨A', cap', rfl, hE, hb2⟩; have hz2 := hb2.size; (first | (have rz2 := Box.keep rz hb2; have r2 := Box.keep r1 hb2; have hB2 := hB1.trans (hb2.mono (Nat.le_of_lt r1.lt)); have x0 : w2.cell? ⟨w.heap.size + 1, 0, none⟩ = some (.int .i64 0) := rz2.cell 0; have x1 : w2.cell? ⟨w.heap.size + 1, 1, none⟩ = some (.int .i64 0) := rz2.cell 1; have x2 : w2.cell? ⟨w.heap.size + 1, 2, none⟩ = some (.int .i64 0) := rz2.cell 2; have x3 : w2.cell? ⟨w.heap.size + 1, 3, none⟩ = some (.slice none 0 0) := rz2.cell 3; have xf0 := rz2.free 0; have xf1 := rz2.free 1; have xf2 := rz2.free 2; have xf3 := rz2.free 3) | (have r2 := Box.keep r1 hb2; have hB2 := hB1.trans (hb2.mono (Nat.le_of_lt r1.lt))) | (have r2 := Box.keep (Box.alloc r1 _) hb2; have rz2 := Box.keep (Box.new w1 32 (scells 0 0 0 (.slice none 0 0))) hb2; have hB2 := (hB1.alloc (Nat.le_of_lt r1.lt) _).trans (hb2.mono (Nat.le_trans (Nat.le_of_lt r1.lt) (below_lt1 w1 _))); have x0 : w2.cell? ⟨w1.heap.size, 0, none⟩ = some (.int .i64 0) := rz2.cell 0; have x1 : w2.cell? ⟨w1.heap.size, 1, none⟩ = some (.int .i64 0) := rz2.cell 1; have x2 : w2.cell? ⟨w1.heap.size, 2, none⟩ = some (.int .i64 0) := rz2.cell 2; have x3 : w2.cell? ⟨w1.heap.size, 3, none⟩ = some (.slice none 0 0) := rz2.cell 3; have xf0 := rz2.free 0; have xf1 := rz2.free 1; have xf2 := rz2.free 2; have xf3 := rz2.free 3)); have c0 : w2.cell? ⟨w.heap.size, 0, none⟩ = some (.int .i64 3) := r2.cell 0; have c1 : w2.cell? ⟨w.heap.size, 1, none⟩ = some (.int .i64 5) := r2.cell 1; have c2 : w2.cell? ⟨w.heap.size, 2, none⟩ = some (.int .i64 1000) := r2.cell 2; have c3 : w2.cell? ⟨w.heap.size, 3, none⟩ = some (.int .i64 0) := r2.cell 3; have c4 : w2.cell? ⟨w.heap.size, 4, none⟩ = some (.int .i64 9) := r2.cell 4; have c5 : w2.cell? ⟨w.heap.size, 5, none⟩ = some (.bool false) := r2.cell 5))
    all_goals (go_wp2_with fail; go_meet)
    case rel => exact ⟨_, A', cap', rfl, rfl, hB2.alloc (Nat.le_of_lt r2.lt) _, r2.alloc _, Box.new _ _ _, (hE.mono (Nat.zero_le _)).alloc _, r2.lt⟩
    case rel => exact ⟨_, A', cap', rfl, rfl, below_set4 hB2 (Nat.le_of_lt r1.lt) _ _ _ _, r2.far4 (Nat.ne_of_lt r1.lt) _ _ _ _, rz2.set4 _ _ _ _, (hE.mono (Nat.zero_le _)).far4 rz2 _ _ _ _, r1.lt⟩
    case rel => exact ⟨_, A', cap', rfl, rfl, below_set4 hB2 (Nat.le_succ _) _ _ _ _, r2.far4 (Nat.ne_of_lt (Nat.lt_succ_self _)) _ _ _ _, rz2.set4 _ _ _ _, (hE.mono (Nat.zero_le _)).far4 rz2 _ _ _ _, Nat.lt_succ_self _⟩
  case rest =>
    obtain ⟨b, A, cap, rfl, rfl, hB, rp, rs, hS, hlt⟩ := hcut
    have p0 : wc.cell? ⟨w.heap.size, 0, none⟩ = some (.int .i64 3) := rp.cell 0
    have p1 : wc.cell? ⟨w.heap.size, 1, none⟩ = some (.int .i64 5) := rp.cell 1
    have p2 : wc.cell? ⟨w.heap.size, 2, none⟩ = some (.int .i64 1000) := rp.cell 2
    have p3 : wc.cell? ⟨w.heap.size, 3, none⟩ = some (.int .i64 0) := rp.cell 3
    have p4 : wc.cell? ⟨w.heap.size, 4, none⟩ = some (.int .i64 9) := rp.cell 4
    have p5 : wc.cell? ⟨w.heap.size, 5, none⟩ = some (.bool false) := rp.cell 5
    have s0 : wc.cell? ⟨b, 0, none⟩ = some (.int .i64 10) := rs.cell 0
    have s1 : wc.cell? ⟨b, 1, none⟩ = some (.int .i64 0) := rs.cell 1
    have s2 : wc.cell? ⟨b, 2, none⟩ = some (.int .i64 0) := rs.cell 2
    have s3 : wc.cell? ⟨b, 3, none⟩ = some (.slice A 1 cap) := rs.cell 3
    have z1 := rp.lt
    have z2 := rs.lt
    have HB := Lib.hid hB
    have HP := Lib.hid rp
    have HS := Lib.hid rs
    have HL := Lib.hid hS
    clear hB rp rs hS
    go_wp2_with fail
    refine (do_is k_act2 0 A cap _ HL.out).mono ?_
    rintro e w3 ⟨A3, cap3, rfl, -, hb3⟩
    have rp := HP.out.keep hb3
    have rs := HS.out.keep hb3
    have q0 : w3.cell? ⟨w.heap.size, 0, none⟩ = some (.int .i64 3) := rp.cell 0
    have q1 : w3.cell? ⟨w.heap.size, 1, none⟩ = some (.int .i64 5) := rp.cell 1
    have q2 : w3.cell? ⟨w.heap.size, 2, none⟩ = some (.int .i64 1000) := rp.cell 2
    have q3 : w3.cell? ⟨w.heap.size, 3, none⟩ = some (.int .i64 0) := rp.cell 3
    have q4 : w3.cell? ⟨w.heap.size, 4, none⟩ = some (.int .i64 9) := rp.cell 4
    have q5 : w3.cell? ⟨w.heap.size, 5, none⟩ = some (.bool false) := rp.cell 5
    have t0 : w3.cell? ⟨b, 0, none⟩ = some (.int .i64 10) := rs.cell 0
    have t1 : w3.cell? ⟨b, 1, none⟩ = some (.int .i64 0) := rs.cell 1
    have t2 : w3.cell? ⟨b, 2, none⟩ = some (.int .i64 0) := rs.cell 2
    have t3 : w3.cell? ⟨b, 3, none⟩ = some (.slice A 1 cap) := rs.cell 3
    have z3 := rp.lt
    have z4 := rs.lt
    have HB3 := Lib.hid (HB.out.trans (hb3.mono (Nat.le_of_lt z1)))
    have HL3 := Lib.hid (HL.out.keep hb3)
    clear hb3 rp rs
    go_wp2_with fail
    refine (k_retry_calls A cap _ (HL3.out.alloc _).ents HL3.out.cap).mono ?_
    rintro e w4 ⟨rfl, hb4⟩
    have HB4 := Lib.hid ((HB3.out.alloc (Nat.le_of_lt z3) _).trans (hb4.mono (Nat.le_trans (Nat.le_of_lt z3) (below_lt1 w3 _))))
    have z5 : w.heap.size ≤ w4.heap.size := HB4.out.size
    clear hb4
    go_wp2_with fail
    refine (check_no k_chk _).mono ?_
    rintro e w5 ⟨rfl, hb5⟩
    have HB5 := Lib.hid (HB4.out.trans (hb5.mono z5))
    clear hb5
    go_wp2_with fail
    go_ret
    exact ⟨rfl, HB5.out⟩

end Wn
end Go.Proofs.Ytljaemiggeeghaa
