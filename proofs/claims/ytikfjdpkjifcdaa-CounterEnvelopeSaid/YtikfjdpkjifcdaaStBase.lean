/-
  What any seat over states needs, of whatever kernel: values of policies, states, entries and acts; blocks known whole, rows of entries and of numbers of the call's own; Same; regions that grow.
-/
import Derived.Test.YtikfjdpkjifcdaaRows
import Derived.WalkKit
import Derived.WalkSpells
import Derived.WalkLawsBesides
import Derived.Deep.LoopGhost
import Derived.Lib.Hide
import Derived.BigRegion
import Derived.BigQuiet
import Derived.Deep.AppendLies
import Derived.Deep.RegionHeld3
import Derived.Deep.DeepCutAuto
import Derived.Maps.AppendAt
import Derived.IntWalk
import Derived.Laws.Tables
import Derived.Laws.CopyOwn
import Derived.Laws.MakeOwn
import Derived.Laws.OwnMore
import Derived.StillTailTactics
import Derived.Deep.RegionLaw
namespace Go.Proofs.Ytikfjdpkjifcdaa
open Go.RowKit
namespace Wn

theorem ret_int {k : IntKind} {a b : Int} (h : a = b) : Ending.returned (.int k a) = .returned (.int k b) := by rw [h]
theorem val_int {k : IntKind} {a b : Int} (h : a = b) : Value.int k a = .int k b := by rw [h]
structure Pol where
  kind : Int
  limit : Int
  period : Int
  burst : Int
  cap : Int
  opn : Bool
structure St where
  tm : Int
  level : Int
  held : Int
  log : List (Int × Int)
/-- within -/
def wi (n a b : Int) : Bool := decide (a ≤ n ∧ n ≤ b)
theorem wi_yes {n a b : Int} (h : wi n a b = true) : a ≤ n ∧ n ≤ b := by unfold wi at h; simpa using h
theorem wi_of {n a b : Int} (h : a ≤ n) (h2 : n ≤ b) : wi n a b = true := by unfold wi; simp [h, h2]
def clamp (t : Int) : Int := if t < 0 then 0 else if t > 9007199254740992 then 9007199254740992 else t
theorem clamp_lt {t : Int} (h : t < 0) : clamp t = 0 := by unfold clamp; rw [if_pos h]
theorem clamp_gt {t : Int} (h : t > 9007199254740992) : clamp t = 9007199254740992 := by unfold clamp; rw [if_neg (by omega), if_pos h]
theorem clamp_in {t : Int} (h : ¬ t < 0) (h2 : ¬ t > 9007199254740992) : clamp t = t := by unfold clamp; rw [if_neg h, if_neg h2]
theorem numclamp_calls (t : Int) (w : World) : Calls Try.prog 27 #[.int .i64 t] w fun e w' => e = .returned (.int .i64 (clamp t)) ∧ w = w' := by
  by_cases h1 : t < 0
  · have E := Lib.hid (clamp_lt h1)
    go_enter Try.func27, Try.ntmps27
    go_wp2
    go_ret
    exact ⟨by rw [E.out]; rfl, rfl⟩
  · by_cases h2 : t > 9007199254740992
    · have E := Lib.hid (clamp_gt h2)
      go_enter Try.func27, Try.ntmps27
      go_wp2
      go_ret
      exact ⟨by rw [E.out]; rfl, rfl⟩
    · have E := Lib.hid (clamp_in h1 h2)
      go_enter Try.func27, Try.ntmps27
      go_wp2
      go_ret
      exact ⟨by rw [E.out]; rfl, rfl⟩
theorem refclamp_calls (t : Int) (w : World) : Calls Try.prog 28 #[.int .i64 t] w fun e w' => e = .returned (.int .i64 (clamp t)) ∧ w = w' := by
  by_cases h1 : t < 0
  · have E := Lib.hid (clamp_lt h1)
    go_enter Try.func28, Try.ntmps28
    go_wp2
    go_ret
    exact ⟨by rw [E.out]; rfl, rfl⟩
  · by_cases h2 : t > 9007199254740992
    · have E := Lib.hid (clamp_gt h2)
      go_enter Try.func28, Try.ntmps28
      go_wp2
      go_ret
      exact ⟨by rw [E.out]; rfl, rfl⟩
    · have E := Lib.hid (clamp_in h1 h2)
      go_enter Try.func28, Try.ntmps28
      go_wp2
      go_ret
      exact ⟨by rw [E.out]; rfl, rfl⟩
abbrev Pol.val (p : Pol) : Value := .agg #[.int .i64 p.kind, .int .i64 p.limit, .int .i64 p.period, .int .i64 p.burst, .int .i64 p.cap, .bool p.opn]
abbrev St.val (s : St) (A : Option Addr) (n cap : Nat) : Value := .agg #[.int .i64 s.tm, .int .i64 s.level, .int .i64 s.held, .slice A n cap]
/-- a slice's address reads as entries -/
def Ents (w : World) (A : Option Addr) (l : List (Int × Int)) : Prop :=
  ∀ i (h : i < l.length), ∃ a : Addr, A = some a ∧ w.cell? (a.add (i * 2)) = some (.int .i64 l[i].1) ∧ w.cell? ⟨(a.add (i * 2)).block, (a.add (i * 2)).off + 1, none⟩ = some (.int .i64 l[i].2)
theorem Ents.at_ {w : World} {A : Option Addr} {l : List (Int × Int)} (h : Ents w A l) {i : Nat} (hi : i < l.length) :
    ∃ a : Addr, A = some a ∧ w.cell? (a.add (i * 2)) = some (.int .i64 l[i].1) ∧ w.cell? ⟨(a.add (i * 2)).block, (a.add (i * 2)).off + 1, none⟩ = some (.int .i64 l[i].2) := h i hi
theorem Ents.keep {w w' : World} {A : Option Addr} {l : List (Int × Int)} (h : Ents w A l) (hb : Below w.heap.size w w') : Ents w' A l := fun i hi => by
  obtain ⟨a, e, c1, c2⟩ := h i hi
  exact ⟨a, e, by rw [hb.cell (World.block_lt_of_cell? w _ c1)]; exact c1, by rw [hb.cell (World.block_lt_of_cell? w _ c2)]; exact c2⟩
theorem Ents.nil (w : World) (A : Option Addr) : Ents w A [] := fun i hi => absurd hi (by simp)
theorem Ents.alloc {w : World} {A : Option Addr} {l : List (Int × Int)} (h : Ents w A l) (o : Obj) : Ents (w.alloc o) A l := h.keep ((Below.refl _ _).alloc (Nat.le_refl _) _)
/-- the costs together -/
def tot (l : List (Int × Int)) : Int := (l.map (·.2)).sum
theorem tot_nil : tot [] = 0 := rfl
theorem tot_cons (e : Int × Int) (l : List (Int × Int)) : tot (e :: l) = e.2 + tot l := by simp [tot]
theorem tot_append (k l : List (Int × Int)) : tot (k ++ l) = tot k + tot l := by simp [tot]
theorem tot_take (l : List (Int × Int)) (k : Nat) (h : k < l.length) : tot (l.take (k + 1)) = tot (l.take k) + l[k].2 := by
  rw [List.take_succ_eq_append_getElem h, tot_append, tot_cons, tot_nil]; simp
theorem tot_all (l : List (Int × Int)) (k : Nat) (h : ¬ k < l.length) : tot (l.take k) = tot l := by rw [List.take_of_length_le (by omega)]
theorem tot_drop (l : List (Int × Int)) (k : Nat) : tot l = tot (l.take k) + tot (l.drop k) := by rw [← tot_append, List.take_append_drop]
theorem tot_nonneg (l : List (Int × Int)) (h : ∀ e ∈ l, 1 ≤ e.2) : 0 ≤ tot l := by
  induction l with
  | nil => simp [tot]
  | cons e l ih =>
    rw [tot_cons]
    have := ih fun x hx => h x (List.mem_cons_of_mem _ hx)
    have := h e (List.mem_cons_self ..)
    omega
theorem tot_take_le (l : List (Int × Int)) (k : Nat) (h : ∀ e ∈ l, 1 ≤ e.2) : tot (l.take k) ≤ tot l := by
  rw [tot_drop l k]
  have := tot_nonneg (l.drop k) fun e he => h e (List.mem_of_mem_drop he)
  omega
/-- a policy's box, and a state's -/
abbrev Pol.box (p : Pol) : Obj := .cells #[.int .i64 p.kind, .int .i64 p.limit, .int .i64 p.period, .int .i64 p.burst, .int .i64 p.cap, .bool p.opn] 23
abbrev St.box (s : St) (A : Option Addr) (n cap : Nat) : Obj := .cells #[.int .i64 s.tm, .int .i64 s.level, .int .i64 s.held, .slice A n cap] 32
theorem below_two (w : World) (o o' : Obj) : Below w.heap.size w ((w.alloc o).alloc o') := ((Below.refl _ _).alloc (by simp) _).alloc (by simp) _
def zero : St := ⟨0, 0, 0, []⟩
theorem st_size : (Try.prog.info? 32).map (·.size) = some 4 := by kernel_rfl
/-- a state that lies in memory -/
abbrev scells (tm lv hd : Int) (v : Value) : Array Value := #[.int .i64 tm, .int .i64 lv, .int .i64 hd, v]
theorem scells_one (tm lv hd : Int) (v : Value) (hv : v.oneCell' = true) : (scells tm lv hd v).all (·.oneCell') = true := by
  rw [← Array.all_toList]
  simp only [List.all_cons, List.all_nil, hv, Bool.and_true]
  rfl
theorem slice_one (A : Option Addr) (n c : Nat) : (Value.slice A n c).oneCell' = true := rfl
/-- entries as cells -/
def ecells : List (Int × Int) → List Value
  | [] => []
  | e :: l => .int .i64 e.1 :: .int .i64 e.2 :: ecells l
theorem ecells_length (l : List (Int × Int)) : (ecells l).length = l.length * 2 := by
  induction l with
  | nil => rfl
  | cons e l ih => simp [ecells, ih]; omega
theorem ecells_append (k l : List (Int × Int)) : ecells (k ++ l) = ecells k ++ ecells l := by
  induction k with
  | nil => rfl
  | cons e k ih => simp [ecells, ih]
theorem ecells_one (l : List (Int × Int)) : ∀ u ∈ ecells l, u.oneCell' = true := by
  induction l with
  | nil => simp [ecells]
  | cons e l ih =>
    intro u hu
    simp [ecells] at hu
    rcases hu with rfl | rfl | hu
    · rfl
    · rfl
    · exact ih u hu
theorem ecells_fst (l : List (Int × Int)) (i : Nat) (h : i < l.length) : (ecells l)[i * 2]? = some (.int .i64 l[i].1) := by
  induction l generalizing i with
  | nil => simp at h
  | cons e l ih =>
    cases i with
    | zero => rfl
    | succ i =>
      rw [show (i + 1) * 2 = i * 2 + 1 + 1 by omega]
      simpa [ecells] using ih i (by simpa using h)
theorem ecells_snd (l : List (Int × Int)) (i : Nat) (h : i < l.length) : (ecells l)[i * 2 + 1]? = some (.int .i64 l[i].2) := by
  induction l generalizing i with
  | nil => simp at h
  | cons e l ih =>
    cases i with
    | zero => rfl
    | succ i =>
      rw [show (i + 1) * 2 + 1 = i * 2 + 1 + 1 + 1 by omega]
      simpa [ecells] using ih i (by simpa using h)
theorem add_two (a : Addr) (n : Nat) : (⟨(a.add n).block, (a.add n).off + 1, none⟩ : Addr) = a.add (n + 1) := by
  unfold Addr.add
  by_cases h : n = 0
  · subst h; simp
  · simp [h]; omega
theorem add_block (a : Addr) (n : Nat) : (a.add n).block = a.block := by unfold Addr.add; split <;> rfl
/-- what a reading gives: cell by cell -/
theorem Ents.cells {w : World} {a : Addr} {l : List (Int × Int)} (h : Ents w (some a) l) : ∀ j v, (ecells l)[j]? = some v → w.cell? (a.add j) = some v := by
  intro j v hv
  have hj : j < l.length * 2 := by
    have := (List.getElem?_eq_some_iff.1 hv).1
    rwa [ecells_length] at this
  obtain ⟨a', e, c1, c2⟩ := h (j / 2) (by omega)
  injection e with e
  subst e
  rcases Nat.mod_two_eq_zero_or_one j with h0 | h0
  · have e2 : j = j / 2 * 2 := by omega
    have := ecells_fst l (j / 2) (by omega)
    rw [← e2] at this c1
    rw [c1, ← hv, this]
  · have e2 : j = j / 2 * 2 + 1 := by omega
    have := ecells_snd l (j / 2) (by omega)
    rw [add_two, ← e2] at c2
    rw [← e2] at this
    rw [c2, ← hv, this]
/-- and back -/
theorem Ents.of_cells {w : World} {a : Addr} {l : List (Int × Int)} (h : ∀ j v, (ecells l)[j]? = some v → w.cell? (a.add j) = some v) : Ents w (some a) l := fun i hi =>
  ⟨a, rfl, h _ _ (ecells_fst l i hi), by rw [add_two]; exact h _ _ (ecells_snd l i hi)⟩
/-- a row of the call's own, from block B on, holds these entries -/
def Own (w : World) (B : Nat) (v : Value) (l : List (Int × Int)) : Prop := w.ownsRow B 65 2 v l.length (ecells l)
theorem Own.ents {w : World} {B : Nat} {v : Value} {l : List (Int × Int)} (h : Own w B v l) : ∃ A cap, v = .slice A l.length cap ∧ Ents w A l := by
  rcases h.2 with ⟨rfl, h0⟩ | ⟨g, cap, cur, rfl, hb, hg, hnc, hm, hs, ht⟩
  · obtain rfl : l = [] := List.eq_nil_of_length_eq_zero h0
    exact ⟨none, 0, rfl, Ents.nil _ _⟩
  · exact ⟨some ⟨g, 0, none⟩, cap, rfl, Ents.of_cells fun j v hv => World.ownsRow.cells h (g := g) rfl j v hv⟩
theorem Own.view {w : World} {B : Nat} {v : Value} {l : List (Int × Int)} (h : Own w B v l) : ∃ A cap, v = .slice A l.length cap ∧ l.length ≤ cap ∧ Ents w A l := by
  rcases h.2 with ⟨rfl, h0⟩ | ⟨g, cap, cur, rfl, hb, hg, hnc, hm, hs, ht⟩
  · obtain rfl : l = [] := List.eq_nil_of_length_eq_zero h0
    exact ⟨none, 0, rfl, Nat.le_refl _, Ents.nil _ _⟩
  · exact ⟨some ⟨g, 0, none⟩, cap, rfl, hnc, Ents.of_cells fun j v hv => World.ownsRow.cells h (g := g) rfl j v hv⟩
theorem Own.nil (w : World) (B : Nat) : Own w B (.slice none 0 0) [] := World.ownsRow_nil _ _ _ _
theorem Own.mono {w : World} {B B' : Nat} {v : Value} {l : List (Int × Int)} (h : Own w B v l) (hB : B' ≤ B) : Own w B' v l := by
  refine ⟨h.1, ?_⟩
  rcases h.2 with h2 | ⟨g, cap, cur, hv, hb, r⟩
  · exact .inl h2
  · exact .inr ⟨g, cap, cur, hv, by omega, r⟩
theorem Own.keep {w w' : World} {B : Nat} {v : Value} {l : List (Int × Int)} (h : Own w B v l) (hb : Below w.heap.size w w') : Own w' B v l := by
  refine ⟨h.1, ?_⟩
  rcases h.2 with h2 | ⟨g, cap, cur, hv, hbg, hg, r⟩
  · exact .inl h2
  · exact .inr ⟨g, cap, cur, hv, hbg, by rw [hb.block g (Array.getElem?_eq_some_iff.1 hg).1]; exact hg, r⟩
theorem entry_info : (Try.prog.info? 65).map (fun i => (i.zero, i.size, i.bytes)) = some (some (.agg #[.int .i64 0, .int .i64 0]), 2, 16) := by kernel_rfl
theorem entry_size : (Try.prog.info? 65).map (·.size) = some 2 := by kernel_rfl
theorem clamp_ge (t : Int) : 0 ≤ clamp t := by unfold clamp; split <;> (try split) <;> omega
theorem clamp_le (t : Int) : clamp t ≤ 9007199254740992 := by unfold clamp; split <;> (try split) <;> omega
/-- the value of a state whose entries lie in a row of the call's own, from block B on -/
def Has (w : World) (B : Nat) (v : Value) (s : St) : Prop := ∃ u, v = .agg (scells s.tm s.level s.held u) ∧ Own w B u s.log
theorem Has.keep {w w' : World} {B : Nat} {v : Value} {s : St} (h : Has w B v s) (hb : Below w.heap.size w w') : Has w' B v s := by
  obtain ⟨u, e, ho⟩ := h; exact ⟨u, e, ho.keep hb⟩
theorem Has.mono {w : World} {B B' : Nat} {v : Value} {s : St} (h : Has w B v s) (hB : B' ≤ B) : Has w B' v s := by
  obtain ⟨u, e, ho⟩ := h; exact ⟨u, e, ho.mono hB⟩
theorem Own.set4 {w : World} {B g : Nat} {v : Value} {l : List (Int × Int)} (h : Own w B v l) (hg : g < B) (a b c d : Value) : Own ((((w.setCell ⟨g, 0, none⟩ a).setCell ⟨g, 1, none⟩ b).setCell ⟨g, 2, none⟩ c).setCell ⟨g, 3, none⟩ d) B v l :=
  ownsRow_setCell_below (ownsRow_setCell_below (ownsRow_setCell_below (ownsRow_setCell_below h hg _) hg _) hg _) hg _
theorem below_set4 {w w0 : World} {B g : Nat} (h : Below B w0 w) (hg : B ≤ g) (a b c d : Value) : Below B w0 ((((w.setCell ⟨g, 0, none⟩ a).setCell ⟨g, 1, none⟩ b).setCell ⟨g, 2, none⟩ c).setCell ⟨g, 3, none⟩ d) :=
  (((h.setCell hg _).setCell hg _).setCell hg _).setCell hg _
theorem set4_heap {w : World} {g : Nat} {x y z u : Value} (hg : w.heap[g]? = some (.cells #[x, y, z, u] 32 (0, 0))) (a b c d : Value) : ((((w.setCell ⟨g, 0, none⟩ a).setCell ⟨g, 1, none⟩ b).setCell ⟨g, 2, none⟩ c).setCell ⟨g, 3, none⟩ d).heap[g]? = some (.cells #[a, b, c, d] 32 (0, 0)) :=
  heap_setCell_same _ _ _ _ _ _ (heap_setCell_same _ _ _ _ _ _ (heap_setCell_same _ _ _ _ _ _ (heap_setCell_same _ _ _ _ _ _ hg)))
/-- one result, a state that was stored -/
theorem ret_st {fn : Func} {q : Tmp} {Q : Ending → World → Prop} {a : Act} {w : World} {g : Nat} {x y z u : Value} {fr : Nat × Nat} (h : fn.results = #[.cell q 32]) (hp : a.tmps.getD q undef = .pointer (some ⟨g, 0, none⟩)) (hd : a.defers = []) (hg : w.heap[g]? = some (.cells #[x, y, z, u] 32 fr))
    (hQ : Q (.returned (.agg #[x, y, z, u])) w) : bodyPost Try.prog fn Q .ret a w :=
  bodyPost_ret (results_cell_row h _ _ g 32 _ fr _ hp hg Try.underlying32 rfl st_size) hd hQ
theorem below_three (w : World) (o o' o'' : Obj) : Below w.heap.size w (((w.alloc o).alloc o').alloc o'') := (below_two w o o').alloc (by simp; omega) _
theorem heap_alloc3_new (w : World) (A B C : Obj) : (((w.alloc A).alloc B).alloc C).heap[w.heap.size + 1 + 1]? = some C := by
  have := heap_alloc2_new (w.alloc A) B C
  simpa using this
theorem ecells_set (l : List (Int × Int)) (e : Int × Int) (a b : Int) : ((ecells (l ++ [e])).set (l.length * 2) (.int .i64 a)).set (l.length * 2 + 1) (.int .i64 b) = ecells (l ++ [(a, b)]) := by
  rw [ecells_append, ecells_append]
  have h := ecells_length l
  rw [← h, List.set_append_right _ _ (Nat.le_refl _), List.set_append_right _ _ (by omega)]
  congr 1
  rw [Nat.sub_self, Nat.add_sub_cancel_left]
  rfl
/-- the append of one entry onto a row of the call's own -/
theorem entry_parts : ∃ i, Try.prog.info? 65 = some i ∧ i.zero = some (.agg #[.int .i64 0, .int .i64 0]) ∧ i.size = 2 ∧ i.bytes = 16 := by
  obtain ⟨i, h, a, b, c⟩ := info_parts entry_info
  exact ⟨i, h, a, b, c⟩
theorem Own.alloc {w : World} {B : Nat} {v : Value} {l : List (Int × Int)} (h : Own w B v l) (o : Obj) : Own (w.alloc o) B v l := h.keep ((Below.refl _ _).alloc (Nat.le_refl _) _)
theorem Own.drewN {w : World} {B : Nat} {v : Value} {l : List (Int × Int)} (h : Own w B v l) (n : Nat) : Own (w.drewN n) B v l := h.keep (below_drewN (Below.refl _ _) _)
theorem Own.grown {w w0 w' : World} {B : Nat} {v : Value} {l : List (Int × Int)} (ho : Own w B v l) (hg : w.grownBy w' v.ownBlock) (hb : Below B w0 w) (hB : B ≤ w.heap.size) : Below B w0 w' :=
  hb.grown hg hB fun k hk => (World.ownsRow.lt ho k hk).1
theorem wpList_append_ent {w : World} {ops : Array Oper} {rest : List Oper} {o : Oper} {a : Act} {Q : Exit → Act → World → Prop} (hgd : o.guard = none) (s x : Operand)
    (ho : o.op = .call { callee := .builtin .append, args := #[s, x], argTypes := #[30, 30] })
    (B : Nat) (v : Value) (l : List (Int × Int)) (hs : a.eval s = v) (hown : Own w B v l) (g : Nat) (tm cost : Int) (hx : a.eval x = .slice (some ⟨g, 0, none⟩) 1 1)
    (hg : w.heap[g]? = some (.cells #[.int .i64 tm, .int .i64 cost] 65 (0, 0))) (hn : l.length ≤ 1000) (hB : B ≤ w.heap.size)
    (h : ∀ v' w', Own w' B v' (l ++ [(tm, cost)]) → w.grownBy w' v.ownBlock → wpList Try.prog ops Q rest (a.put o.dst v') w') : wpList Try.prog ops Q (o :: rest) a w := by
  obtain ⟨i0, hi, hz0, hz1, hz2⟩ := entry_parts
  refine wpList_append_own w hgd s x 30 ho B 65 i0 _ 2 16 Try.underlying30 hi hz0 hz1 hz2 rfl (by decide) v l.length (ecells l) hs hown ⟨g, 0, none⟩ 1 1 (ecells [(tm, cost)]) hx rfl ?_ ?_ (by unfold maxLen; omega) (by omega) hB (fun v' w' h2 h3 _ => h v' w' ?_ h3)
  · intro j u hj
    have : ((⟨g, 0, none⟩ : Addr).add j) = ⟨g, j, none⟩ := by unfold Addr.add; split <;> simp_all
    rw [this, cell_of_row _ _ _ _ _ _ hg]
    simpa [ecells] using hj
  · exact ecells_one _
  · have h2' := h2
    rw [← ecells_append] at h2'
    unfold Own
    rw [List.length_append]
    exact h2'
theorem Own.last {w : World} {B : Nat} {v : Value} {k : List (Int × Int)} {e : Int × Int} (h : Own w B v (k ++ [e])) : ∃ g cap, v = .slice (some ⟨g, 0, none⟩) (k.length + 1) cap ∧ B ≤ g ∧ g < w.heap.size ∧ k.length + 1 ≤ cap ∧
    w.cell? ⟨g, k.length * 2, none⟩ = some (.int .i64 e.1) ∧ w.cell? ⟨g, k.length * 2 + 1, none⟩ = some (.int .i64 e.2) ∧ (∀ j, w.frozen? ⟨g, j, none⟩ = false) := by
  have hl := h
  unfold Own at hl
  rw [show (k ++ [e]).length = k.length + 1 by simp] at hl
  rcases h.2 with ⟨_, h0⟩ | ⟨g, cap, cur, rfl, hb, hg, hnc, _⟩
  · simp at h0
  · rw [show (k ++ [e]).length = k.length + 1 by simp] at hnc hl ⊢
    refine ⟨g, cap, rfl, hb, (Array.getElem?_eq_some_iff.1 hg).1, hnc, ?_, ?_, fun j => hl.frozenAt j⟩
    · rw [hl.cellAt _ (by omega), ecells_fst _ _ (by simp)]; simp
    · rw [hl.cellAt _ (by omega), ecells_snd _ _ (by simp)]; simp
theorem Own.set2 {w : World} {B g cap : Nat} {k : List (Int × Int)} {e : Int × Int} (h : Own w B (.slice (some ⟨g, 0, none⟩) (k.length + 1) cap) (k ++ [e])) (a b : Int) :
    Own ((w.setCell ⟨g, k.length * 2, none⟩ (.int .i64 a)).setCell ⟨g, k.length * 2 + 1, none⟩ (.int .i64 b)) B (.slice (some ⟨g, 0, none⟩) (k.length + 1) cap) (k ++ [(a, b)]) := by
  have hl := h
  unfold Own at hl ⊢
  rw [show (k ++ [e]).length = k.length + 1 by simp] at hl
  rw [show (k ++ [(a, b)]).length = k.length + 1 by simp, ← ecells_set k e]
  exact (hl.stored (k.length * 2) (.int .i64 a)).1.stored (k.length * 2 + 1) (.int .i64 b) |>.1
abbrev acells (k n c : Int) : Array Value := #[.int .i64 k, .int .i64 n, .int .i64 c]
theorem Own.setOther {w : World} {B b : Nat} {v : Value} {l : List (Int × Int)} {c : Array Value} {fr : Nat × Nat} (h : Own w B v l) (hb : w.heap[b]? = some (.cells c 32 fr)) (j : Nat) (u : Value) : Own (w.setCell ⟨b, j, none⟩ u) B v l := by
  refine ⟨h.1, ?_⟩
  rcases h.2 with h2 | ⟨g, cap, cur, hv, hbg, hg, r⟩
  · exact .inl h2
  · refine .inr ⟨g, cap, cur, hv, hbg, ?_, r⟩
    have hne : g ≠ b := fun e => by
      subst e
      rw [hg] at hb
      injection hb with hb
      injection hb with _ h2 _
      exact absurd h2 (by decide)
    rw [Below.heap_setCell _ _ _ _ hne]; exact hg
theorem Own.setOther4 {w : World} {B b : Nat} {v : Value} {l : List (Int × Int)} {x y z u : Value} (h : Own w B v l) (hb : w.heap[b]? = some (.cells #[x, y, z, u] 32 (0, 0))) (a c d f : Value) : Own ((((w.setCell ⟨b, 0, none⟩ a).setCell ⟨b, 1, none⟩ c).setCell ⟨b, 2, none⟩ d).setCell ⟨b, 3, none⟩ f) B v l := by
  have h1 := heap_setCell_same _ _ 0 _ _ a hb
  have h2 := heap_setCell_same _ _ 1 _ _ c h1
  have h3 := heap_setCell_same _ _ 2 _ _ d h2
  exact (((h.setOther hb 0 a).setOther h1 1 c).setOther h2 2 d).setOther h3 3 f
theorem below_four (w : World) (o o' o'' o3 : Obj) : Below w.heap.size w ((((w.alloc o).alloc o').alloc o'').alloc o3) := (below_three w o o' o'').alloc (by simp <;> omega) _
theorem heap_alloc4 (w : World) (A B C D : Obj) : ((((w.alloc A).alloc B).alloc C).alloc D).heap[w.heap.size + 1 + 1 + 1]? = some D ∧ ((((w.alloc A).alloc B).alloc C).alloc D).heap[w.heap.size + 1]? = some B := by
  refine ⟨by simpa using heap_alloc3_new (w.alloc A) B C D, ?_⟩
  rw [heap_alloc_old _ _ (by simp <;> omega), heap_alloc_old _ _ (by simp <;> omega)]
  exact heap_alloc2_new _ _ _
/-- two results, the first of which is a state that was stored -/
theorem results_two {P : Program} {fn : Func} {p q : Tmp} {ty : TypeId} (h : fn.results = #[.cell p ty, .tmp q]) (tmps : Array Value) (w : World) (g : Nat) (t : TypeId) (cs : Array Value) (fr : Nat × Nat) (d : TypeDesc) (x : Value)
    (hp : tmps.getD p undef = .pointer (some ⟨g, 0, none⟩)) (hq : tmps.getD q undef = x) (hg : w.heap[g]? = some (.cells cs t fr))
    (hu : P.underlying ty = some d) (hd : (match d with | .struct _ | .array _ _ => true | _ => false) = true) (hi : (P.info? ty).map (·.size) = some cs.size) :
    (results fn tmps).run P w = .ok (.tuple #[.agg cs, x]) w := by
  have hp' : tmps[p]?.getD undef = .pointer (some ⟨g, 0, none⟩) := by simpa using hp
  have hq' : tmps[q]?.getD undef = x := by simpa using hq
  simp [results, h, hp', hq', asAddr, run_loadVar_row w g t ty cs fr d hg hu hd hi]
theorem ret_st2 {fn : Func} {q r : Tmp} {Q : Ending → World → Prop} {a : Act} {w : World} {g : Nat} {x y z u b : Value} {fr : Nat × Nat} (h : fn.results = #[.cell q 32, .tmp r]) (hp : a.tmps.getD q undef = .pointer (some ⟨g, 0, none⟩)) (hr : a.tmps.getD r undef = b) (hd : a.defers = []) (hg : w.heap[g]? = some (.cells #[x, y, z, u] 32 fr))
    (hQ : Q (.returned (.tuple #[.agg #[x, y, z, u], b])) w) : bodyPost Try.prog fn Q .ret a w :=
  bodyPost_ret (results_two h _ _ g 32 _ fr _ _ hp hr hg Try.underlying32 rfl st_size) hd hQ
def sameS (s t : St) : Bool := decide (s.tm = t.tm ∧ s.level = t.level ∧ s.held = t.held ∧ s.log = t.log)
theorem sameS_self (s : St) : sameS s s = true := by simp [sameS]
theorem sameS_iff (s t : St) : sameS s t = true ↔ s = t := by
  cases s; cases t; simp [sameS]
theorem same_take {k l : List (Int × Int)} {i : Nat} (h1 : i < k.length) (h2 : i < l.length) (h : k.take i = l.take i) (he : k[i] = l[i]) : k.take (i + 1) = l.take (i + 1) := by
  rw [List.take_succ_eq_append_getElem h1, List.take_succ_eq_append_getElem h2, h, he]
theorem same_end {k l : List (Int × Int)} {i : Nat} (h1 : ¬ i < k.length) (hl : k.length = l.length) (h : k.take i = l.take i) : k = l := by
  rwa [List.take_of_length_le (by omega), List.take_of_length_le (by omega)] at h
theorem same_differ {k l : List (Int × Int)} {i : Nat} (h1 : i < k.length) (h2 : i < l.length) (he : ¬ k[i] = l[i]) : ¬ k = l := fun e => by
  subst e; exact he rfl
set_option maxHeartbeats 8000000 in
theorem same_calls (s t : St) (A C : Option Addr) (cap cap2 : Nat) (w : World) (hA : Ents w A s.log) (hC : Ents w C t.log) (hn : s.log.length ≤ 1000000) :
    Calls Try.prog 19 #[s.val A s.log.length cap, t.val C t.log.length cap2] w fun e w' => e = .returned (.bool (sameS s t)) ∧ Below w.heap.size w w' := by
  have HA := Lib.hid hA
  have HC := Lib.hid hC
  clear hA hC
  have HB := Lib.hid (below_two w (s.box A s.log.length cap) (t.box C t.log.length cap2))
  unfold St.val
  by_cases h1 : s.tm = t.tm
  · have t1 : (s.tm != t.tm) = false := by simpa using h1
    by_cases h2 : s.level = t.level
    · have t2 : (s.level != t.level) = false := by simpa using h2
      by_cases h3 : s.held = t.held
      · have t3 : (s.held != t.held) = false := by simpa using h3
        by_cases h4 : s.log.length = t.log.length
        · have t4 : ((s.log.length : Int) != (t.log.length : Int)) = false := by simp [h4]
          have E := Lib.hid (show sameS s t = decide (s.log = t.log) by simp [sameS, h1, h2, h3])
          have H4 := Lib.hid h4
          clear h1 h2 h3 h4
          go_enter Try.func19, Try.ntmps19
          go_wp2_with fail
          go_loopw [5] (fun i wr => ∃ (k n : Nat), k ≤ s.log.length ∧ i = .int .i64 k ∧ wr = ((w.alloc (s.box A s.log.length cap)).alloc (t.box C t.log.length cap2)).drewN n ∧ Hid (s.log.take k = t.log.take k)) (fun i _ => s.log.length - (intOf i).toNat)
          case atStart => exact ⟨0, 0, Nat.zero_le _, rfl, rfl, by simp [Hid]⟩
          case round =>
            obtain ⟨k, m, hk, rfl, rfl, HT⟩ := hrel
            by_cases hlt : k < s.log.length
            · have hlt2 : k < t.log.length := by have := H4.out; omega
              obtain ⟨a, rfl, c1, c2⟩ := (HA.out.keep HB.out).at_ hlt
              obtain ⟨c, rfl, c3, c4⟩ := (HC.out.keep HB.out).at_ hlt2
              have i1 : (k : Int) < (s.log.length : Int) := by omega
              have i2 : (k : Int) < (t.log.length : Int) := by omega
              by_cases hx : s.log[k].1 = t.log[k].1
              · by_cases hy : s.log[k].2 = t.log[k].2
                · have q1 : (s.log[k].1 == t.log[k].1) = true := by simpa using hx
                  have q2 : (s.log[k].2 == t.log[k].2) = true := by simpa using hy
                  have HX := Lib.hid (show s.log[k] = t.log[k] from Prod.ext hx hy)
                  clear hx hy
                  go_wp2_with fail
                  go_quiet (fail)
                  go_wp2_with fail
                  go_roundw
                  case rel => exact ⟨k + 1, m + nq, by omega, by go_num, rfl, same_take hlt hlt2 HT HX.out⟩
                  case measure => simp [intOf]; omega
                · have q1 : (s.log[k].1 == t.log[k].1) = true := by simpa using hx
                  have q2 : (s.log[k].2 == t.log[k].2) = false := by simpa using hy
                  have HX := Lib.hid (show ¬ s.log[k] = t.log[k] from fun h => hy (by rw [h]))
                  clear hx hy
                  go_wp2_with fail
                  go_quiet (fail)
                  go_wp2_with fail
                  go_ret
                  exact ⟨by rw [E.out, decide_eq_false (same_differ hlt hlt2 HX.out)]; rfl, below_drewN (below_drewN HB.out _) _⟩
              · have q1 : (s.log[k].1 == t.log[k].1) = false := by simpa using hx
                have HX := Lib.hid (show ¬ s.log[k] = t.log[k] from fun h => hx (by rw [h]))
                clear hx
                go_wp2_with fail
                go_quiet (fail)
                go_wp2_with fail
                go_ret
                exact ⟨by rw [E.out, decide_eq_false (same_differ hlt hlt2 HX.out)]; rfl, below_drewN (below_drewN HB.out _) _⟩
            · go_wp2_with fail
              go_ret
              exact ⟨by rw [E.out, decide_eq_true (same_end hlt H4.out HT.out)]; rfl, below_drewN HB.out _⟩
        · have t4 : ((s.log.length : Int) != (t.log.length : Int)) = true := by simp; omega
          have E := Lib.hid (show sameS s t = false by simp [sameS]; intro _ _ _ h; exact h4 (by rw [h]))
          clear h1 h2 h3 h4
          go_enter Try.func19, Try.ntmps19
          go_wp2_with fail
          go_ret
          exact ⟨by rw [E.out]; rfl, HB.out⟩
      · have t3 : (s.held != t.held) = true := by simpa using h3
        have E := Lib.hid (show sameS s t = false by simp [sameS, h3])
        clear h1 h2 h3
        go_enter Try.func19, Try.ntmps19
        go_wp2_with fail
        go_ret
        exact ⟨by rw [E.out]; rfl, HB.out⟩
    · have t2 : (s.level != t.level) = true := by simpa using h2
      have E := Lib.hid (show sameS s t = false by simp [sameS, h2])
      clear h1 h2
      go_enter Try.func19, Try.ntmps19
      go_wp2_with fail
      go_ret
      exact ⟨by rw [E.out]; rfl, HB.out⟩
  · have t1 : (s.tm != t.tm) = true := by simpa using h1
    have E := Lib.hid (show sameS s t = false by simp [sameS, h1])
    clear h1
    go_enter Try.func19, Try.ntmps19
    go_wp2_with fail
    go_ret
    exact ⟨by rw [E.out]; rfl, HB.out⟩
/-- a block that holds these cells, none of them frozen -/
def Box (w : World) (b : Nat) (t : TypeId) (cs : Array Value) : Prop := w.heap[b]? = some (.cells cs t (0, 0))
theorem Box.keep {w w' : World} {b : Nat} {t : TypeId} {cs : Array Value} (h : Box w b t cs) (hb : Below w.heap.size w w') : Box w' b t cs := by
  unfold Box at *
  rw [hb.block b (Array.getElem?_eq_some_iff.1 h).1]; exact h
theorem Box.alloc {w : World} {b : Nat} {t : TypeId} {cs : Array Value} (h : Box w b t cs) (o : Obj) : Box (w.alloc o) b t cs := h.keep ((Below.refl _ _).alloc (Nat.le_refl _) _)
theorem Box.drew {w : World} {b : Nat} {t : TypeId} {cs : Array Value} (h : Box w b t cs) : Box w.drew b t cs := h
theorem Box.drewN {w : World} {b : Nat} {t : TypeId} {cs : Array Value} (h : Box w b t cs) (n : Nat) : Box (w.drewN n) b t cs := h
theorem Box.new (w : World) (t : TypeId) (cs : Array Value) : Box (w.alloc (.cells cs t)) w.heap.size t cs := heap_alloc_new w _
theorem Box.lt {w : World} {b : Nat} {t : TypeId} {cs : Array Value} (h : Box w b t cs) : b < w.heap.size := (Array.getElem?_eq_some_iff.1 h).1
theorem Box.cell {w : World} {b : Nat} {t : TypeId} {cs : Array Value} (h : Box w b t cs) (i : Nat) : w.cell? ⟨b, i, none⟩ = cs[i]? := cell_of_row _ _ _ _ _ _ h
theorem Box.free {w : World} {b : Nat} {t : TypeId} {cs : Array Value} (h : Box w b t cs) (i : Nat) : w.frozen? ⟨b, i, none⟩ = false := frozen_of_row _ _ _ _ _ h
theorem Box.new1 (w : World) (t : TypeId) (cs : Array Value) (o : Obj) : Box ((w.alloc o).alloc (.cells cs t)) (w.heap.size + 1) t cs := by
  have := Box.new (w.alloc o) t cs; simpa using this
/-- a state's box, written whole -/
theorem Box.set4 {w : World} {g : Nat} {x y z u : Value} (hg : Box w g 32 #[x, y, z, u]) (a b c d : Value) : Box ((((w.setCell ⟨g, 0, none⟩ a).setCell ⟨g, 1, none⟩ b).setCell ⟨g, 2, none⟩ c).setCell ⟨g, 3, none⟩ d) g 32 #[a, b, c, d] := set4_heap hg _ _ _ _
theorem Box.far4 {w : World} {g b : Nat} {t : TypeId} {cs : Array Value} (h : Box w b t cs) (hne : b ≠ g) (x y z u : Value) : Box ((((w.setCell ⟨g, 0, none⟩ x).setCell ⟨g, 1, none⟩ y).setCell ⟨g, 2, none⟩ z).setCell ⟨g, 3, none⟩ u) b t cs := by
  unfold Box at *
  rw [Below.heap_setCell _ _ _ _ hne, Below.heap_setCell _ _ _ _ hne, Below.heap_setCell _ _ _ _ hne, Below.heap_setCell _ _ _ _ hne]; exact h
/-- a slice of entries that lies in a row of the call's own -/
def Sl (w : World) (B : Nat) (A : Option Addr) (cap : Nat) (l : List (Int × Int)) : Prop := Own w B (.slice A l.length cap) l
theorem Sl.ents {w : World} {B cap : Nat} {A : Option Addr} {l : List (Int × Int)} (h : Sl w B A cap l) : Ents w A l := by
  obtain ⟨A', cap', e, hE⟩ := Own.ents h
  injection e with e1 e2 e3
  subst e1; exact hE
theorem Sl.cap {w : World} {B cap : Nat} {A : Option Addr} {l : List (Int × Int)} (h : Sl w B A cap l) : l.length ≤ cap := by
  obtain ⟨A', cap', e, hc, hE⟩ := Own.view h
  injection e with e1 e2 e3
  omega
theorem Sl.keep {w w' : World} {B cap : Nat} {A : Option Addr} {l : List (Int × Int)} (h : Sl w B A cap l) (hb : Below w.heap.size w w') : Sl w' B A cap l := Own.keep h hb
theorem Sl.mono {w : World} {B B' cap : Nat} {A : Option Addr} {l : List (Int × Int)} (h : Sl w B A cap l) (hB : B' ≤ B) : Sl w B' A cap l := Own.mono h hB
theorem Sl.alloc {w : World} {B cap : Nat} {A : Option Addr} {l : List (Int × Int)} (h : Sl w B A cap l) (o : Obj) : Sl (w.alloc o) B A cap l := Own.alloc h o
theorem Sl.far4 {w : World} {B g cap : Nat} {A : Option Addr} {l : List (Int × Int)} (h : Sl w B A cap l) {x y z u : Value} (hg : Box w g 32 #[x, y, z, u]) (a b c d : Value) : Sl ((((w.setCell ⟨g, 0, none⟩ a).setCell ⟨g, 1, none⟩ b).setCell ⟨g, 2, none⟩ c).setCell ⟨g, 3, none⟩ d) B A cap l := Own.setOther4 h hg _ _ _ _
theorem Sl.nil (w : World) (B : Nat) : Sl w B none 0 [] := Own.nil w B
theorem Own.sl {w : World} {B : Nat} {v : Value} {l : List (Int × Int)} (h : Own w B v l) : ∃ A cap, v = .slice A l.length cap ∧ Sl w B A cap l := by
  obtain ⟨A, cap, e, _⟩ := h.ents
  exact ⟨A, cap, e, by subst e; exact h⟩
abbrev pcells (p : Pol) : Array Value := #[.int .i64 p.kind, .int .i64 p.limit, .int .i64 p.period, .int .i64 p.burst, .int .i64 p.cap, .bool p.opn]
theorem pol_size : (Try.prog.info? 23).map (·.size) = some 6 := by kernel_rfl
/-- one result, a policy that was stored -/
theorem ret_pol {fn : Func} {q : Tmp} {Q : Ending → World → Prop} {a : Act} {w : World} {g : Nat} {x y z u b c : Value} {fr : Nat × Nat} (h : fn.results = #[.cell q 23]) (hp : a.tmps.getD q undef = .pointer (some ⟨g, 0, none⟩)) (hd : a.defers = []) (hg : w.heap[g]? = some (.cells #[x, y, z, u, b, c] 23 fr))
    (hQ : Q (.returned (.agg #[x, y, z, u, b, c])) w) : bodyPost Try.prog fn Q .ret a w :=
  bodyPost_ret (results_cell_row h _ _ g 23 _ fr _ hp hg Try.underlying23 rfl pol_size) hd hQ
theorem below_lt1 (w : World) (o : Obj) : w.heap.size ≤ (w.alloc o).heap.size := by simp
theorem below_lt2 (w : World) (o o' : Obj) : w.heap.size ≤ ((w.alloc o).alloc o').heap.size := by simp; omega
/-- a slice's address reads as acts -/
def Acts (w : World) (A : Option Addr) (L : List (Int × Int × Int)) : Prop :=
  ∀ i (h : i < L.length), ∃ a : Addr, A = some a ∧ w.cell? (a.add (i * 3)) = some (.int .i64 L[i].1) ∧ w.cell? ⟨(a.add (i * 3)).block, (a.add (i * 3)).off + 1, none⟩ = some (.int .i64 L[i].2.1) ∧ w.cell? ⟨(a.add (i * 3)).block, (a.add (i * 3)).off + 2, none⟩ = some (.int .i64 L[i].2.2)
theorem Acts.at_ {w : World} {A : Option Addr} {L : List (Int × Int × Int)} (h : Acts w A L) {i : Nat} (hi : i < L.length) : ∃ a : Addr, A = some a ∧ w.cell? (a.add (i * 3)) = some (.int .i64 L[i].1) ∧ w.cell? ⟨(a.add (i * 3)).block, (a.add (i * 3)).off + 1, none⟩ = some (.int .i64 L[i].2.1) ∧ w.cell? ⟨(a.add (i * 3)).block, (a.add (i * 3)).off + 2, none⟩ = some (.int .i64 L[i].2.2) := h i hi
theorem Acts.keep {w w' : World} {A : Option Addr} {L : List (Int × Int × Int)} (h : Acts w A L) (hb : Below w.heap.size w w') : Acts w' A L := fun i hi => by
  obtain ⟨a, e, c1, c2, c3⟩ := h i hi
  exact ⟨a, e, by rw [hb.cell (World.block_lt_of_cell? w _ c1)]; exact c1, by rw [hb.cell (World.block_lt_of_cell? w _ c2)]; exact c2, by rw [hb.cell (World.block_lt_of_cell? w _ c3)]; exact c3⟩
theorem Acts.alloc {w : World} {A : Option Addr} {L : List (Int × Int × Int)} (h : Acts w A L) (o : Obj) : Acts (w.alloc o) A L := h.keep ((Below.refl _ _).alloc (Nat.le_refl _) _)
theorem same_of {s t : St} {b : Bool} (h : sameS s t = b) {A C : Option Addr} {cap cap2 : Nat} {w : World} (hA : Ents w A s.log) (hC : Ents w C t.log) (hn : s.log.length ≤ 1000000) :
    Calls Try.prog 19 #[s.val A s.log.length cap, t.val C t.log.length cap2] w fun e w' => e = .returned (.bool b) ∧ Below w.heap.size w w' := by
  have := same_calls s t A C cap cap2 w hA hC hn; rw [h] at this; exact this
theorem Box.grownOwn {w w' : World} {b B : Nat} {t : TypeId} {cs : Array Value} {v : Value} {l : List (Int × Int)} (h : Box w b t cs) (ho : Own w B v l) (hb : b < B) (hg : w.grownBy w' v.ownBlock) : Box w' b t cs := by
  unfold Box at *
  rw [hg.block b (Array.getElem?_eq_some_iff.1 h).1 (fun e => by have := (World.ownsRow.lt ho b e.symm).1; omega)]; exact h
theorem Box.far1 {w : World} {g b : Nat} {t : TypeId} {cs : Array Value} (h : Box w b t cs) (hne : b ≠ g) (j : Nat) (x : Value) : Box (w.setCell ⟨g, j, none⟩ x) b t cs := by
  unfold Box at *; rw [Below.heap_setCell _ _ _ _ hne]; exact h
theorem Box.log {w : World} {b : Nat} {t : TypeId} {x y z u : Value} (h : Box w b t #[x, y, z, u]) (v : Value) : Box (w.setCell ⟨b, 3, none⟩ v) b t #[x, y, z, v] := heap_setCell_same _ _ 3 _ _ v h
theorem wpList_append_ent2 {w : World} {ops : Array Oper} {o : Oper} {a : Act} {rest : List Oper} {Q : Exit → Act → World → Prop} (hgd : o.guard = none) (s x : Operand)
    (ho : o.op = .call { callee := .builtin .append, args := #[s, x], argTypes := #[30, 30] })
    (B : Nat) (v : Value) (l : List (Int × Int)) (hs : a.eval s = v) (hown : Own w B v l) (g : Nat) (tm cost : Int) (hx : a.eval x = .slice (some ⟨g, 0, none⟩) 1 1)
    (hg : w.heap[g]? = some (.cells #[.int .i64 tm, .int .i64 cost] 65 (0, 0))) (hn : l.length ≤ 1000) (hB : B ≤ w.heap.size)
    (h : ∀ g cap w', Own w' B (.slice (some ⟨g, 0, none⟩) (l.length + 1) cap) (l ++ [(tm, cost)]) → w.grownBy w' v.ownBlock → wpList Try.prog ops Q rest (a.put o.dst (.slice (some ⟨g, 0, none⟩) (l.length + 1) cap)) w') : wpList Try.prog ops Q (o :: rest) a w := by
  obtain ⟨i0, hi, hz0, hz1, hz2⟩ := entry_parts
  refine wpList_append_lies w hgd s x 30 ho B 65 i0 _ 2 16 Try.underlying30 hi hz0 hz1 hz2 rfl (by decide) v l.length (ecells l) hs hown ⟨g, 0, none⟩ 1 1 (ecells [(tm, cost)]) hx rfl ?_ ?_ (by decide) (by unfold maxLen; omega) (by omega) hB _ rfl (fun g cap w' h2 h3 _ _ => h g cap w' ?_ h3)
  · intro j u hj
    have : ((⟨g, 0, none⟩ : Addr).add j) = ⟨g, j, none⟩ := by unfold Addr.add; split <;> simp_all
    rw [this, cell_of_row _ _ _ _ _ _ hg]
    simpa [ecells] using hj
  · exact ecells_one _
  · have h2' := h2
    rw [← ecells_append] at h2'
    unfold Own
    rw [List.length_append]
    exact h2'
theorem Own.setRow {w : World} {B g : Nat} {v : Value} {l : List (Int × Int)} (h : Own w B v l) (hg : g < B) (cs : Array Value) : Own (w.setRow g cs) B v l := by
  refine ⟨h.1, ?_⟩
  rcases h.2 with h2 | ⟨k, cap, cur, hv, hb, hk, r⟩
  · exact .inl h2
  · exact .inr ⟨k, cap, cur, hv, hb, by rw [setRow_other _ _ _ _ (by omega)]; exact hk, r⟩
theorem Own.entsOf {w : World} {B : Nat} {A : Option Addr} {n c : Nat} {l : List (Int × Int)} (h : Own w B (.slice A n c) l) : Ents w A l := by
  obtain ⟨A', c', e, h2⟩ := h.ents
  injection e with e1 e2 e3
  subst e1
  exact h2
theorem Own.setRow' {w : World} {B g : Nat} {v : Value} {l : List (Int × Int)} {cs0 : Array Value} (h : Own w B v l) (hg : Box w g 32 cs0) (cs : Array Value) : Own (w.setRow g cs) B v l := by
  refine ⟨h.1, ?_⟩
  rcases h.2 with h2 | ⟨k, cap, cur, hv, hb, hk, r⟩
  · exact .inl h2
  · refine .inr ⟨k, cap, cur, hv, hb, ?_, r⟩
    have hne : k ≠ g := fun e => by
      subst e
      unfold Box at hg
      rw [hk] at hg
      injection hg with hg
      injection hg with _ h2 _
      exact absurd h2 (by decide)
    rw [setRow_other _ _ _ _ hne]; exact hk
/-- a world in which W's memory is as it was -/
def Grow (W : World) : Type := { w : World // Below W.heap.size W w }
instance grow_some (W : World) : Nonempty (Grow W) := ⟨⟨W, Below.refl _ _⟩⟩
def Grow.w {W : World} (g : Grow W) : World := g.1
theorem Grow.below {W : World} (g : Grow W) : Below W.heap.size W g.w := g.2
theorem Grow.cell {W : World} {b : Nat} {t : TypeId} {cs : Array Value} (h : Box W b t cs) (g : Grow W) (i : Nat) : g.w.cell? ⟨b, i, none⟩ = cs[i]? := (h.keep g.below).cell i
theorem wp_region_grow {P : Program} {id : Nat} {Q : Exit → Act → World → Prop} {a : Act} {W : World} {l : List Oper} (hm : P.follows .mixedOrders = true) (hB : Region.lexB .any l.toArray = true)
    (h : wpQuiet P l.toArray (fun w' => ∃ g : Grow W, w' = g.w) (fun a' => ∀ w', (∃ g : Grow W, w' = g.w) → Q .normal a' w') l a) : (Code.region id l.toArray true).wp P Q a W :=
  wp_region_quiet (C := fun w' => ∃ g : Grow W, w' = g.w) hm hB ⟨⟨W.drew, (Below.refl _ _).drew⟩, rfl⟩ (by simpa using h)
theorem grow_call {P : Program} {f : FuncId} {args : Array Value} {W : World} {g : Grow W} {v : Value} (h : Calls P f args g.w fun e w' => e = .returned v ∧ Below g.w.heap.size g.w w') :
    Calls P f args g.w fun e w'' => e = .returned v ∧ ∃ m : Grow W, w'' = m.w :=
  h.mono fun _ w' ⟨he, hb⟩ => ⟨he, ⟨w', g.below.trans (hb.mono g.below.size)⟩, rfl⟩
theorem grow_same {P : Program} {f : FuncId} {args : Array Value} {W : World} {g : Grow W} {v : Value} (h : Calls P f args g.w fun e w' => e = .returned v ∧ g.w = w') :
    Calls P f args g.w fun e w'' => e = .returned v ∧ ∃ m : Grow W, w'' = m.w :=
  h.mono fun _ _ ⟨he, hb⟩ => ⟨he, g, hb.symm⟩
theorem same_self (s : St) (A C : Option Addr) (cap cap2 : Nat) (w : World) (hA : Ents w A s.log) (hC : Ents w C s.log) (hn : s.log.length ≤ 1000000) :
    Calls Try.prog 19 #[s.val A s.log.length cap, s.val C s.log.length cap2] w fun e w' => e = .returned (.bool true) ∧ Below w.heap.size w w' := by
  have := same_calls s s A C cap cap2 w hA hC hn; rw [sameS_self] at this; exact this
theorem below_3 (w : World) (o o' o'' : Obj) : Below w.heap.size w (((w.alloc o).alloc o').alloc o'') := below_three w o o' o''
/-- a row of numbers of the call's own, from block B on -/
def Ints (w : World) (B : Nat) (v : Value) (l : List Int) : Prop := w.ownsRow B 3 1 v l.length (l.map (Value.int .i64))
theorem Ints.nil (w : World) (B : Nat) : Ints w B (.slice none 0 0) [] := World.ownsRow_nil _ _ _ _
theorem Ints.keep {w w' : World} {B : Nat} {v : Value} {l : List Int} (h : Ints w B v l) (hb : Below w.heap.size w w') : Ints w' B v l := by
  refine ⟨h.1, ?_⟩
  rcases h.2 with h2 | ⟨g, cap, cur, hv, hbg, hg, r⟩
  · exact .inl h2
  · exact .inr ⟨g, cap, cur, hv, hbg, by rw [hb.block g (Array.getElem?_eq_some_iff.1 hg).1]; exact hg, r⟩
theorem Ints.alloc {w : World} {B : Nat} {v : Value} {l : List Int} (h : Ints w B v l) (o : Obj) : Ints (w.alloc o) B v l := h.keep ((Below.refl _ _).alloc (Nat.le_refl _) _)
/-- a cell of another kind of block is written -/
theorem Ints.setOther {w : World} {B b : Nat} {v : Value} {l : List Int} {c : Array Value} {t : TypeId} {fr : Nat × Nat} (h : Ints w B v l) (hb : w.heap[b]? = some (.cells c t fr)) (ht : t ≠ 3) (j : Nat) (u : Value) : Ints (w.setCell ⟨b, j, none⟩ u) B v l := by
  refine ⟨h.1, ?_⟩
  rcases h.2 with h2 | ⟨g, cap, cur, hv, hbg, hg, r⟩
  · exact .inl h2
  · refine .inr ⟨g, cap, cur, hv, hbg, ?_, r⟩
    have hne : g ≠ b := fun e => by
      subst e
      rw [hg] at hb
      injection hb with hb
      injection hb with _ h2 _
      exact ht h2.symm
    rw [Below.heap_setCell _ _ _ _ hne]; exact hg
theorem Ints.far4 {w : World} {B b : Nat} {v : Value} {l : List Int} {x y z u : Value} (h : Ints w B v l) (hb : Box w b 32 #[x, y, z, u]) (a c d f : Value) : Ints ((((w.setCell ⟨b, 0, none⟩ a).setCell ⟨b, 1, none⟩ c).setCell ⟨b, 2, none⟩ d).setCell ⟨b, 3, none⟩ f) B v l := by
  have h1 := heap_setCell_same _ _ 0 _ _ a hb
  have h2 := heap_setCell_same _ _ 1 _ _ c h1
  have h3 := heap_setCell_same _ _ 2 _ _ d h2
  exact (((h.setOther hb (by decide) 0 a).setOther h1 (by decide) 1 c).setOther h2 (by decide) 2 d).setOther h3 (by decide) 3 f
theorem Ints.grownOther {w w' : World} {B : Nat} {v u : Value} {l : List Int} (h : Ints w B v l) (hg : w.grownBy w' u.ownBlock) (hne : v.ownBlock = none ∨ v.ownBlock ≠ u.ownBlock) : Ints w' B v l := World.ownsRow.kept h hg hne
theorem Box.grown {w w' : World} {b B : Nat} {t : TypeId} {cs : Array Value} {v : Value} {l : List Int} (h : Box w b t cs) (hi : Ints w B v l) (ht : t ≠ 3) (hg : w.grownBy w' v.ownBlock) : Box w' b t cs := by
  unfold Box at *
  rw [hg.block b (Array.getElem?_eq_some_iff.1 h).1 ?_]; exact h
  intro e
  rcases hi.2 with ⟨rfl, _⟩ | ⟨g, cap, cur, rfl, _, hgg, _⟩
  · simp [Value.ownBlock] at e
  · simp only [Value.ownBlock, Option.some.injEq] at e
    subst e
    rw [hgg] at h
    injection h with h
    injection h with _ h2 _
    exact ht h2.symm
theorem Sl.grown {w w' : World} {B B' cap : Nat} {A : Option Addr} {k : List (Int × Int)} {v : Value} {l : List Int} (h : Sl w B A cap k) (hi : Ints w B' v l) (hg : w.grownBy w' v.ownBlock) : Sl w' B A cap k := by
  refine World.ownsRow.kept h hg ?_
  rcases h.2 with ⟨e, _⟩ | ⟨g, c, cur, e, _, hgg, _⟩
  · rw [e]; exact .inl rfl
  · right
    rw [e]
    intro he
    rcases hi.2 with ⟨e2, _⟩ | ⟨g2, c2, cur2, e2, _, hg2, _⟩
    · rw [e2] at he; simp [Value.ownBlock] at he
    · rw [e2] at he
      simp only [Value.ownBlock, Option.some.injEq] at he
      subst he
      rw [hgg] at hg2
      injection hg2 with h
      injection h with _ h2 _
      exact absurd h2 (by decide)
theorem int_parts : ∃ i, Try.prog.info? 3 = some i ∧ i.zero = some (.int .i64 0) ∧ i.size = 1 ∧ i.bytes = 8 := by
  have h : (Try.prog.info? 3).map (fun i => (i.zero, i.size, i.bytes)) = some (some (.int .i64 0), 1, 8) := by kernel_rfl
  obtain ⟨i, h, a, b, c⟩ := info_parts h
  exact ⟨i, h, a, b, c⟩
theorem wpList_append_int {w : World} {ops : Array Oper} {rest : List Oper} {o : Oper} {a : Act} {Q : Exit → Act → World → Prop} (hgd : o.guard = none) (s x : Operand)
    (ho : o.op = .call { callee := .builtin .append, args := #[s, x], argTypes := #[52, 52] })
    (B : Nat) (v : Value) (l : List Int) (hs : a.eval s = v) (hown : Ints w B v l) (g : Nat) (n : Int) (hx : a.eval x = .slice (some ⟨g, 0, none⟩) 1 1)
    (hg : w.heap[g]? = some (.cells #[.int .i64 n] 3 (0, 0))) (hn : l.length ≤ 1000) (hB : B ≤ w.heap.size)
    (h : ∀ v' w', Ints w' B v' (l ++ [n]) → w.grownBy w' v.ownBlock → (v'.ownBlock = v.ownBlock ∨ v'.ownBlock = some w.heap.size) → wpList Try.prog ops Q rest (a.put o.dst v') w') : wpList Try.prog ops Q (o :: rest) a w := by
  obtain ⟨i0, hi, hz0, hz1, hz2⟩ := int_parts
  refine wpList_append_own_at w hgd s x 52 ho B 3 i0 _ 1 8 Try.underlying52 hi hz0 hz1 hz2 rfl (by decide) v l.length (l.map (Value.int .i64)) hs hown ⟨g, 0, none⟩ 1 1 [.int .i64 n] hx rfl ?_ ?_ (by unfold maxLen; omega) (by omega) hB (fun v' w' h2 h3 _ h5 => h v' w' ?_ h3 h5)
  · intro j u hj
    have : ((⟨g, 0, none⟩ : Addr).add j) = ⟨g, j, none⟩ := by unfold Addr.add; split <;> simp_all
    rw [this, cell_of_row _ _ _ _ _ _ hg]
    simpa using hj
  · intro u hu; simp at hu; subst hu; rfl
  · unfold Ints
    rw [List.length_append, List.map_append]
    exact h2
theorem Ints.view {w : World} {B : Nat} {v : Value} {l : List Int} (h : Ints w B v l) : ∃ A cap, v = .slice A l.length cap ∧ ∀ i (hi : i < l.length), ∃ a : Addr, A = some a ∧ w.cell? (a.add i) = some (.int .i64 l[i]) := by
  rcases h.2 with ⟨rfl, h0⟩ | ⟨g, cap, cur, rfl, _⟩
  · obtain rfl : l = [] := List.eq_nil_of_length_eq_zero h0
    exact ⟨none, 0, rfl, fun i hi => absurd hi (by simp)⟩
  · refine ⟨some ⟨g, 0, none⟩, cap, rfl, fun i hi => ⟨_, rfl, ?_⟩⟩
    exact World.ownsRow.cells h (g := g) rfl i _ (by simp [hi])

end Wn
end Go.Proofs.Ytikfjdpkjifcdaa
