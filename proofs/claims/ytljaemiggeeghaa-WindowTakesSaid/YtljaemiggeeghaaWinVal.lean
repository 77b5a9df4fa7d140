/-
  The values of policies, states, entries and acts; what window's smallest functions answer, in any world.
-/
import Derived.Test.YtljaemiggeeghaaRows
import Derived.WalkKit
import Derived.WalkSpells
import Derived.WalkLawsBesides
import Derived.Deep.LoopGhost
import Derived.Lib.Hide
namespace Go.Proofs.Ytljaemiggeeghaa
open Go.RowKit
namespace Wn

theorem ret_int {k : IntKind} {a b : Int} (h : a = b) : Ending.returned (.int k a) = .returned (.int k b) := by rw [h]
theorem val_int {k : IntKind} {a b : Int} (h : a = b) : Value.int k a = .int k b := by rw [h]

structure Pol where
  kind : Int
  limit : Int
  period : Int
  burst : Int
  cap : Int
  opn : Bool
structure St where
  tm : Int
  level : Int
  held : Int
  log : List (Int × Int)

/-- within -/
def wi (n a b : Int) : Bool := decide (a ≤ n ∧ n ≤ b)

theorem within_calls (n a b : Int) (w : World) : Calls Try.prog 27 #[.int .i64 n, .int .i64 a, .int .i64 b] w fun e w' => e = .returned (.bool (wi n a b)) ∧ w = w' := by
  by_cases h1 : a ≤ n
  · by_cases h2 : n ≤ b
    · have E := Lib.hid (show wi n a b = true by unfold wi; simp [h1, h2])
      go_enter Try.func27, Try.ntmps27
      go_wp2
      go_ret
      exact ⟨by rw [E.out]; rfl, rfl⟩
    · have E := Lib.hid (show wi n a b = false by unfold wi; simp [h2])
      go_enter Try.func27, Try.ntmps27
      go_wp2
      go_ret
      exact ⟨by rw [E.out]; rfl, rfl⟩
  · have E := Lib.hid (show wi n a b = false by unfold wi; simp [h1])
    go_enter Try.func27, Try.ntmps27
    go_wp2
    go_ret
    exact ⟨by rw [E.out]; rfl, rfl⟩

theorem within_is {n a b : Int} {v : Bool} (h : wi n a b = v) (w : World) : Calls Try.prog 27 #[.int .i64 n, .int .i64 a, .int .i64 b] w fun e w' => e = .returned (.bool v) ∧ w = w' := by
  subst h; exact within_calls n a b w
theorem within_q {n a b : Int} {v : Bool} (h : wi n a b = v) (w : World) : Calls Try.prog 27 #[.int .i64 n, .int .i64 a, .int .i64 b] w fun e w' => e = .returned (.bool v) ∧ w' = w :=
  (within_is h w).mono fun _ _ h => ⟨h.1, h.2.symm⟩
theorem wi_yes {n a b : Int} (h : wi n a b = true) : a ≤ n ∧ n ≤ b := by unfold wi at h; simpa using h
theorem wi_of {n a b : Int} (h : a ≤ n) (h2 : n ≤ b) : wi n a b = true := by unfold wi; simp [h, h2]

def clamp (t : Int) : Int := if t < 0 then 0 else if t > 9007199254740992 then 9007199254740992 else t
theorem clamp_lt {t : Int} (h : t < 0) : clamp t = 0 := by unfold clamp; rw [if_pos h]
theorem clamp_gt {t : Int} (h : t > 9007199254740992) : clamp t = 9007199254740992 := by unfold clamp; rw [if_neg (by omega), if_pos h]
theorem clamp_in {t : Int} (h : ¬ t < 0) (h2 : ¬ t > 9007199254740992) : clamp t = t := by unfold clamp; rw [if_neg h, if_neg h2]

theorem numclamp_calls (t : Int) (w : World) : Calls Try.prog 28 #[.int .i64 t] w fun e w' => e = .returned (.int .i64 (clamp t)) ∧ w = w' := by
  by_cases h1 : t < 0
  · have E := Lib.hid (clamp_lt h1)
    go_enter Try.func28, Try.ntmps28
    go_wp2
    go_ret
    exact ⟨by rw [E.out]; rfl, rfl⟩
  · by_cases h2 : t > 9007199254740992
    · have E := Lib.hid (clamp_gt h2)
      go_enter Try.func28, Try.ntmps28
      go_wp2
      go_ret
      exact ⟨by rw [E.out]; rfl, rfl⟩
    · have E := Lib.hid (clamp_in h1 h2)
      go_enter Try.func28, Try.ntmps28
      go_wp2
      go_ret
      exact ⟨by rw [E.out]; rfl, rfl⟩

theorem refclamp_calls (t : Int) (w : World) : Calls Try.prog 29 #[.int .i64 t] w fun e w' => e = .returned (.int .i64 (clamp t)) ∧ w = w' := by
  by_cases h1 : t < 0
  · have E := Lib.hid (clamp_lt h1)
    go_enter Try.func29, Try.ntmps29
    go_wp2
    go_ret
    exact ⟨by rw [E.out]; rfl, rfl⟩
  · by_cases h2 : t > 9007199254740992
    · have E := Lib.hid (clamp_gt h2)
      go_enter Try.func29, Try.ntmps29
      go_wp2
      go_ret
      exact ⟨by rw [E.out]; rfl, rfl⟩
    · have E := Lib.hid (clamp_in h1 h2)
      go_enter Try.func29, Try.ntmps29
      go_wp2
      go_ret
      exact ⟨by rw [E.out]; rfl, rfl⟩

theorem make_fn (fn : Fn) (first cap : Array Value) (w : World) : (Instr.makeFunc fn first cap).run Try.prog w = .ok (.func fn first cap) w := rfl

theorem sum_calls (n : Int) (w : World) : Calls Try.prog 45 #[.int .i64 n] w fun e w' => e = .returned (.func (.func 46) #[] #[.pointer (some ⟨w.heap.size, 0, none⟩)]) ∧ w' = w.alloc (.cells #[.int .i64 n] 3) := by
  have hmf := make_fn
  go_enter Try.func45, Try.ntmps45
  go_wp2
  go_ret
  exact ⟨rfl, rfl⟩

theorem add_calls (n m : Int) (b : Nat) (w : World) (hc : w.cell? ⟨b, 0, none⟩ = some (.int .i64 n)) (hf : w.frozen? ⟨b, 0, none⟩ = false) (h1 : -4611686018427387904 ≤ n + m) (h2 : n + m ≤ 4611686018427387904) :
    Calls Try.prog 46 #[.int .i64 m, .pointer (some ⟨b, 0, none⟩)] w fun e w' => e = .returned (.int .i64 (n + m)) ∧ w' = w.setCell ⟨b, 0, none⟩ (.int .i64 (n + m)) := by
  go_enter Try.func46, Try.ntmps46
  go_wp2
  go_ret
  exact ⟨rfl, rfl⟩

abbrev Pol.val (p : Pol) : Value := .agg #[.int .i64 p.kind, .int .i64 p.limit, .int .i64 p.period, .int .i64 p.burst, .int .i64 p.cap, .bool p.opn]
abbrev St.val (s : St) (A : Option Addr) (n cap : Nat) : Value := .agg #[.int .i64 s.tm, .int .i64 s.level, .int .i64 s.held, .slice A n cap]

/-- a slice's address reads as entries -/
def Ents (w : World) (A : Option Addr) (l : List (Int × Int)) : Prop :=
  ∀ i (h : i < l.length), ∃ a : Addr, A = some a ∧ w.cell? (a.add (i * 2)) = some (.int .i64 l[i].1) ∧ w.cell? ⟨(a.add (i * 2)).block, (a.add (i * 2)).off + 1, none⟩ = some (.int .i64 l[i].2)
theorem Ents.at_ {w : World} {A : Option Addr} {l : List (Int × Int)} (h : Ents w A l) {i : Nat} (hi : i < l.length) :
    ∃ a : Addr, A = some a ∧ w.cell? (a.add (i * 2)) = some (.int .i64 l[i].1) ∧ w.cell? ⟨(a.add (i * 2)).block, (a.add (i * 2)).off + 1, none⟩ = some (.int .i64 l[i].2) := h i hi
theorem Ents.keep {w w' : World} {A : Option Addr} {l : List (Int × Int)} (h : Ents w A l) (hb : Below w.heap.size w w') : Ents w' A l := fun i hi => by
  obtain ⟨a, e, c1, c2⟩ := h i hi
  exact ⟨a, e, by rw [hb.cell (World.block_lt_of_cell? w _ c1)]; exact c1, by rw [hb.cell (World.block_lt_of_cell? w _ c2)]; exact c2⟩
theorem Ents.nil (w : World) (A : Option Addr) : Ents w A [] := fun i hi => absurd hi (by simp)
theorem Ents.alloc {w : World} {A : Option Addr} {l : List (Int × Int)} (h : Ents w A l) (o : Obj) : Ents (w.alloc o) A l := h.keep ((Below.refl _ _).alloc (Nat.le_refl _) _)

/-- the costs together -/
def tot (l : List (Int × Int)) : Int := (l.map (·.2)).sum
theorem tot_nil : tot [] = 0 := rfl
theorem tot_cons (e : Int × Int) (l : List (Int × Int)) : tot (e :: l) = e.2 + tot l := by simp [tot]
theorem tot_append (k l : List (Int × Int)) : tot (k ++ l) = tot k + tot l := by simp [tot]
theorem tot_take (l : List (Int × Int)) (k : Nat) (h : k < l.length) : tot (l.take (k + 1)) = tot (l.take k) + l[k].2 := by
  rw [List.take_succ_eq_append_getElem h, tot_append, tot_cons, tot_nil]; simp
theorem tot_all (l : List (Int × Int)) (k : Nat) (h : ¬ k < l.length) : tot (l.take k) = tot l := by rw [List.take_of_length_le (by omega)]
theorem tot_drop (l : List (Int × Int)) (k : Nat) : tot l = tot (l.take k) + tot (l.drop k) := by rw [← tot_append, List.take_append_drop]
theorem tot_nonneg (l : List (Int × Int)) (h : ∀ e ∈ l, 1 ≤ e.2) : 0 ≤ tot l := by
  induction l with
  | nil => simp [tot]
  | cons e l ih =>
    rw [tot_cons]
    have := ih fun x hx => h x (List.mem_cons_of_mem _ hx)
    have := h e (List.mem_cons_self ..)
    omega
theorem tot_take_le (l : List (Int × Int)) (k : Nat) (h : ∀ e ∈ l, 1 ≤ e.2) : tot (l.take k) ≤ tot l := by
  rw [tot_drop l k]
  have := tot_nonneg (l.drop k) fun e he => h e (List.mem_of_mem_drop he)
  omega

/-- the entries may be, each behind the one before it, and all together -/
def ordl (lim tm : Int) : Int → Int → List (Int × Int) → Bool
  | _, _, [] => true
  | b, n, e :: l => wi e.1 b tm && wi e.2 1 lim && decide (n + e.2 ≤ lim) && ordl lim tm e.1 (n + e.2) l
theorem ordl_nil (lim tm b n : Int) : ordl lim tm b n [] = true := rfl
theorem ordl_cons (lim tm b n : Int) (e : Int × Int) (l : List (Int × Int)) : ordl lim tm b n (e :: l) = (wi e.1 b tm && wi e.2 1 lim && decide (n + e.2 ≤ lim) && ordl lim tm e.1 (n + e.2) l) := rfl

end Wn
end Go.Proofs.Ytljaemiggeeghaa
