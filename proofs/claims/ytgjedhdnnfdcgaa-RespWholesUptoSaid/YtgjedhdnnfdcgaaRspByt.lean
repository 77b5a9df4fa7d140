/-
  Rows of bytes of the call's own: appended, read, copied, joined.
-/
import Derived.Test.YtgjedhdnnfdcgaaRspWhl
import Derived.Laws.AppendOwnNone
namespace Go.Proofs.Ytgjedhdnnfdcgaa.Rp
open Go.RowKit

def bcells (l : Bytes) : List Value := l.map fun c => Value.int .u8 (c.toNat : Int)
theorem byte_info : (Try.prog.info? 5).map (fun i => (i.zero, i.size, i.bytes)) = some (some (.int .u8 0), 1, 1) := by kernel_rfl
theorem byte_parts : ∃ i, Try.prog.info? 5 = some i ∧ i.zero = some (.int .u8 0) ∧ i.size = 1 ∧ i.bytes = 1 := by
  obtain ⟨i, h, a, b, c⟩ := info_parts byte_info
  exact ⟨i, h, a, b, c⟩
/-- a row of bytes of the call's own -/
def BRow (w : World) (B : Nat) (v : Value) (l : Bytes) : Prop := w.ownsRow B 5 1 v l.length (bcells l)
theorem BRow.nil (w : World) (B : Nat) : BRow w B (.slice none 0 0) [] := World.ownsRow_nil _ _ _ _
theorem BRow.below {w w' : World} {B : Nat} {v : Value} {l : Bytes} (h : BRow w B v l) (hb : Below w.heap.size w w') : BRow w' B v l := by
  refine ⟨h.1, ?_⟩
  rcases h.2 with h2 | ⟨g, cap, cur, hv, hB, hg, r⟩
  · exact .inl h2
  · exact .inr ⟨g, cap, cur, hv, hB, by rw [hb.block g (Array.getElem?_eq_some_iff.1 hg).1]; exact hg, r⟩
theorem BRow.alloc {w : World} {B : Nat} {v : Value} {l : Bytes} (h : BRow w B v l) (o : Obj) : BRow (w.alloc o) B v l := h.below ((Below.refl _ _).alloc (Nat.le_refl _) _)
theorem BRow.view {w : World} {B : Nat} {v : Value} {l : Bytes} (h : BRow w B v l) : ∃ A cap, v = .slice A l.length cap ∧ Bts w A l ∧ l.length ≤ cap ∧ (A = none → cap = 0) ∧ ∀ a, A = some a → B ≤ a.block ∧ a.block < w.heap.size := by
  rcases h.2 with ⟨rfl, h0⟩ | ⟨g, cap, cur, rfl, hB, hg, hc, _⟩
  · obtain rfl : l = [] := List.eq_nil_of_length_eq_zero h0
    exact ⟨none, 0, rfl, fun i hi => absurd hi (by simp), Nat.le_refl _, fun _ => rfl, fun a e => by cases e⟩
  · refine ⟨some ⟨g, 0, none⟩, cap, rfl, fun i hi => ⟨_, rfl, ?_⟩, hc, (fun e => by cases e), (fun a e => by injection e with e; subst e; exact ⟨hB, (Array.getElem?_eq_some_iff.1 hg).1⟩)⟩
    exact World.ownsRow.cells h (g := g) rfl i _ (by simp [bcells, hi])
theorem BRow.form {w : World} {B : Nat} {v : Value} {l : Bytes} (h : BRow w B v l) : ∃ A n cap, v = .slice A n cap ∧ n = l.length := by
  obtain ⟨A, cap, e, _⟩ := h.view
  exact ⟨A, _, cap, e, rfl⟩
theorem BRow.grown {w w0 w' : World} {B : Nat} {v : Value} {l : Bytes} (ho : BRow w B v l) (hg : w.grownBy w' v.ownBlock) (hb : Below B w0 w) (hB : B ≤ w.heap.size) : Below B w0 w' :=
  hb.grown hg hB (fun k hk => (World.ownsRow.lt ho k hk).1)
theorem BRow.lower {w : World} {B B' : Nat} {v : Value} {l : Bytes} (h : BRow w B v l) (hb : B' ≤ B) : BRow w B' v l := by
  refine ⟨h.1, ?_⟩
  rcases h.2 with h2 | ⟨g, cap, cur, hv, hB, r⟩
  · exact .inl h2
  · exact .inr ⟨g, cap, cur, hv, by omega, r⟩
theorem bcells_append (l m : Bytes) : bcells (l ++ m) = bcells l ++ bcells m := by simp [bcells]
theorem wpList_append_bts2 {w : World} {ops : Array Oper} {rest : List Oper} {o : Oper} {a : Act} {Q : Exit → Act → World → Prop} (hgd : o.guard = none) (s x : Operand)
    (ho : o.op = .call { callee := .builtin .append, args := #[s, x], argTypes := #[23, 23] })
    (B : Nat) (v : Value) (l : Bytes) (hs : a.eval s = v) (hown : BRow w B v l) (A : Option Addr) (cap n : Nat) (m : Bytes) (hx : a.eval x = .slice A n cap) (hm : Bts w A m) (hmn : n = m.length) (hnil : A = none → cap = 0)
    (hn : l.length + m.length ≤ 67108864) (hB : B ≤ w.heap.size)
    (h : ∀ v' w', BRow w' B v' (l ++ m) → w.grownBy w' v.ownBlock → (v = .slice none 0 0 → m = [] → v' = .slice none 0 0) → wpList Try.prog ops Q rest (a.put o.dst v') w') : wpList Try.prog ops Q (o :: rest) a w := by
  obtain ⟨i0, hi, hz0, hz1, hz2⟩ := byte_parts
  subst hmn
  cases A with
  | none =>
    obtain rfl := hnil rfl
    obtain rfl : m = [] := by
      cases m with
      | nil => rfl
      | cons c m => obtain ⟨_, e, _⟩ := hm 0 (by simp); cases e
    refine wpList_append_own_none hgd s x 23 ho B 5 i0 1 Try.underlying23 hi v l.length (bcells l) hs hown hx ?_
    exact h v w (by rw [List.append_nil]; exact hown) ⟨rfl, rfl, rfl, Nat.le_refl _, fun _ _ _ => rfl⟩ (fun e _ => e)
  | some ad =>
    refine wpList_append_own w hgd s x 23 ho B 5 i0 _ 1 1 Try.underlying23 hi hz0 hz1 hz2 rfl (by decide) v l.length (bcells l) hs hown ad m.length cap (bcells m) hx (by simp [bcells]) ?_ ?_ (by unfold maxLen; omega) (by omega) hB (fun v' w' h2 h3 h4 => h v' w' ?_ h3 (fun e e2 => h4.2 ⟨e, by rw [e2]; rfl⟩))
    · intro j u hj
      have hj' : j < m.length := by
        have := (List.getElem?_eq_some_iff.1 hj).1
        simpa [bcells] using this
      obtain ⟨a', e, hc⟩ := hm j hj'
      injection e with e
      subst e
      rw [hc]
      simp [bcells, hj'] at hj
      rw [hj]
    · intro u hu
      obtain ⟨c, _, rfl⟩ := List.mem_map.1 hu
      rfl
    · unfold BRow
      rw [List.length_append, bcells_append]
      exact h2

theorem wpList_append_bts {w : World} {ops : Array Oper} {rest : List Oper} {o : Oper} {a : Act} {Q : Exit → Act → World → Prop} (hgd : o.guard = none) (s x : Operand)
    (ho : o.op = .call { callee := .builtin .append, args := #[s, x], argTypes := #[23, 23] })
    (B : Nat) (v : Value) (l : Bytes) (hs : a.eval s = v) (hown : BRow w B v l) (A : Option Addr) (cap n : Nat) (m : Bytes) (hx : a.eval x = .slice A n cap) (hm : Bts w A m) (hmn : n = m.length) (hnil : A = none → cap = 0)
    (hn : l.length + m.length ≤ 67108864) (hB : B ≤ w.heap.size)
    (h : ∀ v' w', BRow w' B v' (l ++ m) → w.grownBy w' v.ownBlock → wpList Try.prog ops Q rest (a.put o.dst v') w') : wpList Try.prog ops Q (o :: rest) a w :=
  wpList_append_bts2 hgd s x ho B v l hs hown A cap n m hx hm hmn hnil hn hB fun v' w' h1 h2 _ => h v' w' h1 h2

set_option maxHeartbeats 1000000 in
theorem copy_calls (A : Option Addr) (cap : Nat) (l : Bytes) (w : World) (hA : Bts w A l) (hn : A = none → cap = 0) (hl : l.length ≤ 1048576) :
    Calls Try.prog 26 #[.slice A l.length cap] w fun e w' => ∃ v, e = .returned v ∧ BRow w' w.heap.size v l ∧ (l = [] → v = .slice none 0 0) ∧ Below w.heap.size w w' := by
  have HA := Lib.hid hA
  clear hA
  go_enter Try.func26, Try.ntmps26
  go_wp2_with (at_builtin; refine wpList_append_bts2 rfl _ _ rfl w.heap.size _ [] rfl (BRow.nil _ _) A cap _ l rfl HA.out rfl hn (by simp; omega) (Nat.le_refl _) ?_)
  intro v' w1 ho hg hnn
  have HZ : Hid (l = [] → v' = .slice none 0 0) := Lib.hid hnn
  have HB := Lib.hid (BRow.grown (BRow.nil w w.heap.size) hg (Below.refl _ _) (Nat.le_refl _))
  have HO := Lib.hid ho
  obtain ⟨A1, n1, c1, rfl, hn1⟩ := ho.form
  clear ho hg hn1 hnn
  go_wp2_with fail
  go_ret
  exact ⟨_, rfl, HO.out, HZ.out, HB.out⟩
end Go.Proofs.Ytgjedhdnnfdcgaa.Rp
