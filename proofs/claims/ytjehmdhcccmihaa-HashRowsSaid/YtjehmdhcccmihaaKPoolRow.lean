/-
  Rows of texts, and rows of such rows, of a call's own: appended, read.
-/
import Derived.Test.YtjehmdhcccmihaaKOwn
import Derived.Test.YtjehmdhcccmihaaKGrow
import Derived.Laws.AppendOwnNone
namespace Go.Proofs.Ytjehmdhcccmihaa.Pool
open Go.RowKit

theorem keep2 {w w' : World} (hb : Below w.heap.size w w') {a : Addr} {v : Value} (h : w.cell? a = some v) : w'.cell? a = some v := by
  rw [hb.cell (World.block_lt_of_cell? w _ h)]; exact h
theorem str_info : (Try.prog.info? 9).map (fun i => (i.zero, i.size, i.bytes)) = some (some (.string ⟨#[]⟩), 1, 16) := by kernel_rfl
theorem str_parts : ∃ i, Try.prog.info? 9 = some i ∧ i.zero = some (.string ⟨#[]⟩) ∧ i.size = 1 ∧ i.bytes = 16 := by
  obtain ⟨i, h, a, b, c⟩ := info_parts str_info
  exact ⟨i, h, a, b, c⟩
theorem sls_info : (Try.prog.info? 22).map (fun i => (i.zero, i.size, i.bytes)) = some (some (.slice none 0 0), 1, 24) := by kernel_rfl
theorem sls_parts : ∃ i, Try.prog.info? 22 = some i ∧ i.zero = some (.slice none 0 0) ∧ i.size = 1 ∧ i.bytes = 24 := by
  obtain ⟨i, h, a, b, c⟩ := info_parts sls_info
  exact ⟨i, h, a, b, c⟩

theorem _root_.Go.Proofs.Ytjehmdhcccmihaa.SRow.alloc {w : World} {B : Nat} {v : Value} {l : List ByteArray} (h : SRow w B v l) (o : Obj) : SRow (w.alloc o) B v l := h.below ((Below.refl _ _).alloc (Nat.le_refl _) _)
theorem _root_.Go.Proofs.Ytjehmdhcccmihaa.SRow.nil (w : World) (B : Nat) : SRow w B (.slice none 0 0) [] := World.ownsRow_nil _ _ _ _
theorem _root_.Go.Proofs.Ytjehmdhcccmihaa.SRow.form {w : World} {B : Nat} {v : Value} {l : List ByteArray} (h : SRow w B v l) : ∃ A n cap, v = .slice A n cap ∧ n = l.length := by obtain ⟨A, cap, e, _⟩ := h.view; exact ⟨A, _, cap, e, rfl⟩
theorem _root_.Go.Proofs.Ytjehmdhcccmihaa.SRow.grown {w w0 w' : World} {B : Nat} {v : Value} {l : List ByteArray} (ho : SRow w B v l) (hg : w.grownBy w' v.ownBlock) (hb : Below B w0 w) (hB : B ≤ w.heap.size) : Below B w0 w' :=
  hb.grown hg hB (fun k hk => (World.ownsRow.lt ho k hk).1)
theorem _root_.Go.Proofs.Ytjehmdhcccmihaa.SRow.lower {w : World} {B B' : Nat} {v : Value} {l : List ByteArray} (h : SRow w B v l) (hb : B' ≤ B) : SRow w B' v l := by
  refine ⟨h.1, ?_⟩
  rcases h.2 with h2 | ⟨g, cap, cur, hv, hB, r⟩
  · exact .inl h2
  · exact .inr ⟨g, cap, cur, hv, by omega, r⟩
theorem wpList_append_str {w : World} {ops : Array Oper} {rest : List Oper} {o : Oper} {a : Act} {Q : Exit → Act → World → Prop} (hgd : o.guard = none) (s x : Operand)
    (ho : o.op = .call { callee := .builtin .append, args := #[s, x], argTypes := #[22, 22] })
    (B : Nat) (v : Value) (l : List ByteArray) (hs : a.eval s = v) (hown : SRow w B v l) (g : Nat) (key : ByteArray) (hx : a.eval x = .slice (some ⟨g, 0, none⟩) 1 1)
    (hg : w.heap[g]? = some (.cells #[.string key] 9 (0, 0))) (hn : l.length ≤ 1048576) (hB : B ≤ w.heap.size)
    (h : ∀ v' w', SRow w' B v' (l ++ [key]) → w.grownBy w' v.ownBlock → wpList Try.prog ops Q rest (a.put o.dst v') w') : wpList Try.prog ops Q (o :: rest) a w := by
  obtain ⟨i0, hi, hz0, hz1, hz2⟩ := str_parts
  refine wpList_append_own w hgd s x 22 ho B 9 i0 _ 1 16 Try.underlying22 hi hz0 hz1 hz2 rfl (by decide) v l.length (l.map fun p => .string p) hs hown ⟨g, 0, none⟩ 1 1 [.string key] hx rfl ?_ ?_ (by unfold maxLen; omega) (by omega) hB (fun v' w' h2 h3 _ => h v' w' ?_ h3)
  · intro j u hj
    have : ((⟨g, 0, none⟩ : Addr).add j) = ⟨g, j, none⟩ := by unfold Addr.add; split <;> simp_all
    rw [this, cell_of_row _ _ _ _ _ _ hg]
    simpa using hj
  · intro u hu; simp at hu; subst hu; rfl
  · unfold SRow
    rw [List.length_append, List.map_append]
    exact h2

/-- a command, and the slice that holds it -/
abbrev Cm := List ByteArray × Option Addr × Nat
def Cm.v (x : Cm) : Value := .slice x.2.1 x.1.length x.2.2
/-- a row of rows of the call's own -/
def RRow (w : World) (B : Nat) (v : Value) (l : List Cm) : Prop := w.ownsRow B 22 1 v l.length (l.map Cm.v)
/-- each command's slice is a row of the call's own -/
def Reads (w : World) (B : Nat) (l : List Cm) : Prop := ∀ x ∈ l, SRow w B (Cm.v x) x.1
theorem Reads.keep {w w' : World} {B : Nat} {l : List Cm} (h : Reads w B l) (hb : Below w.heap.size w w') : Reads w' B l := fun x hx => (h x hx).below hb
theorem Reads.alloc {w : World} {B : Nat} {l : List Cm} (h : Reads w B l) (o : Obj) : Reads (w.alloc o) B l := h.keep ((Below.refl _ _).alloc (Nat.le_refl _) _)
theorem Reads.nil (w : World) (B : Nat) : Reads w B [] := fun x hx => by cases hx
theorem Reads.snoc {w : World} {B : Nat} {l : List Cm} {x : Cm} (h : Reads w B l) (hx : SRow w B (Cm.v x) x.1) : Reads w B (l ++ [x]) := fun y hy => by
  rcases List.mem_append.1 hy with hy | hy
  · exact h y hy
  · rw [List.mem_singleton] at hy; rw [hy]; exact hx
theorem own_ne {w : World} {B B' n n' : Nat} {e e' : TypeId} {v v' : Value} {xs xs' : List Value} (h : w.ownsRow B e 1 v n xs) (h' : w.ownsRow B' e' 1 v' n' xs') (hne : e ≠ e') : v.ownBlock = none ∨ v.ownBlock ≠ v'.ownBlock := by
  rcases h.2 with ⟨rfl, _⟩ | ⟨g, cap, cur, rfl, _, hg, _⟩
  · exact .inl rfl
  · right
    rcases h'.2 with ⟨rfl, _⟩ | ⟨g', cap', cur', rfl, _, hg', _⟩
    · simp [Value.ownBlock]
    · intro he
      simp only [Value.ownBlock, Option.some.injEq] at he
      subst he
      rw [hg] at hg'
      injection hg' with h1
      injection h1 with h1 h2 h3
      exact hne h2
/-- blocks of texts stay where a row of rows grows -/
theorem Reads.grown {w w' : World} {B B' : Nat} {l m : List Cm} {v : Value} (h : Reads w B l) (hv : RRow w B' v m) (hg : w.grownBy w' v.ownBlock) : Reads w' B l := fun x hx =>
  World.ownsRow.kept (h x hx) hg (own_ne (h x hx) hv (by decide))
theorem _root_.Go.Proofs.Ytjehmdhcccmihaa.SRow.text {w : World} {B : Nat} {x : Cm} (h : SRow w B (Cm.v x) x.1) : Texts w x.2.1 x.1 := (SRow.texts h).2
theorem RRow.below {w w' : World} {B : Nat} {v : Value} {l : List Cm} (h : RRow w B v l) (hb : Below w.heap.size w w') : RRow w' B v l := by
  refine ⟨h.1, ?_⟩
  rcases h.2 with h2 | ⟨g, cap, cur, hv, hB, hg, r⟩
  · exact .inl h2
  · exact .inr ⟨g, cap, cur, hv, hB, by rw [hb.block g (Array.getElem?_eq_some_iff.1 hg).1]; exact hg, r⟩
theorem RRow.alloc {w : World} {B : Nat} {v : Value} {l : List Cm} (h : RRow w B v l) (o : Obj) : RRow (w.alloc o) B v l := h.below ((Below.refl _ _).alloc (Nat.le_refl _) _)
theorem RRow.nil (w : World) (B : Nat) : RRow w B (.slice none 0 0) [] := World.ownsRow_nil _ _ _ _
/-- rows of texts in memory -/
def Rows (w : World) (A : Option Addr) (rows : List (List ByteArray)) : Prop := ∀ i (h : i < rows.length), ∃ a : Addr, A = some a ∧ ∃ B c, w.cell? (a.add i) = some (.slice B rows[i].length c) ∧ Texts w B rows[i] ∧ rows[i].length ≤ c ∧ (B = none → c = 0)
theorem Rows.at_ {w : World} {A : Option Addr} {rows : List (List ByteArray)} (h : Rows w A rows) {i : Nat} (hi : i < rows.length) : ∃ a : Addr, A = some a ∧ ∃ B c, w.cell? (a.add i) = some (.slice B rows[i].length c) ∧ Texts w B rows[i] ∧ rows[i].length ≤ c ∧ (B = none → c = 0) := h i hi
theorem Rows.keep {w w' : World} {A : Option Addr} {rows : List (List ByteArray)} (h : Rows w A rows) (hb : Below w.heap.size w w') : Rows w' A rows := fun i hi => by
  obtain ⟨a, e, B, c, h1, h2, h3⟩ := h i hi
  exact ⟨a, e, B, c, keep2 hb h1, h2.keep hb, h3⟩
theorem Rows.nil (w : World) (A : Option Addr) : Rows w A [] := fun i hi => by simp at hi
theorem RRow.view {w : World} {B B' : Nat} {v : Value} {l : List Cm} (h : RRow w B v l) (hr : Reads w B' l) : ∃ A cap, v = .slice A l.length cap ∧ Rows w A (l.map (·.1)) := by
  rcases h.2 with ⟨rfl, h0⟩ | ⟨g, cap, cur, rfl, _⟩
  · obtain rfl : l = [] := List.eq_nil_of_length_eq_zero h0
    exact ⟨none, 0, rfl, Rows.nil _ _⟩
  · refine ⟨some ⟨g, 0, none⟩, cap, rfl, fun i hi => ?_⟩
    have hi' : i < l.length := by simpa using hi
    have hf := hr l[i] (List.getElem_mem hi')
    refine ⟨_, rfl, l[i].2.1, l[i].2.2, ?_, ?_, ?_⟩
    · have := World.ownsRow.cells h (g := g) rfl i (Cm.v l[i]) (by simp [hi'])
      rw [this]
      simp [Cm.v]
    · have := SRow.text (hr l[i] (List.getElem_mem hi'))
      simpa using this
    · have h2 := hf.2
      unfold Cm.v at h2
      rcases h2 with ⟨e, _⟩ | ⟨g', cp, cur', e, _, _, h5, _⟩
      · injection e with e1 e2 e3
        rw [e3]
        simp [e2]
      · injection e with e1 e2 e3
        rw [e3, e1]
        
        exact ⟨by simpa using h5, fun e => by cases e⟩
theorem RRow.form {w : World} {B : Nat} {v : Value} {l : List Cm} (h : RRow w B v l) : ∃ A n cap, v = .slice A n cap ∧ n = l.length := by
  rcases h.2 with ⟨rfl, h0⟩ | ⟨g, cap, cur, rfl, _⟩
  · exact ⟨none, 0, 0, rfl, h0.symm⟩
  · exact ⟨_, _, cap, rfl, rfl⟩
theorem RRow.grown {w w0 w' : World} {B : Nat} {v : Value} {l : List Cm} (ho : RRow w B v l) (hg : w.grownBy w' v.ownBlock) (hb : Below B w0 w) (hB : B ≤ w.heap.size) : Below B w0 w' :=
  hb.grown hg hB (fun k hk => (World.ownsRow.lt ho k hk).1)
theorem wpList_append_row {w : World} {ops : Array Oper} {rest : List Oper} {o : Oper} {a : Act} {Q : Exit → Act → World → Prop} (hgd : o.guard = none) (s x : Operand)
    (ho : o.op = .call { callee := .builtin .append, args := #[s, x], argTypes := #[26, 26] })
    (B : Nat) (v : Value) (l : List Cm) (hs : a.eval s = v) (hown : RRow w B v l) (g : Nat) (y : Cm) (hx : a.eval x = .slice (some ⟨g, 0, none⟩) 1 1)
    (hg : w.heap[g]? = some (.cells #[Cm.v y] 22 (0, 0))) (hn : l.length ≤ 1048576) (hB : B ≤ w.heap.size)
    (h : ∀ v' w', RRow w' B v' (l ++ [y]) → w.grownBy w' v.ownBlock → wpList Try.prog ops Q rest (a.put o.dst v') w') : wpList Try.prog ops Q (o :: rest) a w := by
  obtain ⟨i0, hi, hz0, hz1, hz2⟩ := sls_parts
  refine wpList_append_own w hgd s x 26 ho B 22 i0 _ 1 24 Try.underlying26 hi hz0 hz1 hz2 rfl (by decide) v l.length (l.map Cm.v) hs hown ⟨g, 0, none⟩ 1 1 [Cm.v y] hx rfl ?_ ?_ (by unfold maxLen; omega) (by omega) hB (fun v' w' h2 h3 _ => h v' w' ?_ h3)
  · intro j u hj
    have : ((⟨g, 0, none⟩ : Addr).add j) = ⟨g, j, none⟩ := by unfold Addr.add; split <;> simp_all
    rw [this, cell_of_row _ _ _ _ _ _ hg]
    simpa using hj
  · intro u hu; simp at hu; subst hu; rfl
  · unfold RRow
    rw [List.length_append, List.map_append]
    exact h2
end Go.Proofs.Ytjehmdhcccmihaa.Pool
