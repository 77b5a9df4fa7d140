/-
  add, put.
-/
import Derived.Test.YtdnaecmihgcelaaTabG
import Derived.Deep.AppendLies
import Derived.Laws.MakeOwn
namespace Go.Proofs.Ytdnaecmihgcelaa.Tb
open Go.RowKit

abbrev Sm.added (S : Sm) (key : ByteArray) (s : Nat) (v : Int) : Sm :=
  { S with n := S.n + 1, key := upd S.key (S.n + 1) key, sm := upd S.sm (S.n + 1) s, val := upd S.val (S.n + 1) v, old := upd S.old (S.n + 1) 0, new := upd S.new (S.n + 1) 0 }
abbrev Sm.grown (S : Sm) : Sm := { S with M := 2 * S.M, pl := fun _ => 0 }

theorem ent_info : (Try.prog.info? 80).map (fun i => (i.zero, i.size, i.bytes)) = some (some (.agg #[.string ⟨#[]⟩, .int .u64 0, .int .i64 0, .int .i64 0, .int .i64 0]), 5, 48) := by kernel_rfl
theorem ent_parts : ∃ i, Try.prog.info? 80 = some i ∧ i.zero = some (.agg #[.string ⟨#[]⟩, .int .u64 0, .int .i64 0, .int .i64 0, .int .i64 0]) ∧ i.size = 5 ∧ i.bytes = 48 := by
  obtain ⟨i, h, a, b, c⟩ := info_parts ent_info
  exact ⟨i, h, a, b, c⟩
abbrev newCells (key : ByteArray) (s : Nat) (v : Int) : List Value := [.string key, .int .u64 (s : Nat), .int .i64 v, .int .i64 0, .int .i64 0]

/-- behind an append of one entry, and the store of the slice -/
structure Appended (w w' : World) (L : Lay) (S : Sm) (g cap : Nat) (key : ByteArray) (s : Nat) (v : Int) : Prop where
  at_ : At (w'.setCell ⟨L.ob, 1, none⟩ (.slice (some ⟨g, 0, none⟩) (S.n + 1 + 1) cap)) ⟨L.ob, g, L.pb, cap⟩ (S.added key s v)
  only : Only L.own w w'
  cell : (w'.cell? ⟨L.ob, 1, none⟩) = some (.slice (some ⟨L.eb, 0, none⟩) (S.n + 1) L.ec)
  free : w'.frozen? ⟨L.ob, 1, none⟩ = false
  fresh : g = L.eb ∨ w.heap.size ≤ g

theorem At.own {w : World} {L : Lay} {S : Sm} (h : At w L S) : ∃ xs, w.ownsRow 0 80 5 (.slice (some ⟨L.eb, 0, none⟩) (S.n + 1) L.ec) (S.n + 1) xs ∧
    ∀ i, i ≤ S.n → xs[i * 5]? = some (.string (S.key i)) ∧ xs[i * 5 + 1]? = some (.int .u64 (S.sm i : Nat)) ∧ xs[i * 5 + 2]? = some (.int .i64 (S.val i)) ∧ xs[i * 5 + 3]? = some (.int .i64 (S.old i : Nat)) ∧ xs[i * 5 + 4]? = some (.int .i64 (S.new i : Nat)) := by
  obtain ⟨cur, h1, h2, h3⟩ := h.e
  have hn := h.nec
  refine ⟨cur.toList.take ((S.n + 1) * 5), ⟨?_, .inr ⟨L.eb, L.ec, cur, rfl, Nat.zero_le _, h1, hn, h.ecm, h2, rfl⟩⟩, fun i hi => ?_⟩
  · rw [List.length_take, Array.length_toList]; omega
  · have e : ∀ j, j < 5 → (cur.toList.take ((S.n + 1) * 5))[i * 5 + j]? = cur[i * 5 + j]? := fun j hj => by
      rw [List.getElem?_take, if_pos (by omega), Array.getElem?_toList]
    have e0 := e 0 (by omega)
    simp only [Nat.add_zero] at e0
    rw [e0, e 1 (by omega), e 2 (by omega), e 3 (by omega), e 4 (by omega)]
    exact ⟨h3.key i hi, h3.sm i hi, h3.val i hi, h3.old i hi, h3.new i hi⟩

theorem At.appended {w w' : World} {L : Lay} {S : Sm} (h : At w L S) (hn : S.n + 1 ≤ 10000) {xs : List Value} (hxl : xs.length = (S.n + 1) * 5)
    (hx : ∀ i, i ≤ S.n → xs[i * 5]? = some (.string (S.key i)) ∧ xs[i * 5 + 1]? = some (.int .u64 (S.sm i : Nat)) ∧ xs[i * 5 + 2]? = some (.int .i64 (S.val i)) ∧ xs[i * 5 + 3]? = some (.int .i64 (S.old i : Nat)) ∧ xs[i * 5 + 4]? = some (.int .i64 (S.new i : Nat)))
    {g cap : Nat} {key : ByteArray} {s : Nat} {v : Int} (ho : w'.ownsRow 0 80 5 (.slice (some ⟨g, 0, none⟩) (S.n + 1 + 1) cap) (S.n + 1 + 1) (xs ++ newCells key s v))
    (hg : w.grownBy w' (some L.eb)) (hat : some L.eb = some g ∨ g = w.heap.size) : Appended w w' L S g cap key s v := by
  obtain ⟨_, h2⟩ := ho
  rcases h2 with ⟨e, _⟩ | ⟨g2, cap2, cur, e, _, hcur, hc1, hc2, hc3, htk⟩
  · cases e
  · injection e with e1 e2 e3
    injection e1 with e1
    injection e1 with e1
    subst e1 e3
    have hob : w'.heap[L.ob]? = w.heap[L.ob]? := hg.block _ h.olt (fun e => h.oe (Option.some.inj e))
    have hpb : w'.heap[L.pb]? = w.heap[L.pb]? := hg.block _ h.plt (fun e => h.ep (Option.some.inj e).symm)
    have ho' : w'.heap[L.ob]? = some (.cells (headCells L S) 75 (0, 0)) := by rw [hob]; exact h.o
    have hgo : L.ob ≠ g := by
      rcases hat with e | e
      · rw [← Option.some.inj e]; exact h.oe
      · have := h.olt; omega
    have hgp : g ≠ L.pb := by
      rcases hat with e | e
      · rw [← Option.some.inj e]; exact h.ep
      · have := h.plt; omega
    obtain ⟨c2, p1, p2, p3⟩ := h.p
    have hget : ∀ k, k < (S.n + 1 + 1) * 5 → cur[k]? = (xs ++ newCells key s v)[k]? := fun k hk => by
      rw [← htk, List.getElem?_take, if_pos hk, Array.getElem?_toList]
    have hold : ∀ i d, i ≤ S.n → d < 5 → cur[i * 5 + d]? = xs[i * 5 + d]? := fun i d hi hd => by
      rw [hget _ (by omega), List.getElem?_append_left (by omega)]
    have hnew : ∀ d, d < 5 → cur[(S.n + 1) * 5 + d]? = (newCells key s v)[d]? := fun d hd => by
      rw [hget _ (by omega), List.getElem?_append_right (by omega), hxl]
      congr 1
      omega
    refine ⟨⟨?_, ⟨cur, ?_, hc3, ⟨fun i hi => ?_, fun i hi => ?_, fun i hi => ?_, fun i hi => ?_, fun i hi => ?_⟩⟩, ⟨c2, ?_, p2, p3⟩, hgo, h.op, hgp, by simp only; omega, hc2, hn, h.pow⟩, ?_, ?_, ?_, ?_⟩
    · rw [heap_set ho']
      simp [headCells]
    · rw [heap_far (Ne.symm hgo)]; exact hcur
    · simp only at hi ⊢
      by_cases e : i = S.n + 1
      · subst e; have := hnew 0 (by omega); simp only [Nat.add_zero] at this; rw [this, upd_same]; rfl
      · have := hold i 0 (by omega) (by omega); simp only [Nat.add_zero] at this; rw [this, upd_ne _ _ e]; exact (hx i (by omega)).1
    · simp only at hi ⊢
      by_cases e : i = S.n + 1
      · subst e; rw [hnew 1 (by omega), upd_same]; rfl
      · rw [hold i 1 (by omega) (by omega), upd_ne _ _ e]; exact (hx i (by omega)).2.1
    · simp only at hi ⊢
      by_cases e : i = S.n + 1
      · subst e; rw [hnew 2 (by omega), upd_same]; rfl
      · rw [hold i 2 (by omega) (by omega), upd_ne _ _ e]; exact (hx i (by omega)).2.2.1
    · simp only at hi ⊢
      by_cases e : i = S.n + 1
      · subst e; rw [hnew 3 (by omega), upd_same]; rfl
      · rw [hold i 3 (by omega) (by omega), upd_ne _ _ e]; exact (hx i (by omega)).2.2.2.1
    · simp only at hi ⊢
      by_cases e : i = S.n + 1
      · subst e; rw [hnew 4 (by omega), upd_same]; rfl
      · rw [hold i 4 (by omega) (by omega), upd_ne _ _ e]; exact (hx i (by omega)).2.2.2.2
    · rw [heap_far (Ne.symm h.op), hpb]; exact p1
    · exact (Only.refl _ _).grown hg (fun k hk => .inl (by cases hk; simp))
    · rw [cell_of_row _ _ _ _ _ _ ho']; rfl
    · exact frozen_of_row _ _ _ _ _ ho'
    · rcases hat with e | e
      · exact .inl (Option.some.inj e).symm
      · exact .inr (by omega)

theorem step_append_tab {w : World} {ops : Array Oper} {o : Oper} {a : Act} {K : Act → World → Prop} {Q : Exit → Act → World → Prop} {E : Prop} (hgd : o.guard = none) (s x : Operand)
    (ho : o.op = .call { callee := .builtin .append, args := #[s, x], argTypes := #[72, 72] })
    {L : Lay} {S : Sm} (hs : a.eval s = .slice (some ⟨L.eb, 0, none⟩) (S.n + 1) L.ec) (h : At w L S) (hn : S.n + 1 ≤ 10000) (g0 : Nat) (key : ByteArray) (sm : Nat) (v : Int) (hx : a.eval x = .slice (some ⟨g0, 0, none⟩) 1 1)
    (hg : w.heap[g0]? = some (.cells (newCells key sm v).toArray 80 (0, 0)))
    (hK : ∀ g cap w', Appended w w' L S g cap key sm v → K (a.put o.dst (.slice (some ⟨g, 0, none⟩) (S.n + 1 + 1) cap)) w') :
    if Region.wanted o (yielded ops a.tmps) = true then Oper.wp Try.prog o a w K Q else E := by
  obtain ⟨i0, hi, hz0, hz1, hz2⟩ := ent_parts
  obtain ⟨xs, hown, hxs⟩ := h.own
  refine step_append_lies w hgd s x 72 ho 0 80 i0 _ 5 48 Try.underlying72 hi hz0 hz1 hz2 rfl (by decide) _ (S.n + 1) xs hs hown ⟨g0, 0, none⟩ 1 1 (newCells key sm v) hx rfl ?_ ?_ (by decide) (by unfold maxLen; omega) (by omega) (Nat.zero_le _) _ rfl (fun g cap w' h2 h3 h4 _ => hK g cap w' ?_)
  · intro j u hj
    have : ((⟨g0, 0, none⟩ : Addr).add j) = ⟨g0, j, none⟩ := by unfold Addr.add; split <;> simp_all
    rw [this, cell_of_row _ _ _ _ _ _ hg]
    simpa using hj
  · intro u hu
    simp only [List.mem_cons, List.not_mem_nil, or_false] at hu
    rcases hu with rfl | rfl | rfl | rfl | rfl <;> rfl
  · exact h.appended hn hown.1 hxs h2 h3 h4

end Go.Proofs.Ytdnaecmihgcelaa.Tb
