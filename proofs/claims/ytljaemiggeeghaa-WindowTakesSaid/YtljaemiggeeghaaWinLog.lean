/-
  What window.logged answers, in any world.
-/
import Derived.Test.YtljaemiggeeghaaWinAdv
import Derived.BigRegion
namespace Go.Proofs.Ytljaemiggeeghaa
open Go.RowKit
attribute [local go_sem ↓] Go.wp_at_zero Go.wp_at_succ
namespace Wn

/-- the entries with some cost more -/
def put (p : Pol) (tm : Int) (l : List (Int × Int)) (cost : Int) : List (Int × Int) :=
  match l.getLast? with
  | some e => if e.1 = tm ∨ (l.length : Int) = p.cap then l.dropLast ++ [(tm, e.2 + cost)] else l ++ [(tm, cost)]
  | none => [(tm, cost)]
theorem put_nil (p : Pol) (tm cost : Int) : put p tm [] cost = [(tm, cost)] := rfl
theorem put_in {p : Pol} {tm cost : Int} {l : List (Int × Int)} {e : Int × Int} (h : e.1 = tm ∨ ((l.length : Int) + 1) = p.cap) : put p tm (l ++ [e]) cost = l ++ [(tm, e.2 + cost)] := by
  unfold put; rw [List.getLast?_concat]; simp only [List.length_append, List.length_singleton, List.dropLast_concat]; rw [if_pos (by simpa using h)]
theorem put_new {p : Pol} {tm cost : Int} {l : List (Int × Int)} {e : Int × Int} (h : ¬ (e.1 = tm ∨ ((l.length : Int) + 1) = p.cap)) : put p tm (l ++ [e]) cost = l ++ [e] ++ [(tm, cost)] := by
  unfold put; rw [List.getLast?_concat]; simp only [List.length_append, List.length_singleton]; rw [if_neg (by simpa using h)]

theorem ecells_set (l : List (Int × Int)) (e : Int × Int) (a b : Int) : ((ecells (l ++ [e])).set (l.length * 2) (.int .i64 a)).set (l.length * 2 + 1) (.int .i64 b) = ecells (l ++ [(a, b)]) := by
  rw [ecells_append, ecells_append]
  have h := ecells_length l
  rw [← h, List.set_append_right _ _ (Nat.le_refl _), List.set_append_right _ _ (by omega)]
  congr 1
  rw [Nat.sub_self, Nat.add_sub_cancel_left]
  rfl

/-- the append of one entry onto a row of the call's own -/
theorem entry_parts : ∃ i, Try.prog.info? 62 = some i ∧ i.zero = some (.agg #[.int .i64 0, .int .i64 0]) ∧ i.size = 2 ∧ i.bytes = 16 := by
  obtain ⟨i, h, a, b, c⟩ := info_parts entry_info
  exact ⟨i, h, a, b, c⟩

theorem Own.alloc {w : World} {B : Nat} {v : Value} {l : List (Int × Int)} (h : Own w B v l) (o : Obj) : Own (w.alloc o) B v l := h.keep ((Below.refl _ _).alloc (Nat.le_refl _) _)
theorem Own.drewN {w : World} {B : Nat} {v : Value} {l : List (Int × Int)} (h : Own w B v l) (n : Nat) : Own (w.drewN n) B v l := h.keep (below_drewN (Below.refl _ _) _)
theorem Own.grown {w w0 w' : World} {B : Nat} {v : Value} {l : List (Int × Int)} (ho : Own w B v l) (hg : w.grownBy w' v.ownBlock) (hb : Below B w0 w) (hB : B ≤ w.heap.size) : Below B w0 w' :=
  hb.grown hg hB fun k hk => (World.ownsRow.lt ho k hk).1
/-- no block that was there has turned but v's own -/
def Kept (w : World) (v : Value) (w' : World) : Prop := ∀ b, b < w.heap.size → some b ≠ v.ownBlock → w'.heap[b]? = w.heap[b]?
theorem Kept.grown {w W w' : World} {v : Value} (hW : Below w.heap.size w W) (hg : W.grownBy w' v.ownBlock) : Kept w v w' := fun b hb hne => by
  rw [hg.block b (by have := hW.size; omega) hne]; exact hW.block b hb
theorem Kept.set2 {w W : World} {g n c : Nat} (hW : Below w.heap.size w W) (i j : Nat) (x y : Value) : Kept w (.slice (some ⟨g, 0, none⟩) n c) ((W.setCell ⟨g, i, none⟩ x).setCell ⟨g, j, none⟩ y) := fun b hb hne => by
  have hne' : b ≠ g := fun h => hne (by rw [h]; rfl)
  rw [Below.heap_setCell _ _ _ _ hne', Below.heap_setCell _ _ _ _ hne']; exact hW.block b hb
theorem wpList_append_ent {w : World} {ops : Array Oper} {rest : List Oper} {o : Oper} {a : Act} {Q : Exit → Act → World → Prop} (hgd : o.guard = none) (s x : Operand)
    (ho : o.op = .call { callee := .builtin .append, args := #[s, x], argTypes := #[30, 30] })
    (B : Nat) (v : Value) (l : List (Int × Int)) (hs : a.eval s = v) (hown : Own w B v l) (g : Nat) (tm cost : Int) (hx : a.eval x = .slice (some ⟨g, 0, none⟩) 1 1)
    (hg : w.heap[g]? = some (.cells #[.int .i64 tm, .int .i64 cost] 62 (0, 0))) (hn : l.length ≤ 1000) (hB : B ≤ w.heap.size)
    (h : ∀ v' w', Own w' B v' (l ++ [(tm, cost)]) → w.grownBy w' v.ownBlock → wpList Try.prog ops Q rest (a.put o.dst v') w') : wpList Try.prog ops Q (o :: rest) a w := by
  obtain ⟨i0, hi, hz0, hz1, hz2⟩ := entry_parts
  refine wpList_append_own w hgd s x 30 ho B 62 i0 _ 2 16 Try.underlying30 hi hz0 hz1 hz2 rfl (by decide) v l.length (ecells l) hs hown ⟨g, 0, none⟩ 1 1 (ecells [(tm, cost)]) hx rfl ?_ ?_ (by unfold maxLen; omega) (by omega) hB (fun v' w' h2 h3 _ => h v' w' ?_ h3)
  · intro j u hj
    have : ((⟨g, 0, none⟩ : Addr).add j) = ⟨g, j, none⟩ := by unfold Addr.add; split <;> simp_all
    rw [this, cell_of_row _ _ _ _ _ _ hg]
    simpa [ecells] using hj
  · exact ecells_one _
  · have h2' := h2
    rw [← ecells_append] at h2'
    unfold Own
    rw [List.length_append]
    exact h2'

set_option maxHeartbeats 4000000 in
theorem logged_nil (p : Pol) (s : St) (v : Value) (cost : Int) (B : Nat) (w : World) (ho : Own w B v []) (hB : B ≤ w.heap.size) :
    Calls Try.prog 44 #[p.val, .agg (scells s.tm s.level s.held v), .int .i64 cost] w fun e w' => ∃ v', e = .returned v' ∧ Own w' B v' (put p s.tm [] cost) ∧ Below B w w' ∧ Kept w v w' := by
  obtain ⟨A, cap, rfl, -⟩ := ho.ents
  have HO := Lib.hid (fun n o => (((ho.alloc p.box).alloc (.cells (scells s.tm s.level s.held (.slice A 0 cap)) 32)).drewN n).alloc o)
  have HW := Lib.hid (fun n o => (below_drewN (below_two w p.box (.cells (scells s.tm s.level s.held (.slice A 0 cap)) 32)) n).alloc (show w.heap.size ≤ (World.drewN ((w.alloc p.box).alloc (.cells (scells s.tm s.level s.held (.slice A 0 cap)) 32)) n).heap.size by simp; omega) o)
  have HB := Lib.hid (fun n o => (below_drewN ((below_two w p.box (.cells (scells s.tm s.level s.held (.slice A 0 cap)) 32)).mono hB) n).alloc (show B ≤ (World.drewN ((w.alloc p.box).alloc (.cells (scells s.tm s.level s.held (.slice A 0 cap)) 32)) n).heap.size by simp; omega) o)
  clear ho
  unfold Pol.val
  simp only [List.length_nil] at HO HB HW ⊢
  go_enter Try.func44, Try.ntmps44
  go_wp2_with fail
  go_quiet (fail)
  go_wp2_with (at_builtin; refine wpList_append_ent rfl _ _ rfl B _ [] rfl (HO.out _ _) (w.heap.size + 1 + 1) s.tm cost rfl (by simpa using heap_alloc_new (World.drewN ((w.alloc p.box).alloc (.cells (scells s.tm s.level s.held (.slice A 0 cap)) 32)) nq) _) (by simp) (by simp; omega) ?_)
  intro v' w' ho' hgr
  have HO' := Lib.hid ho'
  have HB' := Lib.hid (Own.grown (HO.out _ _) hgr (HB.out _ _) (by simp; omega))
  have HK' := Lib.hid (Kept.grown (HW.out _ _) hgr)
  clear ho' hgr
  go_wp2
  go_ret
  exact ⟨_, rfl, HO'.out, HB'.out, HK'.out⟩

theorem Own.last {w : World} {B : Nat} {v : Value} {k : List (Int × Int)} {e : Int × Int} (h : Own w B v (k ++ [e])) : ∃ g cap, v = .slice (some ⟨g, 0, none⟩) (k.length + 1) cap ∧ B ≤ g ∧ g < w.heap.size ∧ k.length + 1 ≤ cap ∧
    w.cell? ⟨g, k.length * 2, none⟩ = some (.int .i64 e.1) ∧ w.cell? ⟨g, k.length * 2 + 1, none⟩ = some (.int .i64 e.2) ∧ (∀ j, w.frozen? ⟨g, j, none⟩ = false) := by
  have hl := h
  unfold Own at hl
  rw [show (k ++ [e]).length = k.length + 1 by simp] at hl
  rcases h.2 with ⟨_, h0⟩ | ⟨g, cap, cur, rfl, hb, hg, hnc, _⟩
  · simp at h0
  · rw [show (k ++ [e]).length = k.length + 1 by simp] at hnc hl ⊢
    refine ⟨g, cap, rfl, hb, (Array.getElem?_eq_some_iff.1 hg).1, hnc, ?_, ?_, fun j => hl.frozenAt j⟩
    · rw [hl.cellAt _ (by omega), ecells_fst _ _ (by simp)]; simp
    · rw [hl.cellAt _ (by omega), ecells_snd _ _ (by simp)]; simp

theorem Own.set2 {w : World} {B g cap : Nat} {k : List (Int × Int)} {e : Int × Int} (h : Own w B (.slice (some ⟨g, 0, none⟩) (k.length + 1) cap) (k ++ [e])) (a b : Int) :
    Own ((w.setCell ⟨g, k.length * 2, none⟩ (.int .i64 a)).setCell ⟨g, k.length * 2 + 1, none⟩ (.int .i64 b)) B (.slice (some ⟨g, 0, none⟩) (k.length + 1) cap) (k ++ [(a, b)]) := by
  have hl := h
  unfold Own at hl ⊢
  rw [show (k ++ [e]).length = k.length + 1 by simp] at hl
  rw [show (k ++ [(a, b)]).length = k.length + 1 by simp, ← ecells_set k e]
  exact (hl.stored (k.length * 2) (.int .i64 a)).1.stored (k.length * 2 + 1) (.int .i64 b) |>.1

set_option maxHeartbeats 4000000 in
theorem logged_in (p : Pol) (s : St) (v : Value) (k : List (Int × Int)) (e : Int × Int) (cost : Int) (B : Nat) (w : World) (ho : Own w B v (k ++ [e])) (hB : B ≤ w.heap.size) (hn : k.length ≤ 1000) (h : e.1 = s.tm) (b1 : 0 ≤ e.2 ∧ e.2 ≤ 1048576) (b2 : 0 ≤ cost ∧ cost ≤ 1048576) :
    Calls Try.prog 44 #[p.val, .agg (scells s.tm s.level s.held v), .int .i64 cost] w fun e' w' => ∃ v', e' = .returned v' ∧ Own w' B v' (put p s.tm (k ++ [e]) cost) ∧ Below B w w' ∧ Kept w v w' := by
  obtain ⟨g, cap, rfl, hBg, hgw, hcap, c1, c2, c3⟩ := ho.last
  have c3a := c3 (k.length * 2)
  have c3b := c3 (k.length * 2 + 1)
  have t1 : (e.1 == s.tm) = true := by simpa using h
  have H := Lib.hid h
  have HOO := Lib.hid ho
  have zg1 : g < w.heap.size + 1 := by omega
  clear ho h c3
  unfold Pol.val
  go_enter Try.func44, Try.ntmps44
  go_wp2_with fail
  go_quiet (fail)
  go_wp2_with fail
  go_region
  go_wp2_with fail
  go_ret
  refine ⟨_, rfl, ?_, ?_, ?_⟩
  · rw [put_in (.inl H.out)]
    exact ((((HOO.out.alloc p.box).alloc (.cells (scells s.tm s.level s.held (.slice (some ⟨g, 0, none⟩) (k.length + 1) cap)) 32)).drewN nq).drewN 1).set2 _ _
  · exact ((below_drewN (below_drewN ((below_two w p.box (.cells (scells s.tm s.level s.held (.slice (some ⟨g, 0, none⟩) (k.length + 1) cap)) 32)).mono hB) nq) 1).setCell hBg _).setCell hBg _
  · exact Kept.set2 (below_drewN (below_drewN (below_two w p.box (.cells (scells s.tm s.level s.held (.slice (some ⟨g, 0, none⟩) (k.length + 1) cap)) 32)) nq) 1) _ _ _ _

set_option maxHeartbeats 4000000 in
theorem logged_full (p : Pol) (s : St) (v : Value) (k : List (Int × Int)) (e : Int × Int) (cost : Int) (B : Nat) (w : World) (ho : Own w B v (k ++ [e])) (hB : B ≤ w.heap.size) (hn : k.length ≤ 1000) (h : ¬ e.1 = s.tm) (h2 : (k.length : Int) + 1 = p.cap) (b1 : 0 ≤ e.2 ∧ e.2 ≤ 1048576) (b2 : 0 ≤ cost ∧ cost ≤ 1048576) :
    Calls Try.prog 44 #[p.val, .agg (scells s.tm s.level s.held v), .int .i64 cost] w fun e' w' => ∃ v', e' = .returned v' ∧ Own w' B v' (put p s.tm (k ++ [e]) cost) ∧ Below B w w' ∧ Kept w v w' := by
  obtain ⟨g, cap, rfl, hBg, hgw, hcap, c1, c2, c3⟩ := ho.last
  have c3a := c3 (k.length * 2)
  have c3b := c3 (k.length * 2 + 1)
  have t1 : (e.1 == s.tm) = false := by simpa using h
  have t2 : ((k.length : Int) + 1 == p.cap) = true := by simpa using h2
  have H := Lib.hid h2
  have HOO := Lib.hid ho
  have zg1 : g < w.heap.size + 1 := by omega
  clear ho h h2 c3
  unfold Pol.val
  go_enter Try.func44, Try.ntmps44
  go_wp2_with fail
  go_quiet (fail)
  go_wp2_with fail
  go_region
  go_wp2_with fail
  go_ret
  refine ⟨_, rfl, ?_, ?_, ?_⟩
  · rw [put_in (.inr H.out)]
    exact ((((HOO.out.alloc p.box).alloc (.cells (scells s.tm s.level s.held (.slice (some ⟨g, 0, none⟩) (k.length + 1) cap)) 32)).drewN nq).drewN 1).set2 _ _
  · exact ((below_drewN (below_drewN ((below_two w p.box (.cells (scells s.tm s.level s.held (.slice (some ⟨g, 0, none⟩) (k.length + 1) cap)) 32)).mono hB) nq) 1).setCell hBg _).setCell hBg _
  · exact Kept.set2 (below_drewN (below_drewN (below_two w p.box (.cells (scells s.tm s.level s.held (.slice (some ⟨g, 0, none⟩) (k.length + 1) cap)) 32)) nq) 1) _ _ _ _

set_option maxHeartbeats 4000000 in
theorem logged_new (p : Pol) (s : St) (v : Value) (k : List (Int × Int)) (e : Int × Int) (cost : Int) (B : Nat) (w : World) (ho : Own w B v (k ++ [e])) (hB : B ≤ w.heap.size) (hn : k.length < 1000) (h : ¬ e.1 = s.tm) (h2 : ¬ (k.length : Int) + 1 = p.cap) :
    Calls Try.prog 44 #[p.val, .agg (scells s.tm s.level s.held v), .int .i64 cost] w fun e' w' => ∃ v', e' = .returned v' ∧ Own w' B v' (put p s.tm (k ++ [e]) cost) ∧ Below B w w' ∧ Kept w v w' := by
  obtain ⟨g, cap, rfl, hBg, hgw, hcap, c1, c2, c3⟩ := ho.last
  have c3a := c3 (k.length * 2)
  have c3b := c3 (k.length * 2 + 1)
  have t1 : (e.1 == s.tm) = false := by simpa using h
  have t2 : ((k.length : Int) + 1 == p.cap) = false := by simpa using h2
  have H := Lib.hid (put_new (p := p) (tm := s.tm) (cost := cost) (l := k) (e := e) (fun x => x.elim h h2))
  have zg1 : g < w.heap.size + 1 := by omega
  have HO := Lib.hid (fun n o => (((ho.alloc p.box).alloc (.cells (scells s.tm s.level s.held (.slice (some ⟨g, 0, none⟩) (k.length + 1) cap)) 32)).drewN n).alloc o)
  have HW := Lib.hid (fun n o => (below_drewN (below_two w p.box (.cells (scells s.tm s.level s.held (.slice (some ⟨g, 0, none⟩) (k.length + 1) cap)) 32)) n).alloc (show w.heap.size ≤ (World.drewN ((w.alloc p.box).alloc (.cells (scells s.tm s.level s.held (.slice (some ⟨g, 0, none⟩) (k.length + 1) cap)) 32)) n).heap.size by simp; omega) o)
  have HB := Lib.hid (fun n o => (below_drewN ((below_two w p.box (.cells (scells s.tm s.level s.held (.slice (some ⟨g, 0, none⟩) (k.length + 1) cap)) 32)).mono hB) n).alloc (show B ≤ (World.drewN ((w.alloc p.box).alloc (.cells (scells s.tm s.level s.held (.slice (some ⟨g, 0, none⟩) (k.length + 1) cap)) 32)) n).heap.size by simp; omega) o)
  clear ho h h2 c3
  unfold Pol.val
  go_enter Try.func44, Try.ntmps44
  go_wp2_with fail
  go_quiet (fail)
  go_wp2_with (at_builtin; refine wpList_append_ent rfl _ _ rfl B _ (k ++ [e]) rfl (HO.out _ _) (w.heap.size + 1 + 1) s.tm cost rfl (by simpa using heap_alloc_new (World.drewN ((w.alloc p.box).alloc (.cells (scells s.tm s.level s.held (.slice (some ⟨g, 0, none⟩) (k.length + 1) cap)) 32)) nq) _) (by simp; omega) (by simp; omega) ?_)
  intro v' w' ho' hgr
  have HO' := Lib.hid ho'
  have HB' := Lib.hid (Own.grown (HO.out _ _) hgr (HB.out _ _) (by simp; omega))
  have HK' := Lib.hid (Kept.grown (HW.out _ _) hgr)
  clear ho' hgr
  go_wp2
  go_ret
  exact ⟨_, rfl, by rw [H.out, List.append_assoc]; exact HO'.out, HB'.out, HK'.out⟩

theorem logged_calls (p : Pol) (s : St) (v : Value) (cost : Int) (B : Nat) (w : World) (ho : Own w B v s.log) (hB : B ≤ w.heap.size) (hn : s.log.length ≤ 1000) (hc : ∀ e ∈ s.log, 0 ≤ e.2 ∧ e.2 ≤ 1048576) (b2 : 0 ≤ cost ∧ cost ≤ 1048576) :
    Calls Try.prog 44 #[p.val, .agg (scells s.tm s.level s.held v), .int .i64 cost] w fun e' w' => ∃ v', e' = .returned v' ∧ Own w' B v' (put p s.tm s.log cost) ∧ Below B w w' ∧ Kept w v w' := by
  rcases List.eq_nil_or_concat s.log with h | ⟨k, e, h⟩
  · rw [h] at ho ⊢; exact logged_nil p s v cost B w ho hB
  · rw [List.concat_eq_append] at h
    rw [h] at ho hn hc ⊢
    rw [List.length_append, List.length_singleton] at hn
    have he := hc e (by simp)
    by_cases h1 : e.1 = s.tm
    · exact logged_in p s v k e cost B w ho hB (by omega) h1 he b2
    · by_cases h2 : (k.length : Int) + 1 = p.cap
      · exact logged_full p s v k e cost B w ho hB (by omega) h1 h2 he b2
      · exact logged_new p s v k e cost B w ho hB (by omega) h1 h2

end Wn
end Go.Proofs.Ytljaemiggeeghaa
