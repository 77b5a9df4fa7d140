/-
  What the document's own Advance answers, in any world.
-/
import Derived.Test.YtljaemiggeeghaaWinRfB
import Derived.Deep.AppendLies
import Derived.Deep.DeepCutAuto
import Derived.Deep.RegionHeld3
import Derived.Deep.RegionLaw
namespace Go.Proofs.Ytljaemiggeeghaa
open Go.RowKit
attribute [local go_sem ↓] Go.wp_at_zero Go.wp_at_succ
namespace Wn

theorem Box.grownOwn {w w' : World} {b B : Nat} {t : TypeId} {cs : Array Value} {v : Value} {l : List (Int × Int)} (h : Box w b t cs) (ho : Own w B v l) (hb : b < B) (hg : w.grownBy w' v.ownBlock) : Box w' b t cs := by
  unfold Box at *
  rw [hg.block b (Array.getElem?_eq_some_iff.1 h).1 (fun e => by have := (World.ownsRow.lt ho b e.symm).1; omega)]; exact h
theorem Box.far1 {w : World} {g b : Nat} {t : TypeId} {cs : Array Value} (h : Box w b t cs) (hne : b ≠ g) (j : Nat) (x : Value) : Box (w.setCell ⟨g, j, none⟩ x) b t cs := by
  unfold Box at *; rw [Below.heap_setCell _ _ _ _ hne]; exact h
theorem Box.log {w : World} {b : Nat} {t : TypeId} {x y z u : Value} (h : Box w b t #[x, y, z, u]) (v : Value) : Box (w.setCell ⟨b, 3, none⟩ v) b t #[x, y, z, v] := heap_setCell_same _ _ 3 _ _ v h
theorem wpList_append_ent2 {w : World} {ops : Array Oper} {o : Oper} {a : Act} {rest : List Oper} {Q : Exit → Act → World → Prop} (hgd : o.guard = none) (s x : Operand)
    (ho : o.op = .call { callee := .builtin .append, args := #[s, x], argTypes := #[30, 30] })
    (B : Nat) (v : Value) (l : List (Int × Int)) (hs : a.eval s = v) (hown : Own w B v l) (g : Nat) (tm cost : Int) (hx : a.eval x = .slice (some ⟨g, 0, none⟩) 1 1)
    (hg : w.heap[g]? = some (.cells #[.int .i64 tm, .int .i64 cost] 62 (0, 0))) (hn : l.length ≤ 1000) (hB : B ≤ w.heap.size)
    (h : ∀ g cap w', Own w' B (.slice (some ⟨g, 0, none⟩) (l.length + 1) cap) (l ++ [(tm, cost)]) → w.grownBy w' v.ownBlock → wpList Try.prog ops Q rest (a.put o.dst (.slice (some ⟨g, 0, none⟩) (l.length + 1) cap)) w') : wpList Try.prog ops Q (o :: rest) a w := by
  obtain ⟨i0, hi, hz0, hz1, hz2⟩ := entry_parts
  refine wpList_append_lies w hgd s x 30 ho B 62 i0 _ 2 16 Try.underlying30 hi hz0 hz1 hz2 rfl (by decide) v l.length (ecells l) hs hown ⟨g, 0, none⟩ 1 1 (ecells [(tm, cost)]) hx rfl ?_ ?_ (by decide) (by unfold maxLen; omega) (by omega) hB _ rfl (fun g cap w' h2 h3 _ _ => h g cap w' ?_ h3)
  · intro j u hj
    have : ((⟨g, 0, none⟩ : Addr).add j) = ⟨g, j, none⟩ := by unfold Addr.add; split <;> simp_all
    rw [this, cell_of_row _ _ _ _ _ _ hg]
    simpa [ecells] using hj
  · exact ecells_one _
  · have h2' := h2
    rw [← ecells_append] at h2'
    unfold Own
    rw [List.length_append]
    exact h2'

theorem step_append_ent2 {w : World} {ops : Array Oper} {o : Oper} {a : Act} {K : Act → World → Prop} {Q : Exit → Act → World → Prop} {E : Prop} (hgd : o.guard = none) (s x : Operand)
    (ho : o.op = .call { callee := .builtin .append, args := #[s, x], argTypes := #[30, 30] })
    (B : Nat) (v : Value) (l : List (Int × Int)) (hs : a.eval s = v) (hown : Own w B v l) (g : Nat) (tm cost : Int) (hx : a.eval x = .slice (some ⟨g, 0, none⟩) 1 1)
    (hg : w.heap[g]? = some (.cells #[.int .i64 tm, .int .i64 cost] 62 (0, 0))) (hn : l.length ≤ 1000) (hB : B ≤ w.heap.size)
    (h : ∀ g cap w', Own w' B (.slice (some ⟨g, 0, none⟩) (l.length + 1) cap) (l ++ [(tm, cost)]) → w.grownBy w' v.ownBlock → K (a.put o.dst (.slice (some ⟨g, 0, none⟩) (l.length + 1) cap)) w') :
    if Region.wanted o (yielded ops a.tmps) = true then Oper.wp Try.prog o a w K Q else E := by
  obtain ⟨i0, hi, hz0, hz1, hz2⟩ := entry_parts
  refine step_append_lies w hgd s x 30 ho B 62 i0 _ 2 16 Try.underlying30 hi hz0 hz1 hz2 rfl (by decide) v l.length (ecells l) hs hown ⟨g, 0, none⟩ 1 1 (ecells [(tm, cost)]) hx rfl ?_ ?_ (by decide) (by unfold maxLen; omega) (by omega) hB _ rfl (fun g cap w' h2 h3 _ _ => h g cap w' ?_ h3)
  · intro j u hj
    have : ((⟨g, 0, none⟩ : Addr).add j) = ⟨g, j, none⟩ := by unfold Addr.add; split <;> simp_all
    rw [this, cell_of_row _ _ _ _ _ _ hg]
    simpa [ecells] using hj
  · exact ecells_one _
  · have h2' := h2
    rw [← ecells_append] at h2'
    unfold Own
    rw [List.length_append]
    exact h2'

theorem Own.setRow {w : World} {B g : Nat} {v : Value} {l : List (Int × Int)} (h : Own w B v l) (hg : g < B) (cs : Array Value) : Own (w.setRow g cs) B v l := by
  refine ⟨h.1, ?_⟩
  rcases h.2 with h2 | ⟨k, cap, cur, hv, hb, hk, r⟩
  · exact .inl h2
  · exact .inr ⟨k, cap, cur, hv, hb, by rw [setRow_other _ _ _ _ (by omega)]; exact hk, r⟩
/-- those of the entries that are not gone -/
def keepl (per tm : Int) (l : List (Int × Int)) : List (Int × Int) := l.filter fun e => decide (tm - per < e.1)
theorem keepl_take (per t : Int) (l : List (Int × Int)) (k : Nat) (h : k < l.length) : keepl per t (l.take (k + 1)) = keepl per t (l.take k) ++ if t - per < l[k].1 then [(l[k].1, l[k].2)] else [] := by
  unfold keepl
  rw [List.take_succ_eq_append_getElem h, List.filter_append]
  by_cases hc : t - per < l[k].1 <;> simp [hc]
theorem keepl_len (per t : Int) (l : List (Int × Int)) (k : Nat) : (keepl per t (l.take k)).length ≤ k := by
  have h1 := List.length_filter_le (fun e : Int × Int => decide (t - per < e.1)) (l.take k)
  have h2 := List.length_take_le k l
  unfold keepl; omega
theorem keepl_rem {per tm : Int} {l : List (Int × Int)} (hs : l.Pairwise fun a b => a.1 ≤ b.1) : keepl per tm l = rem per tm l := by
  induction l with
  | nil => rfl
  | cons e l ih =>
    rw [List.pairwise_cons] at hs
    by_cases h : tm - e.1 < per
    · rw [show rem per tm (e :: l) = e :: l by unfold rem; rw [List.dropWhile_cons_of_neg (by simpa using h)]]
      unfold keepl
      exact List.filter_eq_self.2 fun x hx => by
        rcases List.mem_cons.1 hx with rfl | hx
        · simp; omega
        · have := hs.1 x hx; simp; omega
    · rw [show rem per tm (e :: l) = rem per tm l by unfold rem; rw [List.dropWhile_cons_of_pos (by simpa using h)], ← ih hs.2]
      unfold keepl
      have hn : decide (tm - per < e.1) = false := by simp; omega
      simp [hn]

/-- what stands in memory while the entries are gone through -/
def Going (w wr : World) (p : Pol) (s : St) (A : Option Addr) (cap bt : Nat) (tm : Int) (k : Nat) (v : Value) : Prop :=
  Below w.heap.size w wr ∧ Box wr w.heap.size 23 (pcells p) ∧ Box wr (w.heap.size + 1) 32 (scells s.tm s.level s.held (.slice A s.log.length cap)) ∧ Box wr (w.heap.size + 1 + 1) 32 (scells 0 0 0 (.slice none 0 0)) ∧ Box wr bt 32 (scells tm 0 s.held v) ∧ Own wr (bt + 1) v (keepl p.period tm (s.log.take k)) ∧ w.heap.size + 1 + 1 < bt
theorem Going.drewN {w wr : World} {p : Pol} {s : St} {A : Option Addr} {cap bt k : Nat} {tm : Int} {v : Value} (h : Going w wr p s A cap bt tm k v) (n : Nat) : Going w (wr.drewN n) p s A cap bt tm k v :=
  ⟨below_drewN h.1 n, h.2.1.drewN n, h.2.2.1.drewN n, h.2.2.2.1.drewN n, h.2.2.2.2.1.drewN n, h.2.2.2.2.2.1.drewN n, h.2.2.2.2.2.2⟩
theorem Going.skip {w wr : World} {p : Pol} {s : St} {A : Option Addr} {cap bt k : Nat} {tm : Int} {v : Value} (h : Going w wr p s A cap bt tm k v) (hk : k < s.log.length) (hg : ¬ tm - p.period < s.log[k].1) : Going w wr p s A cap bt tm (k + 1) v := by
  refine ⟨h.1, h.2.1, h.2.2.1, h.2.2.2.1, h.2.2.2.2.1, ?_, h.2.2.2.2.2.2⟩
  rw [keepl_take _ _ _ _ hk, if_neg hg, List.append_nil]; exact h.2.2.2.2.2.1
theorem Going.more {w wr w5 : World} {p : Pol} {s : St} {A : Option Addr} {cap bt k : Nat} {tm : Int} {v v' : Value} (h : Going w wr p s A cap bt tm k v) (hk : k < s.log.length) (hg : tm - p.period < s.log[k].1) (o : Obj)
    (ho : Own w5 (bt + 1) v' (keepl p.period tm (s.log.take k) ++ [(s.log[k].1, s.log[k].2)])) (hgr : (wr.alloc o).grownBy w5 v.ownBlock) : Going w (w5.setCell ⟨bt, 3, none⟩ v') p s A cap bt tm (k + 1) v' := by
  obtain ⟨h1, h2, h3, h4, h5, h6, h7⟩ := h
  have hoa := h6.alloc o
  have hz := h1.size
  have hbt := h5.lt
  have hbel : Below w.heap.size w w5 := (h1.alloc h1.size o).grown hgr (Nat.le_trans h1.size (below_lt1 _ _)) (fun q hq => by have := (World.ownsRow.lt hoa q hq).1; omega)
  refine ⟨hbel.setCell (by show w.heap.size ≤ bt; omega) _,
    ((h2.alloc o).grownOwn hoa (by omega) hgr).far1 (by omega) _ _, ((h3.alloc o).grownOwn hoa (by omega) hgr).far1 (by omega) _ _, ((h4.alloc o).grownOwn hoa (by omega) hgr).far1 (by omega) _ _,
    ((h5.alloc o).grownOwn hoa (by omega) hgr).log _, ?_, h7⟩
  rw [keepl_take _ _ _ _ hk, if_pos hg]
  exact ownsRow_setCell_below ho (Nat.lt_succ_self _) _

theorem Going.more2 {w wr w5 : World} {p : Pol} {s : St} {A : Option Addr} {cap bt k : Nat} {tm : Int} {v v' : Value} (h : Going w wr p s A cap bt tm k v) (hk : k < s.log.length) (hg : tm - p.period < s.log[k].1) (o : Obj)
    (ho : Own w5 (bt + 1) v' (keepl p.period tm (s.log.take k) ++ [(s.log[k].1, s.log[k].2)])) (hgr : ((wr.alloc o).drew).grownBy w5 v.ownBlock) : Going w (w5.setCell ⟨bt, 3, none⟩ v') p s A cap bt tm (k + 1) v' := (h.drewN 1).more hk hg o ho hgr
set_option maxHeartbeats 8000000 in
set_option maxRecDepth 100000 in
theorem radvance_calls (p : Pol) (s : St) (A : Option Addr) (cap : Nat) (now : Int) (w : World) (hA : Ents w A s.log) :
    Calls Try.prog 31 #[p.val, s.val A s.log.length cap, .int .i64 now] w fun e w' => ∃ v, e = .returned v ∧ Has w' w.heap.size v (adv p s now) ∧ Below w.heap.size w w' := by
  have HA := Lib.hid hA
  clear hA
  unfold Pol.val St.val
  cases h0 : right p s with
  | false =>
    have E := Lib.hid (show adv p s now = zero by simp [adv, h0])
    have H0 := Lib.hid h0
    have HB3 := Lib.hid (below_three w p.box (s.box A s.log.length cap) (.cells (scells 0 0 0 (.slice none 0 0)) 32))
    clear h0
    go_enter Try.func31, Try.ntmps31
    go_wp2_with fail
    refine (rright_no H0.out A cap _ (HA.out.keep HB3.out)).mono ?_
    rintro e w1 ⟨rfl, hb1⟩
    have hg : w1.heap[w.heap.size + 1 + 1]? = some (.cells (scells 0 0 0 (.slice none 0 0)) 32 (0, 0)) := by rw [hb1.block _ (by simp)]; exact heap_alloc3_new _ _ _ _
    have HB1 := Lib.hid hb1
    clear hb1
    go_wp2_with (refine wpList_store_row rfl 32 _ _ rfl (w.heap.size + 1 + 1) (scells 0 0 0 (.slice none 0 0)) rfl rfl 32 _ hg st_size rfl (scells_one _ _ _ _ (slice_one _ _ _)) ?_)
    refine bodyPost_ret (v := .agg (scells 0 0 0 (.slice none 0 0))) (results_cell_row (p := 6) (ty := 32) Try.results31 _ _ (w.heap.size + 1 + 1) 32 _ (0, 0) _ rfl (setRow_heap _ _ _ _ _ _ hg) Try.underlying32 rfl st_size) rfl ⟨_, rfl, ?_, ?_⟩
    · rw [E.out]; exact has_zero _ _
    · exact below_setRow (HB3.out.trans (HB1.out.mono (by simp; omega))) (by omega) _
  | true =>
    have E := Lib.hid (show adv p s now = adv0 p s now by simp [adv, h0])
    have H0 := Lib.hid h0
    have HO := Lib.hid (right_ok h0)
    have HB3 := Lib.hid (below_three w p.box (s.box A s.log.length cap) (.cells (scells 0 0 0 (.slice none 0 0)) 32))
    have gc0 := clamp_ge now
    have gc1 := clamp_le now
    have gt0 := HO.out.tm0
    have gt1 := HO.out.tm1
    have gn := HO.out.n
    have gp := HO.out.per
    clear h0
    go_enter Try.func31, Try.ntmps31
    go_wp2_with fail
    refine (rright_yes H0.out A cap _ (HA.out.keep HB3.out)).mono ?_
    rintro e w1 ⟨rfl, hb1⟩
    have BP := Lib.hid (Box.keep (Box.alloc (Box.alloc (Box.new w 23 (pcells p)) (s.box A s.log.length cap)) (.cells (scells 0 0 0 (.slice none 0 0)) 32)) hb1)
    have BS := Lib.hid (Box.keep (Box.alloc (Box.new1 w 32 (scells s.tm s.level s.held (.slice A s.log.length cap)) p.box) (.cells (scells 0 0 0 (.slice none 0 0)) 32)) hb1)
    have BZ := Lib.hid (show Box w1 (w.heap.size + 1 + 1) 32 (scells 0 0 0 (.slice none 0 0)) from by unfold Box; rw [hb1.block _ (by simp)]; exact heap_alloc3_new _ _ _ _)
    have d0 : w1.cell? ⟨w.heap.size + 1, 0, none⟩ = some (.int .i64 s.tm) := BS.out.cell 0
    have d2 : w1.cell? ⟨w.heap.size + 1, 2, none⟩ = some (.int .i64 s.held) := BS.out.cell 2
    have d3 : w1.cell? ⟨w.heap.size + 1, 3, none⟩ = some (.slice A s.log.length cap) := BS.out.cell 3
    have z1 : w.heap.size + 1 + 1 < w1.heap.size := by have := hb1.size; simp at this; omega
    have HB1 := Lib.hid (HB3.out.trans (hb1.mono (by simp; omega)))
    clear hb1
    by_cases hm : s.tm < clamp now
    · have gm : 0 ≤ clamp now ∧ clamp now ≤ 9007199254740992 := by omega
      have ET := Lib.hid (show advTm s now = clamp now by unfold advTm; omega)
      have HG0 : Hid (∀ wr, (∃ n, wr = (w1.drewN n).alloc (.cells (scells (clamp now) 0 s.held (.slice none 0 0)) 32)) → Going w wr p s A cap w1.heap.size (clamp now) 0 (.slice none 0 0)) := Lib.hid (by
        rintro wr ⟨n, rfl⟩
        exact ⟨(below_drewN HB1.out n).alloc (by simp; omega) _, (BP.out.drewN n).alloc _, (BS.out.drewN n).alloc _, (BZ.out.drewN n).alloc _, Box.new _ _ _, Own.nil _ _, z1⟩)
      go_wp2_with fail
      go_cut [7] (fun s7 wr => s7 = .pointer (some ⟨w1.heap.size, 0, none⟩) ∧ Hid (Going w wr p s A cap w1.heap.size (clamp now) 0 (.slice none 0 0)))
      case first =>
        go_region_held3 (fun w' => w'.cell? ⟨w.heap.size + 1, 0, none⟩ = some (.int .i64 s.tm) ∧ w'.cell? ⟨w.heap.size + 1, 2, none⟩ = some (.int .i64 s.held)) (go_keep) (first | (go_at_call 29; refine (refclamp_calls now _).mono ?_; rintro e w' ⟨rfl, rfl⟩))
        all_goals (go_wp2_with fail; go_meet)
        case rel => exact ⟨rfl, HG0.out _ ⟨1, rfl⟩⟩
        case rel => exact ⟨rfl, HG0.out _ ⟨1, rfl⟩⟩
        case rel => exact ⟨rfl, HG0.out _ ⟨1, rfl⟩⟩
      obtain ⟨rfl, HC⟩ := hcut
      have HC := Lib.hid (show Going w wc p s A cap w1.heap.size (clamp now) 0 (.slice none 0 0) from HC)
      go_wp2_with fail
      clear d0 d2 d3 hm
      go_loopw [8] (fun i wr => ∃ (k : Nat) (v : Value), k ≤ s.log.length ∧ i = .int .i64 k ∧ Hid (Going w wr p s A cap w1.heap.size (clamp now) k v)) (fun i _ => s.log.length - (intOf i).toNat)
      case atStart => exact ⟨0, .slice none 0 0, Nat.zero_le _, rfl, HC.out⟩
      case round =>
        obtain ⟨k, v, hk, rfl, H⟩ := hrel
        have H := Lib.hid (show Going w wr p s A cap w1.heap.size (clamp now) k v from H)
        have d3 : wr.cell? ⟨w.heap.size + 1, 3, none⟩ = some (.slice A s.log.length cap) := H.out.2.2.1.cell 3
        have e2 : wr.cell? ⟨w.heap.size, 2, none⟩ = some (.int .i64 p.period) := H.out.2.1.cell 2
        have t0 : wr.cell? ⟨w1.heap.size, 0, none⟩ = some (.int .i64 (clamp now)) := H.out.2.2.2.2.1.cell 0
        have t3 : wr.cell? ⟨w1.heap.size, 3, none⟩ = some v := H.out.2.2.2.2.1.cell 3
        have tf := H.out.2.2.2.2.1.free 3
        have zt := H.out.2.2.2.2.1.lt
        by_cases hlt : k < s.log.length
        · obtain ⟨a, rfl, c1, c2⟩ := (HA.out.keep H.out.1).at_ hlt
          have zb : (a.add (k * 2)).block < wr.heap.size := World.block_lt_of_cell? wr _ c1
          have i1 : (k : Int) < (s.log.length : Int) := by omega
          by_cases hg : clamp now - p.period < s.log[k].1
          · have HG := Lib.hid hg
            have hgb : decide (clamp now - p.period < s.log[k].1) = true := by simpa using hg
            clear hg
            go_wp2_with fail
            go_quiet (fail)
            go_wp2_with fail
            have ho3 := Lib.hid (H.out.drewN nq)
            have t3' : (wr.drewN nq).cell? ⟨w1.heap.size, 3, none⟩ = some v := t3
            have d3' : (wr.drewN nq).cell? ⟨w.heap.size + 1, 3, none⟩ = some (.slice (some a) s.log.length cap) := d3
            have c1' : (wr.drewN nq).cell? (a.add (k * 2)) = some (.int .i64 s.log[k].1) := c1
            have c2' : (wr.drewN nq).cell? ⟨(a.add (k * 2)).block, (a.add (k * 2)).off + 1, none⟩ = some (.int .i64 s.log[k].2) := c2
            have tf' : (wr.drewN nq).frozen? ⟨w1.heap.size, 3, none⟩ = false := tf
            have zt' : w1.heap.size < (wr.drewN nq).heap.size := zt
            clear t3 d3 c1 c2 tf zt zb t0 e2
            generalize wr.drewN nq = W2 at ho3 t3' d3' c1' c2' tf' zt' ⊢
            have z7 := ho3.out.2.2.2.2.2.2
            have ag : Value.ownBlock v ≠ some w1.heap.size := fun e => by have := (World.ownsRow.lt ho3.out.2.2.2.2.2.1 _ e).1; omega
            have kl := keepl_len p.period (clamp now) s.log k
            have HKL := Lib.hid (show (keepl p.period (clamp now) (s.log.take k)).length ≤ 1000 by omega)
            clear kl
            have HTF := Lib.hid (show ∀ o, ((W2.alloc o).drew).frozen? ⟨w1.heap.size, 3, none⟩ = false from fun o => (World.frozen?_alloc_past o _ _ zt').trans tf')
            have HTC := Lib.hid (show ∀ o, ((W2.alloc o).drew).cell? ⟨w1.heap.size, 3, none⟩ = some v from fun o => (World.cell?_alloc_past o _ _ zt').trans t3')
            have HLT := Lib.hid (show ∀ o, w1.heap.size < ((W2.alloc o).drew).heap.size from fun o => by simp; omega)
            have HZB := Lib.hid (show ∀ o, w1.heap.size + 1 ≤ ((W2.alloc o).drew).heap.size from fun o => by simp; omega)
            have hsz : W2.heap.size = W2.heap.size := rfl
            clear hsz
            go_region_law (refine step_append_ent2 (by rfl) _ _ (by rfl) (w1.heap.size + 1) v (keepl p.period (clamp now) (s.log.take k)) (by rfl) ((ho3.out.2.2.2.2.2.1.alloc _).keep (Below.refl _ _).drew) W2.heap.size s.log[k].1 s.log[k].2 (by rfl) (heap_alloc_new W2 _) HKL.out (HZB.out _) ?_; intro g5 cap5 w5 ho5 hgr5; have tf5 := (hgr5.frozen_far ⟨w1.heap.size, 3, none⟩ (HLT.out _) (Ne.symm ag)).trans (HTF.out _); have tc5 := (hgr5.cell_far ⟨w1.heap.size, 3, none⟩ (HLT.out _) (Ne.symm ag)).trans (HTC.out _); have HM := Lib.hid (ho3.out.more2 hlt HG.out _ ho5 hgr5); clear hgr5 ho5)
            all_goals
              go_wp2_with fail
              go_roundw
              case rel => exact ⟨k + 1, _, by omega, by go_num, HM.out⟩
              case measure => simp [intOf]; omega
          · have hgb : decide (clamp now - p.period < s.log[k].1) = false := by simpa using hg
            have HS := Lib.hid (H.out.skip hlt hg)
            clear hg
            go_wp2_with fail
            go_quiet (fail)
            go_wp2_with fail
            go_roundw
            case rel => exact ⟨k + 1, v, by omega, by go_num, HS.out.drewN _⟩
            case measure => simp [intOf]; omega
        · have HS := Lib.hid (show keepl p.period (clamp now) (s.log.take k) = rem p.period (clamp now) s.log by rw [List.take_of_length_le (by omega)]; exact keepl_rem HO.out.sorted)
          obtain ⟨A5, cap5, rfl, hE5⟩ := H.out.2.2.2.2.2.1.ents
          clear hE5
          have q0 : wr.cell? ⟨w1.heap.size, 0, none⟩ = some (.int .i64 (clamp now)) := H.out.2.2.2.2.1.cell 0
          have q1 : wr.cell? ⟨w1.heap.size, 1, none⟩ = some (.int .i64 0) := H.out.2.2.2.2.1.cell 1
          have q2 : wr.cell? ⟨w1.heap.size, 2, none⟩ = some (.int .i64 s.held) := H.out.2.2.2.2.1.cell 2
          go_wp2_with (refine wpList_store_row rfl 32 _ _ rfl (w.heap.size + 1 + 1) (scells (clamp now) 0 s.held (.slice A5 (keepl p.period (clamp now) (s.log.take k)).length cap5)) rfl rfl 32 _ H.out.2.2.2.1 st_size rfl (scells_one _ _ _ _ (slice_one _ _ _)) ?_)
          refine bodyPost_ret (v := .agg (scells (clamp now) 0 s.held (.slice A5 (keepl p.period (clamp now) (s.log.take k)).length cap5))) (results_cell_row (p := 6) (ty := 32) Try.results31 _ _ (w.heap.size + 1 + 1) 32 _ (0, 0) _ rfl (setRow_heap _ _ _ _ _ _ H.out.2.2.2.1) Try.underlying32 rfl st_size) rfl ⟨_, rfl, ?_, ?_⟩
          · rw [E.out, adv0, ET.out, ← HS.out]
            exact ⟨_, rfl, ((H.out.2.2.2.2.2.1.setRow (by have := H.out.2.2.2.2.2.2; omega) _).mono (by have := H.out.1.size; omega))⟩
          · exact below_setRow H.out.1 (by omega) _
    · have gm : 0 ≤ s.tm ∧ s.tm ≤ 9007199254740992 := by omega
      have ET := Lib.hid (show advTm s now = s.tm by unfold advTm; omega)
      have HG0 : Hid (∀ wr, (∃ n, wr = (w1.drewN n).alloc (.cells (scells (s.tm) 0 s.held (.slice none 0 0)) 32)) → Going w wr p s A cap w1.heap.size (s.tm) 0 (.slice none 0 0)) := Lib.hid (by
        rintro wr ⟨n, rfl⟩
        exact ⟨(below_drewN HB1.out n).alloc (by simp; omega) _, (BP.out.drewN n).alloc _, (BS.out.drewN n).alloc _, (BZ.out.drewN n).alloc _, Box.new _ _ _, Own.nil _ _, z1⟩)
      go_wp2_with fail
      go_cut [7] (fun s7 wr => s7 = .pointer (some ⟨w1.heap.size, 0, none⟩) ∧ Hid (Going w wr p s A cap w1.heap.size (s.tm) 0 (.slice none 0 0)))
      case first =>
        go_region_held3 (fun w' => w'.cell? ⟨w.heap.size + 1, 0, none⟩ = some (.int .i64 s.tm) ∧ w'.cell? ⟨w.heap.size + 1, 2, none⟩ = some (.int .i64 s.held)) (go_keep) (first | (go_at_call 29; refine (refclamp_calls now _).mono ?_; rintro e w' ⟨rfl, rfl⟩))
        all_goals (go_wp2_with fail; go_meet)
        case rel => exact ⟨rfl, HG0.out _ ⟨1, rfl⟩⟩
        case rel => exact ⟨rfl, HG0.out _ ⟨1, rfl⟩⟩
        case rel => exact ⟨rfl, HG0.out _ ⟨1, rfl⟩⟩
      obtain ⟨rfl, HC⟩ := hcut
      have HC := Lib.hid (show Going w wc p s A cap w1.heap.size (s.tm) 0 (.slice none 0 0) from HC)
      go_wp2_with fail
      clear d0 d2 d3 hm
      go_loopw [8] (fun i wr => ∃ (k : Nat) (v : Value), k ≤ s.log.length ∧ i = .int .i64 k ∧ Hid (Going w wr p s A cap w1.heap.size (s.tm) k v)) (fun i _ => s.log.length - (intOf i).toNat)
      case atStart => exact ⟨0, .slice none 0 0, Nat.zero_le _, rfl, HC.out⟩
      case round =>
        obtain ⟨k, v, hk, rfl, H⟩ := hrel
        have H := Lib.hid (show Going w wr p s A cap w1.heap.size (s.tm) k v from H)
        have d3 : wr.cell? ⟨w.heap.size + 1, 3, none⟩ = some (.slice A s.log.length cap) := H.out.2.2.1.cell 3
        have e2 : wr.cell? ⟨w.heap.size, 2, none⟩ = some (.int .i64 p.period) := H.out.2.1.cell 2
        have t0 : wr.cell? ⟨w1.heap.size, 0, none⟩ = some (.int .i64 (s.tm)) := H.out.2.2.2.2.1.cell 0
        have t3 : wr.cell? ⟨w1.heap.size, 3, none⟩ = some v := H.out.2.2.2.2.1.cell 3
        have tf := H.out.2.2.2.2.1.free 3
        have zt := H.out.2.2.2.2.1.lt
        by_cases hlt : k < s.log.length
        · obtain ⟨a, rfl, c1, c2⟩ := (HA.out.keep H.out.1).at_ hlt
          have zb : (a.add (k * 2)).block < wr.heap.size := World.block_lt_of_cell? wr _ c1
          have i1 : (k : Int) < (s.log.length : Int) := by omega
          by_cases hg : s.tm - p.period < s.log[k].1
          · have HG := Lib.hid hg
            have hgb : decide (s.tm - p.period < s.log[k].1) = true := by simpa using hg
            clear hg
            go_wp2_with fail
            go_quiet (fail)
            go_wp2_with fail
            have ho3 := Lib.hid (H.out.drewN nq)
            have t3' : (wr.drewN nq).cell? ⟨w1.heap.size, 3, none⟩ = some v := t3
            have d3' : (wr.drewN nq).cell? ⟨w.heap.size + 1, 3, none⟩ = some (.slice (some a) s.log.length cap) := d3
            have c1' : (wr.drewN nq).cell? (a.add (k * 2)) = some (.int .i64 s.log[k].1) := c1
            have c2' : (wr.drewN nq).cell? ⟨(a.add (k * 2)).block, (a.add (k * 2)).off + 1, none⟩ = some (.int .i64 s.log[k].2) := c2
            have tf' : (wr.drewN nq).frozen? ⟨w1.heap.size, 3, none⟩ = false := tf
            have zt' : w1.heap.size < (wr.drewN nq).heap.size := zt
            clear t3 d3 c1 c2 tf zt zb t0 e2
            generalize wr.drewN nq = W2 at ho3 t3' d3' c1' c2' tf' zt' ⊢
            have z7 := ho3.out.2.2.2.2.2.2
            have ag : Value.ownBlock v ≠ some w1.heap.size := fun e => by have := (World.ownsRow.lt ho3.out.2.2.2.2.2.1 _ e).1; omega
            have kl := keepl_len p.period (s.tm) s.log k
            have HKL := Lib.hid (show (keepl p.period (s.tm) (s.log.take k)).length ≤ 1000 by omega)
            clear kl
            have HTF := Lib.hid (show ∀ o, ((W2.alloc o).drew).frozen? ⟨w1.heap.size, 3, none⟩ = false from fun o => (World.frozen?_alloc_past o _ _ zt').trans tf')
            have HTC := Lib.hid (show ∀ o, ((W2.alloc o).drew).cell? ⟨w1.heap.size, 3, none⟩ = some v from fun o => (World.cell?_alloc_past o _ _ zt').trans t3')
            have HLT := Lib.hid (show ∀ o, w1.heap.size < ((W2.alloc o).drew).heap.size from fun o => by simp; omega)
            have HZB := Lib.hid (show ∀ o, w1.heap.size + 1 ≤ ((W2.alloc o).drew).heap.size from fun o => by simp; omega)
            have hsz : W2.heap.size = W2.heap.size := rfl
            clear hsz
            go_region_law (refine step_append_ent2 (by rfl) _ _ (by rfl) (w1.heap.size + 1) v (keepl p.period (s.tm) (s.log.take k)) (by rfl) ((ho3.out.2.2.2.2.2.1.alloc _).keep (Below.refl _ _).drew) W2.heap.size s.log[k].1 s.log[k].2 (by rfl) (heap_alloc_new W2 _) HKL.out (HZB.out _) ?_; intro g5 cap5 w5 ho5 hgr5; have tf5 := (hgr5.frozen_far ⟨w1.heap.size, 3, none⟩ (HLT.out _) (Ne.symm ag)).trans (HTF.out _); have tc5 := (hgr5.cell_far ⟨w1.heap.size, 3, none⟩ (HLT.out _) (Ne.symm ag)).trans (HTC.out _); have HM := Lib.hid (ho3.out.more2 hlt HG.out _ ho5 hgr5); clear hgr5 ho5)
            all_goals
              go_wp2_with fail
              go_roundw
              case rel => exact ⟨k + 1, _, by omega, by go_num, HM.out⟩
              case measure => simp [intOf]; omega
          · have hgb : decide (s.tm - p.period < s.log[k].1) = false := by simpa using hg
            have HS := Lib.hid (H.out.skip hlt hg)
            clear hg
            go_wp2_with fail
            go_quiet (fail)
            go_wp2_with fail
            go_roundw
            case rel => exact ⟨k + 1, v, by omega, by go_num, HS.out.drewN _⟩
            case measure => simp [intOf]; omega
        · have HS := Lib.hid (show keepl p.period (s.tm) (s.log.take k) = rem p.period (s.tm) s.log by rw [List.take_of_length_le (by omega)]; exact keepl_rem HO.out.sorted)
          obtain ⟨A5, cap5, rfl, hE5⟩ := H.out.2.2.2.2.2.1.ents
          clear hE5
          have q0 : wr.cell? ⟨w1.heap.size, 0, none⟩ = some (.int .i64 (s.tm)) := H.out.2.2.2.2.1.cell 0
          have q1 : wr.cell? ⟨w1.heap.size, 1, none⟩ = some (.int .i64 0) := H.out.2.2.2.2.1.cell 1
          have q2 : wr.cell? ⟨w1.heap.size, 2, none⟩ = some (.int .i64 s.held) := H.out.2.2.2.2.1.cell 2
          go_wp2_with (refine wpList_store_row rfl 32 _ _ rfl (w.heap.size + 1 + 1) (scells (s.tm) 0 s.held (.slice A5 (keepl p.period (s.tm) (s.log.take k)).length cap5)) rfl rfl 32 _ H.out.2.2.2.1 st_size rfl (scells_one _ _ _ _ (slice_one _ _ _)) ?_)
          refine bodyPost_ret (v := .agg (scells (s.tm) 0 s.held (.slice A5 (keepl p.period (s.tm) (s.log.take k)).length cap5))) (results_cell_row (p := 6) (ty := 32) Try.results31 _ _ (w.heap.size + 1 + 1) 32 _ (0, 0) _ rfl (setRow_heap _ _ _ _ _ _ H.out.2.2.2.1) Try.underlying32 rfl st_size) rfl ⟨_, rfl, ?_, ?_⟩
          · rw [E.out, adv0, ET.out, ← HS.out]
            exact ⟨_, rfl, ((H.out.2.2.2.2.2.1.setRow (by have := H.out.2.2.2.2.2.2; omega) _).mono (by have := H.out.1.size; omega))⟩
          · exact below_setRow H.out.1 (by omega) _
end Wn
end Go.Proofs.Ytljaemiggeeghaa
