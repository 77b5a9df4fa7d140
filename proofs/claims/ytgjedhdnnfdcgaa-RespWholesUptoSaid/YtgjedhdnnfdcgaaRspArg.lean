/-
  The parser's functions on digits, and on an argument's bytes.
-/
import Derived.Test.YtgjedhdnnfdcgaaRspDgt
import Derived.Deep.AppendLies
namespace Go.Proofs.Ytgjedhdnnfdcgaa.Rp
open Go.RowKit
open Dg (dec txt)

section
variable {w w' : World} {pb : Nat} {nx vt va vt' va' : Value} {tk num cnt : Int} {tx : Bytes} {ar : List Bytes}
/-- what a function that reads a digit tells -/
def DigRes (lo hi : Int) (f1 f2 : Value) (w : World) (pb : Nat) (nx : Value) (tk : Int) (vt : Value) (tx : Bytes) (num cnt : Int) (va : Value) (ar : List Bytes) (c : UInt8) (e : Ending) (w' : World) : Prop :=
  ∃ vt', Kept (pblk pb vt va) w (pblk pb vt' va) w' ∧ ((tx ≠ [] ∧ c = 13 ∧ e = .returned f2 ∧ PM w' pb nx tk vt' [] num cnt va ar) ∨
    ((tx = [] ∨ c ≠ 13) ∧ Dg.upto? (tx ++ [c]) lo hi = none ∧ e = .returned .nilFunc ∧ PM w' pb nx tk vt' (tx ++ [c]) num cnt va ar) ∨
    ((tx = [] ∨ c ≠ 13) ∧ ∃ n, Dg.upto? (tx ++ [c]) lo hi = some n ∧ e = .returned f1 ∧ PM w' pb nx tk vt' (tx ++ [c]) n cnt va ar))
theorem digit_calls (h : PM w pb nx tk vt tx num cnt va ar) (c : UInt8) (lo hi : Int) (f1 f2 : Value) (hl : tx.length ≤ 1048576) :
    Calls Try.prog 46 #[.pointer (some ⟨pb, 0, none⟩), .int .u8 (c.toNat : Int), .int .i64 lo, .int .i64 hi, f1, f2] w (DigRes lo hi f1 f2 w pb nx tk vt tx num cnt va ar c) := by
  by_cases hc : tx = [] ∨ c ≠ 13
  · refine (digit_more h c hc lo hi f1 f2 hl rfl).mono ?_
    rintro e w1 ⟨vt', k, ⟨h1, h2, h3⟩ | ⟨n, h1, h2, h3⟩⟩
    · exact ⟨vt', k, .inr (.inl ⟨hc, h1, h2, h3⟩)⟩
    · exact ⟨vt', k, .inr (.inr ⟨hc, n, h1, h2, h3⟩)⟩
  · have h1 : tx ≠ [] := fun e => hc (.inl e)
    have h2 : c = 13 := Classical.not_not.1 fun e => hc (.inr e)
    subst h2
    refine (digit_end h h1 lo hi f1 f2).mono ?_
    rintro e w1 ⟨vt', h3, h4, h5⟩
    exact ⟨vt', h5, .inl ⟨h1, rfl, h3, h4⟩⟩
theorem count_calls (h : PM w pb nx tk vt tx num cnt va ar) (c : UInt8) (hl : tx.length ≤ 1048576) :
    Calls Try.prog 42 #[.pointer (some ⟨pb, 0, none⟩), .int .u8 (c.toNat : Int)] w (DigRes 1 50 (fnv 42) (fnv 47) w pb nx tk vt tx num cnt va ar c) := by
  have HD := Lib.hid (digit_calls h c 1 50 (fnv 42) (fnv 47) hl)
  clear h
  go_enter Try.func42, Try.ntmps42
  go_wp2_with fail
  refine HD.out.mono ?_
  rintro e w1 ⟨vt', k, ⟨h1, h2, rfl, h3⟩ | ⟨h1, h2, rfl, h3⟩ | ⟨h1, n, h2, rfl, h3⟩⟩
  · have H := Lib.hid (And.intro k h3)
    clear k h3 HD
    go_wp2_with fail
    go_ret
    exact ⟨vt', H.out.1, .inl ⟨h1, h2, rfl, H.out.2⟩⟩
  · have H := Lib.hid (And.intro k (And.intro h2 h3))
    clear k h2 h3 HD
    go_wp2_with fail
    go_ret
    exact ⟨vt', H.out.1, .inr (.inl ⟨h1, H.out.2.1, rfl, H.out.2.2⟩)⟩
  · have H := Lib.hid (And.intro k (And.intro h2 h3))
    clear k h2 h3 HD
    go_wp2_with fail
    go_ret
    exact ⟨vt', H.out.1, .inr (.inr ⟨h1, n, H.out.2.1, rfl, H.out.2.2⟩)⟩
theorem length_calls (h : PM w pb nx tk vt tx num cnt va ar) (c : UInt8) (hl : tx.length ≤ 1048576) :
    Calls Try.prog 52 #[.pointer (some ⟨pb, 0, none⟩), .int .u8 (c.toNat : Int)] w (DigRes 0 1000 (fnv 52) (fnv 54) w pb nx tk vt tx num cnt va ar c) := by
  have HD := Lib.hid (digit_calls h c 0 1000 (fnv 52) (fnv 54) hl)
  clear h
  go_enter Try.func52, Try.ntmps52
  go_wp2_with fail
  refine HD.out.mono ?_
  rintro e w1 ⟨vt', k, ⟨h1, h2, rfl, h3⟩ | ⟨h1, h2, rfl, h3⟩ | ⟨h1, n, h2, rfl, h3⟩⟩
  · have H := Lib.hid (And.intro k h3)
    clear k h3 HD
    go_wp2_with fail
    go_ret
    exact ⟨vt', H.out.1, .inl ⟨h1, h2, rfl, H.out.2⟩⟩
  · have H := Lib.hid (And.intro k (And.intro h2 h3))
    clear k h2 h3 HD
    go_wp2_with fail
    go_ret
    exact ⟨vt', H.out.1, .inr (.inl ⟨h1, H.out.2.1, rfl, H.out.2.2⟩)⟩
  · have H := Lib.hid (And.intro k (And.intro h2 h3))
    clear k h2 h3 HD
    go_wp2_with fail
    go_ret
    exact ⟨vt', H.out.1, .inr (.inr ⟨h1, n, H.out.2.1, rfl, H.out.2.2⟩)⟩

set_option maxHeartbeats 2000000 in
theorem argument_calls (h : PM w pb nx tk vt tx num cnt va ar) (c : UInt8) (hl : tx.length ≤ 1048576) {l : Bytes} (hle : tx ++ [c] = l) :
    Calls Try.prog 55 #[.pointer (some ⟨pb, 0, none⟩), .int .u8 (c.toNat : Int)] w fun e w' =>
      ∃ vt', Kept (pblk pb vt va) w (pblk pb vt' va) w' ∧ (((tx.length : Int) = num ∧ e = .returned (onlyV (c.toNat : Int) 13 (fnv 56)) ∧ PM w' pb nx tk vt' tx num cnt va ar) ∨
        ((tx.length : Int) ≠ num ∧ e = .returned (fnv 55) ∧ PM w' pb nx tk vt' l num cnt va ar)) := by
  obtain ⟨A, cap, hv, _⟩ := h.txt.view
  have c2 := h.box.cell 2
  have f2' := h.box.free 2
  have c3 := h.box.cell 3
  simp only [pcs, List.getElem?_toArray, List.getElem?_cons_zero, List.getElem?_cons_succ] at c2 c3
  have hne : l ≠ [] := by rw [← hle]; simp
  by_cases hn : (tx.length : Int) = num
  · have t1 : ((tx.length : Int) == num) = true := by simp [hn]
    have H := Lib.hid h
    rw [hv] at c2
    have HN := Lib.hid hn
    have HV := Lib.hid hv
    clear h hn hv
    go_enter Try.func55, Try.ntmps55
    go_wp2_with fail
    go_quiet (fail)
    have HQ := Lib.hid (H.out.keep (below_drewN (Below.refl _ _) nq))
    have KQ := Lib.hid (Kept.of_below (own := pblk pb vt va) (below_drewN (Below.refl w.heap.size w) nq))
    generalize w.drewN nq = W at HQ KQ ⊢
    go_wp2_with fail
    refine (only_calls _ _ _ _).mono ?_
    rintro e w1 ⟨rfl, rfl⟩
    go_wp2_with fail
    go_ret
    exact ⟨vt, KQ.out, .inl ⟨HN.out, rfl, HQ.out⟩⟩
  · have t1 : ((tx.length : Int) == num) = false := by simpa using hn
    subst hv
    have H := Lib.hid h
    have HN := Lib.hid hn
    clear h hn
    go_enter Try.func55, Try.ntmps55
    go_wp2_with fail
    go_quiet (fail)
    have HQ := Lib.hid (H.out.keep (below_drewN (Below.refl _ _) nq))
    have KQ := Lib.hid (Kept.of_below (own := pblk pb (.slice A tx.length cap) va) (below_drewN (Below.refl w.heap.size w) nq))
    have c2 := HQ.out.box.cell 2
    simp only [pcs, List.getElem?_toArray, List.getElem?_cons_zero, List.getElem?_cons_succ] at c2
    generalize w.drewN nq = W at HQ KQ c2 ⊢
    go_wp2_with (at_builtin; refine wpList_append_byte rfl _ _ rfl _ _ rfl (HQ.out.txt.alloc _) W.heap.size c rfl (heap_alloc_new _ _) hl ?_; intro v2 w2 hr2 hg2 hob2; rw [hle] at hr2; obtain ⟨PP, KK⟩ := HQ.out.push hr2 hg2 hob2; obtain ⟨g2', g2⟩ := HQ.out.pushed hg2; obtain ⟨g, cap2, rfl⟩ := hr2.form3 hne; have HPP := Lib.hid PP; have HKK := Lib.hid (KQ.out.trans KK); clear PP KK hr2 hg2 hob2)
    go_ret
    exact ⟨_, HKK.out, .inr ⟨HN.out, rfl, HPP.out⟩⟩

theorem conv_any {B n cap : Nat} {A : Option Addr} {l : Bytes} (h : BRow w B (.slice A n cap) l) : (convert 23 9 (.slice A n cap)).run Try.prog w = .ok (.string (bat l)) w := by
  rcases h.form2 with ⟨e, rfl⟩ | ⟨g, cap2, e⟩
  · injection e with e1 e2 e3
    subst e1 e2 e3
    exact conv_none w
  · injection e with e1 e2 e3
    subst e1 e2 e3
    exact conv_row h
theorem PM.pushArg2 (h : PM w pb nx tk vt tx num cnt va ar) {w1 w2 : World} (hb : Below w.heap.size w w1) {l : List Bytes} (hr : SRow w2 0 va' (l.map bat)) (hg : w1.grownBy w2 va.ownBlock) (hob : ∀ k, va'.ownBlock = some k → va.ownBlock = some k ∨ w.heap.size ≤ k) :
    PM (w2.setCell ⟨pb, 5, none⟩ va') pb nx tk vt tx num cnt va' l ∧ Kept (pblk pb vt va) w (pblk pb vt va') (w2.setCell ⟨pb, 5, none⟩ va') ∧ w2.cell? ⟨pb, 5, none⟩ = some va ∧ w2.frozen? ⟨pb, 5, none⟩ = false := by
  have ha := h.keep hb
  have hb2 : Box w2 pb 62 (pcs nx tk vt num cnt va) := (hg.block pb ha.box.lt (fun e => ha.nap e.symm)).trans ha.box
  have htx : BRow w2 0 vt tx := World.ownsRow.kept ha.txt hg (own_ne ha.txt ha.arg (by decide))
  have hsz : w.heap.size ≤ w2.heap.size := Nat.le_trans hb.size hg.size
  have ho : Only (pblk pb vt va) w w2 := (Only.of_below _ hb).grown hg (fun k e => .inl (mem_pblk.2 (.inr (.inr e))))
  have hs : Only [pb] w2 (w2.setCell ⟨pb, 5, none⟩ va') := (Only.refl [pb] w2).set (p := ⟨pb, 5, none⟩) (by simp) _
  refine ⟨⟨?_, row_only htx hs (fun y hy e => ?_), row_only hr hs (fun y hy e => ?_)⟩, ⟨ho.trans hs (fun y hy => .inl ?_), fun y hy => ?_⟩, hb2.cell 5, hb2.free 5⟩
  · exact hb2.set 5 va'
  · rw [List.mem_singleton] at hy; subst hy
    exact row_box htx hb2 (by decide) e
  · rw [List.mem_singleton] at hy; subst hy
    exact row_box hr hb2 (by decide) e
  · rw [List.mem_singleton] at hy; subst hy
    exact mem_pblk.2 (.inl rfl)
  · rcases mem_pblk.1 hy with rfl | e | e
    · exact .inl (mem_pblk.2 (.inl rfl))
    · exact .inl (mem_pblk.2 (.inr (.inl e)))
    · exact (hob y e).imp (fun e => mem_pblk.2 (.inr (.inr e))) id
theorem SRow.form4 {B : Nat} {v : Value} {l : List Bytes} (h : SRow w B v (l.map bat)) (hne : l ≠ []) : ∃ g cap, v = .slice (some ⟨g, 0, none⟩) l.length cap := by
  rcases h.2 with ⟨rfl, h0⟩ | ⟨g, cap, cur, rfl, _⟩
  · exact absurd (List.eq_nil_of_length_eq_zero (by simpa using h0)) hne
  · exact ⟨g, cap, by simp⟩
theorem step_append_arg {w : World} {ops : Array Oper} {o : Oper} {a : Act} {K : Act → World → Prop} {Q : Exit → Act → World → Prop} {E : Prop} (hgd : o.guard = none) (s x : Operand)
    (ho : o.op = .call { callee := .builtin .append, args := #[s, x], argTypes := #[36, 36] })
    (v : Value) (l m : List Bytes) (hs : a.eval s = v) (hown : SRow w 0 v (l.map bat)) (g : Nat) (c : Bytes) (hx : a.eval x = .slice (some ⟨g, 0, none⟩) 1 1)
    (hg : w.heap[g]? = some (.cells #[.string (bat c)] 9 (0, 0))) (hn : l.length ≤ 1048576) (hm : l ++ [c] = m)
    (hK : ∀ g' cap w', SRow w' 0 (.slice (some ⟨g', 0, none⟩) m.length cap) (m.map bat) → w.grownBy w' v.ownBlock → (v.ownBlock = some g' ∨ g' = w.heap.size) → K (a.put o.dst (.slice (some ⟨g', 0, none⟩) m.length cap)) w') :
    if Region.wanted o (yielded ops a.tmps) = true then Oper.wp Try.prog o a w K Q else E := by
  obtain ⟨i0, hi, hz0, hz1, hz2⟩ := str_parts
  unfold SRow at hown
  have hlen : (l.map bat).length + 1 = m.length := by rw [← hm]; simp
  refine step_append_lies w hgd s x 36 ho 0 9 i0 _ 1 16 Try.underlying36 hi hz0 hz1 hz2 rfl (by decide) v (l.map bat).length _ hs hown ⟨g, 0, none⟩ 1 1 [.string (bat c)] hx rfl ?_ ?_ (by decide) (by simp; unfold maxLen; omega) (by simp; omega) (Nat.zero_le _) _ rfl (fun g' cap w' h2 h3 h4 _ => ?_)
  · intro j u hj
    have : ((⟨g, 0, none⟩ : Addr).add j) = ⟨g, j, none⟩ := by unfold Addr.add; split <;> simp_all
    rw [this, cell_of_row _ _ _ _ _ _ hg]
    simpa using hj
  · intro u hu; simp at hu; subst hu; rfl
  · rw [hlen] at h2 ⊢
    refine hK g' cap w' ?_ h3 h4
    unfold SRow
    rw [← hm, List.map_append, List.map_append, List.length_map, List.length_append] at *
    simpa using h2

def lessV (a b : Int) (x y : Value) : Value := if a < b then x else y
set_option maxHeartbeats 4000000 in
theorem closed_calls (h : PM w pb nx tk vt tx num cnt va ar) (c : UInt8) (hl : ar.length ≤ 1048576) {l : List Bytes} (hle : ar ++ [tx] = l) :
    Calls Try.prog 56 #[.pointer (some ⟨pb, 0, none⟩), .int .u8 (c.toNat : Int)] w fun e w' =>
      ∃ vt' va', Kept (pblk pb vt va) w (pblk pb vt' va') w' ∧ PM w' pb nx tk vt' [] num cnt va' l ∧ e = .returned (onlyV (c.toNat : Int) 10 (lessV (l.length : Int) cnt (fnv 50) (fnv 36))) := by
  obtain ⟨A, cap, hv, _⟩ := h.txt.view
  subst hv
  have c2 := h.box.cell 2
  have c5 := h.box.cell 5
  simp only [pcs, List.getElem?_toArray, List.getElem?_cons_zero, List.getElem?_cons_succ] at c2 c5
  have hne : l ≠ [] := by rw [← hle]; simp
  have ce := (h.alloc (.cells #[.string (bat tx)] 9)).box.cell 5
  simp only [pcs, List.getElem?_toArray, List.getElem?_cons_zero, List.getElem?_cons_succ] at ce
  have HC := conv_any (h.keep (Below.refl w.heap.size w).drew).txt
  have H := Lib.hid h
  clear h
  go_enter Try.func56, Try.ntmps56
  go_wp2_with fail
  go_region_law (refine step_append_arg (by rfl) _ _ (by rfl) va ar l (by rfl) ((H.out.arg.alloc _).below (Below.refl _ _).drew) w.heap.size tx (by rfl) (heap_alloc_new w _) hl hle ?_; intro g cap2 w2 hr2 hg2 hob2; obtain ⟨PP, KK, g2, g3⟩ := H.out.pushArg2 (((Below.refl _ _).alloc (Nat.le_refl _) _).drew) hr2 hg2 (fun k e => by cases e; exact hob2.imp id (fun e2 => by subst e2; simp)); have HPP := Lib.hid PP; have HKK := Lib.hid KK; have d2 := PP.box.cell 2; have d4 := PP.box.cell 4; have d5 := PP.box.cell 5; have df := PP.box.free 2; simp only [pcs, List.getElem?_toArray, List.getElem?_cons_zero, List.getElem?_cons_succ] at d2 d4 d5; clear PP KK hr2 hg2 hob2)
  all_goals
    clear ce c2 c5 HC g2 g3
    generalize w2.setCell ⟨pb, 5, none⟩ (.slice (some ⟨g, 0, none⟩) l.length cap2) = W at HPP HKK d2 d4 d5 df ⊢
    obtain ⟨D1, D2⟩ := HPP.out.drop rfl
    have e4 := D1.box.cell 4
    have e5 := D1.box.cell 5
    simp only [pcs, List.getElem?_toArray, List.getElem?_cons_zero, List.getElem?_cons_succ] at e4 e5
    have HD1 := Lib.hid D1
    have HD2 := Lib.hid (HKK.out.trans D2)
    clear D1 D2 HPP HKK
    go_wp2_with fail
    by_cases hlt : (l.length : Int) < cnt
    · have t1 : decide ((l.length : Int) < cnt) = true := decide_eq_true hlt
      have HL := Lib.hid hlt
      clear hlt
      go_quiet (fail)
      have HQ := Lib.hid (HD1.out.keep (below_drewN (Below.refl _ _) nq))
      have KQ := Lib.hid (HD2.out.trans (Kept.of_below (below_drewN (Below.refl _ _) nq)))
      generalize (W.setCell ⟨pb, 2, none⟩ (.slice A 0 cap)).drewN nq = W2 at HQ KQ ⊢
      go_wp2_with fail
      refine (only_calls _ _ _ _).mono ?_
      rintro e w1 ⟨rfl, rfl⟩
      go_wp2_with fail
      go_ret
      exact ⟨_, _, KQ.out, HQ.out, by unfold lessV; rw [if_pos HL.out]; rfl⟩
    · have t1 : decide ((l.length : Int) < cnt) = false := decide_eq_false hlt
      have HL := Lib.hid hlt
      clear hlt
      go_quiet (fail)
      have HQ := Lib.hid (HD1.out.keep (below_drewN (Below.refl _ _) nq))
      have KQ := Lib.hid (HD2.out.trans (Kept.of_below (below_drewN (Below.refl _ _) nq)))
      generalize (W.setCell ⟨pb, 2, none⟩ (.slice A 0 cap)).drewN nq = W2 at HQ KQ ⊢
      go_wp2_with fail
      refine (only_calls _ _ _ _).mono ?_
      rintro e w1 ⟨rfl, rfl⟩
      go_wp2_with fail
      go_ret
      exact ⟨_, _, KQ.out, HQ.out, by unfold lessV; rw [if_neg (by have := HL.out; omega)]; rfl⟩
end
end Go.Proofs.Ytgjedhdnnfdcgaa.Rp
