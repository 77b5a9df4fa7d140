/-
  What the document's own Due (of a ledger) answers, in any world.
-/
import Derived.Test.YtplinlgafgfepaaLedRfD
namespace Go.Proofs.Ytplinlgafgfepaa.Ld
open Go.RowKit
namespace Pr

theorem Row.grown {w w' : World} {A : Option Addr} {n cap : Nat} {l : LL Sl} {b : Option Nat} (h : Row w A n cap l) (hg : w.grownBy w' b) (hs : ∀ a, A = some a → l ≠ [] → b ≠ some a.block) : Row w' A n cap l := by
  refine ⟨h.1, ?_, h.2.2.1, fun a ha => Nat.lt_of_lt_of_le (h.2.2.2 a ha) hg.size⟩
  rcases h.2.1.2 with rfl | ⟨a, cur, fz, rfl, hb⟩
  · exact .nil _ _
  · by_cases hl : l = []
    · subst hl; exact .nil _ _
    · have hk : w'.heap[a.block]? = w.heap[a.block]? := hg.block _ (Array.getElem?_eq_some_iff.1 hb).1 (fun e => hs a rfl hl e.symm)
      refine ⟨fun i hi => ?_, .inr ⟨a, cur, fz, rfl, by rw [hk]; exact hb⟩⟩
      obtain ⟨a', e, c0, c1, c2⟩ := h.2.1.1 i hi
      injection e with e
      subst e
      exact ⟨a, rfl, by rw [cell_same (w := w) (w' := w') (by rw [add_blk, hk])]; exact c0, by rw [cell_same (w := w) (w' := w') (by rw [add_blk, hk])]; exact c1, by rw [cell_same (w := w) (w' := w') (by rw [add_blk, hk])]; exact c2⟩
theorem Own.apart {w : World} {B n cap : Nat} {A : Option Addr} {l : LL Sl} (h : Own w B (.slice A n cap) l) {b : Option Nat} (hb : ∀ k, b = some k → k < B) : ∀ a, A = some a → l ≠ [] → b ≠ some a.block := by
  intro a ha _ e
  subst ha
  have h1 : (Value.slice (some a) n cap).ownBlock = some a.block := rfl
  have := (World.ownsRow.lt h _ h1).1
  have := hb _ e
  omega

theorem rem_length {α : Type} {l : LL α} (h : l.Pairwise (·.1 < ·.1)) {x : Du α} (hx : x ∈ l) : (rem l x.1).length + 1 = l.length := by
  induction l with
  | nil => simp at hx
  | cons y l ih =>
    rw [List.pairwise_cons] at h
    unfold rem at *
    rw [List.filter_cons]
    rcases List.mem_cons.1 hx with e | hx
    · subst e
      have h2 : l.filter (fun z => decide ((z.1 : Int) ≠ x.1)) = l := List.filter_eq_self.2 fun z hz => by have := h.1 z hz; simp; omega
      rw [if_neg (by simp), h2]; rfl
    · have := h.1 x hx
      rw [if_pos (by simp; omega), List.length_cons, ih h.2 hx]; rfl
def lenOf : Value → Nat
  | .slice _ n _ => n
  | _ => 0
/-- what stands in memory, round by round -/
structure DueS (w wr : World) (l : LL Sl) (last T : Nat) (M out : LL Sl) (A : Option Addr) (n cap : Nat) (v : Value) : Prop where
  bel : Below w.heap.size w wr
  bT : Box wr w.heap.size 29 (tc A n cap last)
  bR : Box wr (w.heap.size + 1) 29 #[.slice none 0 0, .int .i64 0]
  row : Row wr A n cap M
  own : Own wr (w.heap.size + 1 + 1) v out
  sep : ∀ a, A = some a → M ≠ [] → v.ownBlock ≠ some a.block
variable {w wr : World} {l M out : LL Sl} {last T n cap : Nat} {A : Option Addr} {v : Value}
theorem DueS.below {w2 : World} (h : DueS w wr l last T M out A n cap v) (hb : Below wr.heap.size wr w2) : DueS w w2 l last T M out A n cap v :=
  ⟨h.bel.trans (hb.mono h.bel.size), h.bT.keep hb, h.bR.keep hb, h.row.keep hb, h.own.keep hb, h.sep⟩
theorem DueS.more {w5 : World} {g cp : Nat} {d : Du Sl} (h : DueS w wr l last T M out A n cap v) (ho : Own w5 (w.heap.size + 1 + 1) (.slice (some ⟨g, 0, none⟩) (out.length + 1) cp) (out ++ [d])) (hg : wr.grownBy w5 v.ownBlock) :
    Below w.heap.size w w5 ∧ Box w5 w.heap.size 29 (tc A n cap last) ∧ Box w5 (w.heap.size + 1) 29 #[.slice none 0 0, .int .i64 0] ∧ Row w5 A n cap M ∧ Own w5 (w.heap.size + 1 + 1) (.slice (some ⟨g, 0, none⟩) (out.length + 1) cp) (out ++ [d]) :=
  ⟨h.bel.grown hg h.bel.size (fun q hq => by have := (World.ownsRow.lt h.own q hq).1; omega), Box.grownOwn h.bT h.own (by omega) hg, Box.grownOwn h.bR h.own (by omega) hg, h.row.grown hg h.sep, ho⟩

/-- the result's box, written, and left -/
theorem DueS.fin (h : DueS w wr l last T M out A n cap v) :
    Box ((wr.setCell ⟨w.heap.size + 1, 0, none⟩ (.slice A n cap)).setCell ⟨w.heap.size + 1, 1, none⟩ (.int .i64 (last : Nat))) (w.heap.size + 1) 29 (tc A n cap last) ∧
    Row ((wr.setCell ⟨w.heap.size + 1, 0, none⟩ (.slice A n cap)).setCell ⟨w.heap.size + 1, 1, none⟩ (.int .i64 (last : Nat))) A n cap M ∧
    Own ((wr.setCell ⟨w.heap.size + 1, 0, none⟩ (.slice A n cap)).setCell ⟨w.heap.size + 1, 1, none⟩ (.int .i64 (last : Nat))) (w.heap.size + 1 + 1) v out ∧
    Below w.heap.size w ((wr.setCell ⟨w.heap.size + 1, 0, none⟩ (.slice A n cap)).setCell ⟨w.heap.size + 1, 1, none⟩ (.int .i64 (last : Nat))) :=
  ⟨h.bR.set2 _ _, (h.row.setBox h.bR (by decide) 0 _).setBox (heap_setCell_same _ _ 0 _ _ _ h.bR) (by decide) 1 _, (h.own.setLow (by omega) _ _).setLow (by omega) _ _, below_set2 h.bel (by omega) _ _⟩
theorem ends_at {M out : LL Sl} {l : LL Sl} {T : Nat} (hE : out ++ due M T = due l T) (hF : left M T = left l T) (h : due M T = [] ∧ left M T = M) : due l T = out ∧ left l T = M := by
  rw [← hE, ← hF, h.1, h.2]; simp

set_option maxHeartbeats 4000000 in
set_option maxRecDepth 100000 in
theorem rdue_calls (l : LL Sl) (A : Option Addr) (n cap last : Nat) (now : Int) (w : World) (hA : Row w A n cap l) (hg : Good last l) :
    Calls Try.prog 29 #[tv A n cap last, .int .i64 now] w fun e w' => ∃ A' n' cap' A2 n2 cap2, e = .returned (.tuple #[tv A' n' cap' last, .slice A2 n2 cap2]) ∧ Row w' A' n' cap' (left l (clip now)) ∧ Src w.heap.size A A' ∧ Row w' A2 n2 cap2 (due l (clip now)) ∧ Below w.heap.size w w' := by
  obtain ⟨T, hT⟩ : ∃ T, clip now = T := ⟨_, rfl⟩
  rw [hT]
  have HT := Lib.hid hT
  have HL := Lib.hid hg.few
  have HG := Lib.hid hg
  have HS0 : Hid (DueS w ((w.alloc (tbox A n cap last)).alloc tzb) l last T l [] A n cap (.slice none 0 0)) := Lib.hid
    ⟨((Below.refl _ _).alloc (Nat.le_refl _) _).alloc (by simp) _, (Box.new _ _ _).alloc _, Box.new1 _ _ _ _, hA.keep (((Below.refl _ _).alloc (Nat.le_refl _) _).alloc (by simp) _), Own.nil _ _, fun _ _ _ => by simp [Value.ownBlock]⟩
  clear hT hg hA
  go_enter Try.func29, Try.ntmps29
  go_wp2_with fail
  go_loopw [6] (fun v wr => Hid (∃ M out A1 n cap, Src w.heap.size A A1 ∧ DueS w wr l last T M out A1 n cap v ∧ Good last M ∧ out ++ due M T = due l T ∧ left M T = left l T ∧ out.length + M.length = l.length)) (fun v _ => l.length + 1 - lenOf v)
  case atStart => exact Lib.hid ⟨l, [], A, n, cap, Src.refl _ _, HS0.out, HG.out, rfl, rfl, by simp⟩
  case round =>
    clear HS0
    obtain ⟨M, out, A1, n, cap, hsrc, hS, hG, hE, hF, hN⟩ := Hid.out hrel
    have SRC := Lib.hid hsrc
    clear hsrc
    have S1 := Lib.hid hS
    have G1 := Lib.hid hG
    have E1 := Lib.hid hE
    have F1 := Lib.hid hF
    have N1 := Lib.hid hN
    obtain ⟨Av, nv, cv, rfl, ev'⟩ := hS.own.form
    have EV := Lib.hid ev'
    clear hS hG hE hF hN ev' hrel
    have a0 : wr.cell? ⟨w.heap.size, 0, none⟩ = some (.slice A1 n cap) := S1.out.bT.cell 0
    have a1 : wr.cell? ⟨w.heap.size, 1, none⟩ = some (.int .i64 (last : Nat)) := S1.out.bT.cell 1
    have z0 : w.heap.size + 1 < wr.heap.size := S1.out.bR.lt
    have z2 : w.heap.size < wr.heap.size := S1.out.bT.lt
    go_wp2_with fail
    refine (rnext_calls M A1 n cap last _ S1.out.row.1 S1.out.row.2.1.1 G1.out).mono ?_
    rintro e w1 ⟨rfl, hb1⟩
    have S2 := Lib.hid (S1.out.below hb1)
    clear hb1 a0 a1 z0 z2
    cases hq : nxt M with
    | none =>
      have hd : oe (none : Option (Du Sl)) = (0, 0, none, 0, 0) := rfl
      rw [hd]
      simp only [Option.isSome_none]
      have hdn := due_none G1.out (t := T) (fun x hx => by rw [hq] at hx; cases hx)
      have P1 := Lib.hid hdn
      have S3 := Lib.hid (S2.out.below ((Below.refl _ _).alloc (Nat.le_refl _) (ebox (0, 0, none, 0, 0))))
      have a0 : w1.cell? ⟨w.heap.size, 0, none⟩ = some (.slice A1 n cap) := S2.out.bT.cell 0
      have a1 : w1.cell? ⟨w.heap.size, 1, none⟩ = some (.int .i64 (last : Nat)) := S2.out.bT.cell 1
      have z0 : w.heap.size + 1 < w1.heap.size := S2.out.bR.lt
      have z2 : w.heap.size < w1.heap.size := S2.out.bT.lt
      clear hdn hd hq
      have P2 := Lib.hid (ends_at E1.out F1.out P1.out)
      go_upto_region 3 with (fail)
      go_quiet ((go_at_call 38; refine Calls.quiet_of_same ((rclamp_calls now _).mono fun _ _ h => ⟨h.1, h.2.symm⟩)))
      have S4 := Lib.hid (S3.out.below (below_drewN (Below.refl _ _) nq))
      clear S3 S2 S1 a0 a1 z0 z2
      generalize (w1.alloc _).drewN nq = wq at S4 ⊢
      have a0 : wq.cell? ⟨w.heap.size, 0, none⟩ = some (.slice A1 n cap) := S4.out.bT.cell 0
      have a1 : wq.cell? ⟨w.heap.size, 1, none⟩ = some (.int .i64 (last : Nat)) := S4.out.bT.cell 1
      have r0 : wq.cell? ⟨w.heap.size + 1, 0, none⟩ = some (.slice none 0 0) := S4.out.bR.cell 0
      have r1 : wq.cell? ⟨w.heap.size + 1, 1, none⟩ = some (.int .i64 0) := S4.out.bR.cell 1
      have f0 : wq.frozen? ⟨w.heap.size + 1, 0, none⟩ = false := S4.out.bR.free 0
      have f1 : wq.frozen? ⟨w.heap.size + 1, 1, none⟩ = false := S4.out.bR.free 1
      go_wp2_with fail
      obtain ⟨b1, b2, b3, b4⟩ := S4.out.fin
      refine ret_t2 (b := .slice Av nv cv) Try.results29 ?_ ?_ ?_ b1 ?_
      · rfl
      · rfl
      · rfl
      · exact ⟨_, _, _, _, _, _, rfl, by rw [P2.out.2]; exact b2, SRC.out, by rw [P2.out.1]; exact b3.row, b4⟩
    | some d =>
      obtain ⟨i0, t0, s0, m0, q0⟩ := d
      have hd : oe (some (i0, t0, s0, m0, q0)) = (i0, t0, s0, m0, q0) := rfl
      rw [hd]
      simp only [Option.isSome_some]
      have hmem := ((nxt_some G1.out).1 hq).1
      have S3 := Lib.hid (S2.out.below ((Below.refl _ _).alloc (Nat.le_refl _) (ebox (i0, t0, s0, m0, q0))))
      have HC : ∀ w, Calls Try.prog 38 #[.int .i64 now] w fun e w' => e = .returned (.int .i64 (T : Nat)) ∧ w' = w := fun w => (rclamp_calls now w).mono fun _ _ h => ⟨by rw [← HT.out]; exact h.1, h.2.symm⟩
      have HCC := Lib.hid HC
      have BD1 := Lib.hid (Box.new w1 38 (ec (i0, t0, s0, m0, q0)))
      have AG := Lib.hid (show Value.ownBlock (.slice Av nv cv) ≠ some w1.heap.size from fun e => by have := (World.ownsRow.lt S2.out.own _ e).2; omega)
      clear HC hd
      by_cases ht : t0 ≤ T
      · have tq : ¬ (T : Int) < (t0 : Int) := by omega
        have tq2 : decide ((T : Int) < (t0 : Int)) = false := decide_eq_false tq
        have hdc := due_cons G1.out hq (t := T) ht
        have hln := rem_length G1.out.rise hmem
        have P1 := Lib.hid hdc
        have P2 := Lib.hid hln
        clear ht hdc hln hq hmem S1
        go_upto_region 3 with (fail)
        go_quiet ((go_at_call 38; refine Calls.quiet_of_same (HCC.out _)))
        have S4 := Lib.hid (S3.out.below (below_drewN (Below.refl _ _) nq))
        have BD := Lib.hid (BD1.out.drewN nq)
        clear S3 S2 BD1
        generalize w1.heap.size = g at BD AG ⊢
        generalize (w1.alloc _).drewN nq = wq at S4 BD ⊢
        have y0 : wq.cell? ⟨g, 0, none⟩ = some (.int .i64 (i0 : Nat)) := BD.out.cell 0
        have y1 : wq.cell? ⟨g, 1, none⟩ = some (.int .i64 (t0 : Nat)) := BD.out.cell 1
        have y2 : wq.cell? ⟨g, 2, none⟩ = some (.slice s0 m0 q0) := BD.out.cell 2
        have HKL := Lib.hid (show out.length ≤ 10000 by have := N1.out; have := HL.out; omega)
        have HSZ := Lib.hid (show w.heap.size + 1 + 1 ≤ wq.heap.size by have := S4.out.bR.lt; omega)
        go_wp2_with (at_builtin; refine wpList_append_due rfl _ _ rfl (w.heap.size + 1 + 1) (.slice Av nv cv) out rfl (S4.out.own.alloc _) wq.heap.size (i0, t0, s0, m0, q0) rfl (heap_alloc_new wq _) HKL.out ?c5 ?_)
        case c5 => have := HSZ.out; simp; omega
        intro g5 cap5 w5 ho5 hg5
        have hm5 := DueS.more (S4.out.below ((Below.refl _ _).alloc (Nat.le_refl _) _)) ho5 hg5
        have M5 := Lib.hid hm5
        have BD5 : Hid (Box w5 g 38 (ec (i0, t0, s0, m0, q0))) := Lib.hid (by
          have h1 : Box (wq.alloc (ebox (i0, t0, s0, m0, q0))) g 38 (ec (i0, t0, s0, m0, q0)) := BD.out.alloc _
          have h2 := h1.lt
          unfold Box at *
          rw [hg5.block _ h2 (fun e => AG.out e.symm)]; exact h1)
        clear ho5 hg5 hm5 y0 y1 y2 S4 BD AG
        have a0 : w5.cell? ⟨w.heap.size, 0, none⟩ = some (.slice A1 n cap) := M5.out.2.1.cell 0
        have a1 : w5.cell? ⟨w.heap.size, 1, none⟩ = some (.int .i64 (last : Nat)) := M5.out.2.1.cell 1
        have y0 : w5.cell? ⟨g, 0, none⟩ = some (.int .i64 (i0 : Nat)) := BD5.out.cell 0
        go_wp2_with fail
        refine (rrem_calls M A1 n cap last _ _ M5.out.2.2.2.1 G1.out.few).mono ?_
        rintro e w6 ⟨A6, n6, cap6, rfl, ho6, hb6⟩
        obtain ⟨d6, hd6⟩ : ∃ d, oe (getO M i0) = d := ⟨_, rfl⟩
        rw [hd6]
        obtain ⟨i6, t6, s6, m6, q6⟩ := d6
        obtain ⟨bo, hbo⟩ : ∃ b, (getO M i0).isSome = b := ⟨_, rfl⟩
        rw [hbo]
        have hr6 : Box w6 w.heap.size 29 (tc A1 n cap last) := M5.out.2.1.keep hb6
        have SRC6 : Hid (Src w.heap.size A A6) := Lib.hid (ho6.src (M5.out.1.size))
        have hsep := ho6.apart (b := Value.ownBlock (.slice (some ⟨g5, 0, none⟩) (out.length + 1) cap5)) (fun k hk => (World.ownsRow.lt M5.out.2.2.2.2 k hk).2)
        have S6 : Hid (DueS w ((((w6.setCell ⟨w.heap.size, 0, none⟩ (.slice A6 n6 cap6)).setCell ⟨w.heap.size, 1, none⟩ (.int .i64 (last : Nat))).alloc (tbox A6 n6 cap6 last)).alloc (ebox (i6, t6, s6, m6, q6))) l last T (rem M i0) (out ++ [(i0, t0, s0, m0, q0)]) A6 n6 cap6 (.slice (some ⟨g5, 0, none⟩) (out.length + 1) cap5)) := Lib.hid (by
          have h7 : DueS w ((w6.setCell ⟨w.heap.size, 0, none⟩ (.slice A6 n6 cap6)).setCell ⟨w.heap.size, 1, none⟩ (.int .i64 (last : Nat))) l last T (rem M i0) (out ++ [(i0, t0, s0, m0, q0)]) A6 n6 cap6 (.slice (some ⟨g5, 0, none⟩) (out.length + 1) cap5) :=
            ⟨below_set2 (M5.out.1.trans (hb6.mono M5.out.1.size)) (Nat.le_refl _) _ _, hr6.set2 _ _, (M5.out.2.2.1.keep hb6).far2 (by omega) _ _,
              (ho6.row.setBox hr6 (by decide) 0 _).setBox (heap_setCell_same _ _ 0 _ _ _ hr6) (by decide) 1 _,
              ((M5.out.2.2.2.2.keep hb6).setLow (by omega) _ _).setLow (by omega) _ _, hsep⟩
          exact h7.below (((Below.refl _ _).alloc (Nat.le_refl _) _).alloc (by simp) _))
        have b0 : w6.cell? ⟨w.heap.size, 0, none⟩ = some (.slice A1 n cap) := (M5.out.2.1.keep hb6).cell 0
        have b1 : w6.cell? ⟨w.heap.size, 1, none⟩ = some (.int .i64 (last : Nat)) := (M5.out.2.1.keep hb6).cell 1
        have bf0 : w6.frozen? ⟨w.heap.size, 0, none⟩ = false := (M5.out.2.1.keep hb6).free 0
        have bf1 : w6.frozen? ⟨w.heap.size, 1, none⟩ = false := (M5.out.2.1.keep hb6).free 1
        have bz : w.heap.size < w6.heap.size := (M5.out.2.1.keep hb6).lt
        have bn1 : ¬ w.heap.size = w6.heap.size := by omega
        have bn2 : ¬ w.heap.size = w6.heap.size + 1 := by omega
        have bn3 : ¬ w6.heap.size = w.heap.size := by omega
        have bn4 : ¬ w6.heap.size + 1 = w.heap.size := by omega
        clear ho6 hb6 hr6 hsep hd6 hbo a0 a1 y0 M5 BD5
        go_wp2_with fail
        go_roundw
        case rel => 
          refine Lib.hid ⟨_, _, A6, n6, cap6, SRC6.out, S6.out, G1.out.rem _, ?_, ?_, ?_⟩
          · rw [← E1.out, P1.out.1]; simp
          · rw [P1.out.2, F1.out]
          · have h1 := P2.out
            have h2 := N1.out
            simp only [List.length_append, List.length_singleton]
            omega
        case measure =>
          have h1 := P2.out
          have h2 := N1.out
          have h3 := EV.out
          show l.length + 1 - (out.length + 1) < l.length + 1 - nv
          omega
      · have hdn := due_none G1.out (t := T) (fun x hx => by rw [hq] at hx; cases hx; show T < t0; omega)
        have tq : (T : Int) < (t0 : Int) := by omega
        have P2 := Lib.hid (ends_at E1.out F1.out hdn)
        clear hdn hq ht hmem
        go_upto_region 3 with (fail)
        go_quiet ((go_at_call 38; refine Calls.quiet_of_same (HCC.out _)))
        have S4 := Lib.hid (S3.out.below (below_drewN (Below.refl _ _) nq))
        clear S3 S2 S1 AG BD1
        generalize (w1.alloc _).drewN nq = wq at S4 ⊢
        have a0 : wq.cell? ⟨w.heap.size, 0, none⟩ = some (.slice A1 n cap) := S4.out.bT.cell 0
        have a1 : wq.cell? ⟨w.heap.size, 1, none⟩ = some (.int .i64 (last : Nat)) := S4.out.bT.cell 1
        have r0 : wq.cell? ⟨w.heap.size + 1, 0, none⟩ = some (.slice none 0 0) := S4.out.bR.cell 0
        have r1 : wq.cell? ⟨w.heap.size + 1, 1, none⟩ = some (.int .i64 0) := S4.out.bR.cell 1
        have f0 : wq.frozen? ⟨w.heap.size + 1, 0, none⟩ = false := S4.out.bR.free 0
        have f1 : wq.frozen? ⟨w.heap.size + 1, 1, none⟩ = false := S4.out.bR.free 1
        go_wp2_with fail
        obtain ⟨b1, b2, b3, b4⟩ := S4.out.fin
        refine ret_t2 (b := .slice Av nv cv) Try.results29 ?_ ?_ ?_ b1 ?_
        · rfl
        · rfl
        · rfl
        · exact ⟨_, _, _, _, _, _, rfl, by rw [P2.out.2]; exact b2, SRC.out, by rw [P2.out.1]; exact b3.row, b4⟩
end Pr
end Go.Proofs.Ytplinlgafgfepaa.Ld
