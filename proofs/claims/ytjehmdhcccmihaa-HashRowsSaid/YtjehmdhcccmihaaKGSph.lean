/-
  Behind Wait, beside leavers, on to where SPREAD RETURNS, whoever called it; the blocks of groups that are left (any set of them) are touched by nobody.
-/
import Derived.Test.YtjehmdhcccmihaaKPoolGo
import Derived.Test.YtjehmdhcccmihaaKPoolPrs
import Derived.Test.YtjehmdhcccmihaaKPoolRnz
namespace Go.Proofs.Ytjehmdhcccmihaa.Pool
open Go.RowKit Go.Conc Hs Lift
/-- A walk keeps what each of its steps keeps. -/
theorem GW.keeps {P : Program} {D : World → World → Array Event → Prop} {Stop : Goroutine → World → Prop} {I : World → Prop} (hR : ∀ w w₁, AtRel w w₁ → I w → I w₁) (hD : ∀ w w' es, D w w' es → I w → I w') {a : Goroutine} {w : World} (h : GW P D Stop a w) :
    I w → GW P D (fun a w => Stop a w ∧ I w) a w := by
  induction h with
  | stop h => exact fun hi => .stop fun w₁ h₁ => ⟨h w₁ h₁, hR _ _ h₁ hi⟩
  | step hs h _ ih => exact fun hi => .step hs h fun w₁ a' w' es h₁ hgo => ih w₁ a' w' es h₁ hgo (by
      obtain ⟨a2, w2, es2, h2, h3⟩ := h w₁ h₁
      rw [hgo] at h2
      cases h2
      exact hD _ _ _ h3 (hR _ _ h₁ hi))
/-- THE LIFT, and the blocks that are shut stay rows of cells. -/
theorem lift_walk2 {P : Program} {L X : List FuncId} (K : Closed P L X) {Stop : Frame → List Frame → World → Prop} (S : Lift.Ends P L X Stop) {fr : Frame} {Y Z : List Frame} (hF : FitF P L X fr) (hY : FitX P L X Y) {B : Nat → Prop} {w : World}
    (h : Lift.Stand B w)
    (hrun : ∀ T, ∃ fr' Y' w', Steps P (lone fr (Y ++ [door P]) (Lift.as (shut B w) T)) (lone fr' (Y' ++ [door P]) w') ∧ Stop fr' Y' w') :
    GW P (DGrow (InB B)) (fun a w => (∃ fr Y wl, a = G fr (Y ++ Z) ∧ Stop fr Y wl ∧ RelH B wl w) ∧ Lift.Stand B w) (G fr (Y ++ Z)) w := by
  have hG : Lift.Good P Stop fr Y (shut B w) := fun T _ => by
    obtain ⟨fr', Y', w', ⟨N, hN⟩, hS⟩ := hrun T
    exact ⟨N, fr', Y', w', hN, hS⟩
  have hg := gw_of_lgw K (D := fun w w' es => DGrow (InB B) w w' es ∧ ∀ b, B b → w'.heap[b]? = w.heap[b]?) (Z := Z) (fun E wc wl' wc' es hE hm => ⟨dgrow_moved E wc wl' wc' es hE hm, fun b hb => hm.kept b (by rw [hE]; exact hb)⟩) (bar K S hF hY (shut_pend h) hG) hF hY w (shut_rel h)
  refine GW.mono (GW.keeps (I := Lift.Stand B) ?_ ?_ hg h) (fun _ _ _ h => h.1) (fun _ _ h => h)
  · rintro w w₁ ⟨d, rfl⟩ h
    exact h
  · intro w w' es hd h b hb
    rw [hd.2 b hb]
    exact h b hb
section
variable {B : Nat → Prop} {wl w : World}
/-- what stands in the world with blocks shut stands in the true one -/
theorem cell_up (h : RelH B wl w) {a : Addr} {v : Value} (hc : wl.cell? a = some v) : w.cell? a = some v := by
  have h' : Rel ⟨B, 0, wl.drawn, w.drawn⟩ wl w := h
  rw [h'.cell (fun e => by rw [(h'.shutCell e).1] at hc; cases hc)]
  exact hc
theorem cell_shut (h : RelH B wl w) {a : Addr} {v : Value} (hc : wl.cell? a = some v) : (shut B w).cell? a = some v := by
  have h' : Rel ⟨B, 0, wl.drawn, w.drawn⟩ wl w := h
  have hn : ¬ B a.block := fun e => by rw [(h'.shutCell e).1] at hc; cases hc
  rw [World.cell?_of_block (w := w) (shut_far hn)]
  exact cell_up h hc
theorem rows_shut (h : RelH B wl w) {A : Option Addr} {rows : List (List ByteArray)} (hR : Pool.Rows wl A rows) : Pool.Rows (shut B w) A rows := fun i hi => by
  obtain ⟨a, e, C, c, h1, h2, h3⟩ := hR i hi
  refine ⟨a, e, C, c, cell_shut h h1, fun j hj => ?_, h3⟩
  obtain ⟨a2, e2, hc⟩ := h2 j hj
  exact ⟨a2, e2, cell_shut h hc⟩
end
/-- A frame that returns one value. -/
structure Back (f : FuncId) (v : Value) (fr : Frame) : Prop where
  fit : FitF Try.prog plainFns sameFns fr
  mode : fr.mode = .returning
  fn : fr.fn = f
  val : fr.tmps.getD 4 undef = v
/-- What was there has not turned, but for such blocks. -/
def OnB (B : Nat → Prop) (w wl : World) : Prop := wl.os = w.os ∧ wl.output = w.output ∧ w.heap.size ≤ wl.heap.size ∧ ∀ k, k < w.heap.size → ¬ B k → wl.heap[k]? = w.heap[k]?
theorem OnB.up {B C : Nat → Prop} {w0 wl w : World} (h : OnB B w0 wl) (hr : RelH C wl w) : OnB (fun k => B k ∨ C k) w0 w :=
  ⟨hr.os.symm.trans h.1, hr.output.symm.trans h.2.1, by rw [← hr.size]; exact h.2.2.1, fun k hk hn => (hr.same k fun e => hn (.inr e)).symm.trans (h.2.2.2 k hk fun e => hn (.inl e))⟩
theorem OnB.trans {B C : Nat → Prop} {w w1 w2 : World} (h : OnB B w w1) (k : OnB C w1 w2) (hC : ∀ b, C b → b < w.heap.size → B b) : OnB B w w2 :=
  ⟨k.1.trans h.1, k.2.1.trans h.2.1, Nat.le_trans h.2.2.1 k.2.2.1, fun b hb hn => (k.2.2.2 b (Nat.lt_of_lt_of_le hb h.2.2.1) fun e => hn (hC b e hb)).trans (h.2.2.2 b hb hn)⟩

theorem cell_no {B : Nat → Prop} {w : World} (hS : Lift.Stand B w) {a : Addr} {v : Value} (hc : (shut B w).cell? a = some v) : ¬ B a.block ∧ w.cell? a = some v := by
  have hn : ¬ B a.block := fun e => by
    obtain ⟨arr, ty, h, _⟩ := hS _ e
    unfold World.cell? at hc
    rw [shut_at e h] at hc
    cases hc
  refine ⟨hn, ?_⟩
  rw [World.cell?_of_block (w := w) (shut_far hn)] at hc
  exact hc
theorem cell_on {B C : Nat → Prop} {w w' : World} (hS : Lift.Stand B w) (ho : OnB B w w') (hC : ∀ b, C b → B b ∨ w.heap.size ≤ b) {a : Addr} {v : Value} (hc : (shut B w).cell? a = some v) : (shut C w').cell? a = some v := by
  obtain ⟨hn, hw⟩ := cell_no hS hc
  have hlt := World.block_lt_of_cell? w _ hw
  have hn2 : ¬ C a.block := fun e => (hC _ e).elim hn (by omega)
  rw [World.cell?_of_block (w := w') (shut_far hn2), World.cell?_of_block (w := w) (ho.2.2.2 _ hlt hn)]
  exact hw
theorem rows_on {B C : Nat → Prop} {w w' : World} (hS : Lift.Stand B w) (ho : OnB B w w') (hC : ∀ b, C b → B b ∨ w.heap.size ≤ b) {A : Option Addr} {rows : List (List ByteArray)} (hR : Pool.Rows (shut B w) A rows) : Pool.Rows (shut C w') A rows := fun i hi => by
  obtain ⟨a, e, D, c, h1, h2, h3⟩ := hR i hi
  refine ⟨a, e, D, c, cell_on hS ho hC h1, fun j hj => ?_, h3⟩
  obtain ⟨a2, e2, hc⟩ := h2 j hj
  exact ⟨a2, e2, cell_on hS ho hC hc⟩
theorem texts_on {B : Nat → Prop} {w w' : World} (ho : OnB B w w') {A : Option Addr} {ps : List ByteArray} (hA : ∀ a, A = some a → ¬ B a.block) (hT : Texts w A ps) : Texts w' A ps := fun i hi => by
  obtain ⟨a, e, hc⟩ := hT i hi
  refine ⟨a, e, ?_⟩
  rw [World.cell?_of_block (w := w) (ho.2.2.2 _ (World.block_lt_of_cell? w _ hc) (by rw [add_block]; exact hA a e))]
  exact hc

set_option maxHeartbeats 1000000 in
theorem spread_ret (u0 u1 u2 u4 u5 u6 u7 u8 u9 u10 u11 u12 u13 u14 u15 u16 u17 u18 u19 u20 u21 u22 u23 u24 u25 u26 u27 u28 u29 u30 u31 : Value) (A : Option Addr) (cap : Nat) (ps : List ByteArray) (n : Int) (g b m cm : Nat) (w : World) (Z : List Frame) (hA : Texts w A ps) (hAg : ∀ a, A = some a → a.block ≠ g) (hl : ps.length ≤ 1048576) (hmg : m ≠ g)
    (hb : w.cell? ⟨b, 0, none⟩ = some (.slice (some ⟨m, 0, none⟩) ps.length cm)) (hm : ∀ i (h : i < ps.length), w.cell? ⟨m, i, none⟩ = some (.int .u64 (sum ps[i].data.toList : Nat)))
    (hrow : RRow w g (.slice (some ⟨g, 0, none⟩) (clip n) (clip n)) (List.replicate (clip n) ([], none, 0))) :
    ∃ fr w', Steps Try.prog (lone (smF u0 u1 u2 u4 u5 u6 u7 u8 u9 u10 u11 u12 u13 u14 u15 u16 u17 u18 u19 u20 u21 u22 u23 u24 u25 u26 u27 u28 u29 u30 u31 b) (spF A cap ps n g :: Z) w) (lone fr Z w') ∧ fr.mode = .returning ∧ fr.fn = 9 ∧ fr.tmps.getD 4 undef = .slice (some ⟨g, 0, none⟩) (clip n) (clip n) ∧ Only [g] w w' ∧ Pool.Rows w' (some ⟨g, 0, none⟩) (spreadR (clip n) (toShard n) ps) := by
  have h1 := sums_rest u0 u1 u2 u4 u5 u6 u7 u8 u9 u10 u11 u12 u13 u14 u15 u16 u17 u18 u19 u20 u21 u22 u23 u24 u25 u26 u27 u28 u29 u30 u31 b m ps.length cm w hb
  rw [post_eq] at h1
  obtain ⟨v, w1, ⟨rfl, rfl⟩, s1⟩ := rest_steps (b := blank 16) Try.func16 rfl (wpOps_drop h1) (spF A cap ps n g) Z
  rw [spF_finish] at s1
  have h2 := spread_rest A cap ps n g m cm (clip n) w1 (clip_pos n) (clip_le n) hA hAg hl hmg hm hrow
  rw [post_ex] at h2
  obtain ⟨v, w2, fr, ⟨rfl, L, hL⟩, s2, hfn, hlv⟩ := rest_last (b := blank 9) Try.func9 rfl (wpOps_drop h2) Z
  have hR : Pool.Rows w2 (some ⟨g, 0, none⟩) (spreadR (clip n) (toShard n) ps) := by
    obtain ⟨A3, c3, e3, hr⟩ := RRow.view (l := L) (B := g) (v := .slice (some ⟨g, 0, none⟩) (clip n) (clip n)) hL.row (B' := w1.heap.size) hL.rows
    injection e3 with e31 e32 e33
    subst e31
    have := hL.eq
    rw [List.take_length] at this
    rw [this] at hr
    exact hr
  refine ⟨fr, w2, Steps.trans s1 s2, hlv.1, hfn, ?_, hL.only, hR⟩
  obtain ⟨_, _, _, fn, hf, hr⟩ := hlv
  rw [hfn] at hf
  obtain rfl : Try.f9 = fn := Option.some.inj (Try.func9.symm.trans hf)
  simp [results, Try.results9] at hr
  rw [Array.getD_eq_getD_getElem?]
  exact hr
theorem ends_back {R : World → Prop} (f : FuncId) (v : Value) (hR : ∀ w T, R w → R (Lift.as w T)) : Lift.Ends Try.prog plainFns sameFns (fun fr Y wl => Y = [] ∧ Back f v fr ∧ R wl) := ⟨fun h => h.2.1.fit, fun h T => ⟨h.1, h.2.1, hR _ _ h.2.2⟩⟩

set_option maxHeartbeats 1000000 in
theorem spread_gw (u0 u1 u2 u4 u5 u6 u7 u8 u9 u10 u11 u12 u13 u14 u15 u16 u17 u18 u19 u20 u21 u22 u23 u24 u25 u26 u27 u28 u29 u30 u31 : Value) (A : Option Addr) (cap : Nat) (ps : List ByteArray) (n : Int) (g b m cm : Nat) (B : Nat → Prop) (w0 : World) (Z : List Frame)
    (hB : Lift.Stand B w0) (hA : Texts w0 A ps) (hAg : ∀ a, A = some a → a.block ≠ g) (hAB : ∀ a, A = some a → ¬ B a.block) (hl : ps.length ≤ 1048576) (hmg : m ≠ g) (hmB : ¬ B m) (hbB : ¬ B b) (hgB : ¬ B g)
    (hb : w0.cell? ⟨b, 0, none⟩ = some (.slice (some ⟨m, 0, none⟩) ps.length cm)) (hm : ∀ i (h : i < ps.length), w0.cell? ⟨m, i, none⟩ = some (.int .u64 (sum ps[i].data.toList : Nat)))
    (hrow : RRow w0 g (.slice (some ⟨g, 0, none⟩) (clip n) (clip n)) (List.replicate (clip n) ([], none, 0))) :
    GW Try.prog (DGrow (InB B)) (fun a w => (∃ fr, a = G fr Z ∧ Back 9 (.slice (some ⟨g, 0, none⟩) (clip n) (clip n)) fr) ∧ OnB (fun k => k = g ∨ B k) w0 w ∧ Pool.Rows (shut B w) (some ⟨g, 0, none⟩) (spreadR (clip n) (toShard n) ps) ∧ Lift.Stand B w)
      (G (smF u0 u1 u2 u4 u5 u6 u7 u8 u9 u10 u11 u12 u13 u14 u15 u16 u17 u18 u19 u20 u21 u22 u23 u24 u25 u26 u27 u28 u29 u30 u31 b) (spF A cap ps n g :: Z)) w0 := by
  have hF : FitF Try.prog plainFns sameFns (smF u0 u1 u2 u4 u5 u6 u7 u8 u9 u10 u11 u12 u13 u14 u15 u16 u17 u18 u19 u20 u21 u22 u23 u24 u25 u26 u27 u28 u29 u30 u31 b) := fit_blank sms_ok rfl ⟨_, Try.func16⟩
  have hY : FitX Try.prog plainFns sameFns [spF A cap ps n g] := fun x hx => by
    rw [List.mem_singleton] at hx
    subst hx
    refine ⟨rfl, fun v => ?_⟩
    rw [spF_finish]
    exact fit_blank spr_ok rfl ⟨_, Try.func9⟩
  have hw := lift_walk2 closed (ends_back (R := fun wl => OnB (fun k => k = g ∨ B k) w0 wl ∧ Pool.Rows wl (some ⟨g, 0, none⟩) (spreadR (clip n) (toShard n) ps)) 9 (.slice (some ⟨g, 0, none⟩) (clip n) (clip n)) (fun _ _ h => h)) hF hY (Z := Z) hB fun T => by
    obtain ⟨fr, w', hs, hmd, hfn, hv, hon, hR⟩ := spread_ret u0 u1 u2 u4 u5 u6 u7 u8 u9 u10 u11 u12 u13 u14 u15 u16 u17 u18 u19 u20 u21 u22 u23 u24 u25 u26 u27 u28 u29 u30 u31 A cap ps n g b m cm (Lift.as (shut B w0) T) [door Try.prog]
      (fun i hi => by
        obtain ⟨a, e, hc⟩ := hA i hi
        exact ⟨a, e, by rw [shut_cell (by rw [add_block]; exact hAB a e)]; exact hc⟩) hAg hl hmg (by rw [shut_cell hbB]; exact hb) (fun i hi => by rw [shut_cell hmB]; exact hm i hi)
      (RRow.same hrow fun k hk => shut_heap (by
        have : k = g := by simpa [Value.ownBlock] using hk.symm
        subst this
        exact hgB))
    have hP : Pend B (Lift.as (shut B w0) T) := shut_pend hB
    have hfit := (steps_fit closed (Y := [spF A cap ps n g]) (Y' := []) hF hY hP (.inr hmd) ⟨_, by rw [hfn]; exact Try.func9⟩ hs).1
    have hsz0 : (Lift.as (shut B w0) T).heap.size = w0.heap.size := shut_size
    exact ⟨fr, [], w', hs, rfl, ⟨hfit, hmd, hfn, hv⟩, ⟨hon.os, hon.output, by have := hon.size; rw [hsz0] at this; exact this, fun k hk h1 => (hon.block k (by rw [hsz0]; exact hk) (by simpa using fun e => h1 (.inl e))).trans (shut_heap fun e => h1 (.inr e))⟩, hR⟩
  refine GW.mono hw (fun _ _ _ h => h) ?_
  rintro a w ⟨⟨fr, Y, wl, rfl, ⟨rfl, hbk, hon, hR⟩, hrel⟩, hst⟩
  have hu := hon.up hrel
  exact ⟨⟨fr, rfl, hbk⟩, ⟨hu.1, hu.2.1, hu.2.2.1, fun k hk hn => hu.2.2.2 k hk fun e => hn (e.elim id .inr)⟩, rows_shut hrel hR, hst⟩
/-- The step that returns. -/
theorem back_step {f : FuncId} {v : Value} {fr : Frame} (h : Back f v fr) {fn : Func} (hf : Try.prog.funcs[f]? = some fn) (hr : fn.results = #[.tmp 4]) (y : Frame) (cs : List Frame) (w : World) :
    stepG Try.prog true (G fr (y :: cs)) w = .go (G (y.finish v) cs) w #[] := by
  obtain ⟨hF, hm, hfn, hv⟩ := h
  obtain ⟨fnn, tmps, todo, defers, mode, kind, roundOf⟩ := fr
  obtain ⟨ht, hd, hk, hro, _, _⟩ := hF
  dsimp only at *
  subst hd hk hro hm hfn
  have e : (results fn tmps).runT Try.prog w #[] = (.ok (tmps.getD 4 undef) w, #[]) := by
    simp [results, hr, Sem.runT]
  simp only [stepG, G, unwind, hf, doReturn, e, hv]
  simp [GStep.after, seen]
end Go.Proofs.Ytjehmdhcccmihaa.Pool
/-
  Spread from its entry to behind the makes of hash.sums, whoever called it.
-/
namespace Go.Proofs.Ytjehmdhcccmihaa.Pool
open Go.Conc Go.ConcN Go.RowKit Go.Conc.Lib Go.ConcX.Gen Hs
open Go.ConcR (KK wgBlock WgAt stA smA rd wr mk Payload Aside2)
section
variable {A : Option Addr} {cap : Nat} {ps : List ByteArray} {Shun : Loc → Prop} {W w : World} {n : Int}
noncomputable def bodySp : Code := Try.f9.body.getD .skip
/-- Spread, as it is entered -/
noncomputable def gSp (A : Option Addr) (cap : Nat) (ps : List ByteArray) (n : Int) (Y : List Frame) : Goroutine := G ((base 9).at ⟨#[.slice A ps.length cap, .int .i64 n, undef, undef, undef, undef, undef, undef, undef, undef, undef, undef, undef, undef, undef, undef, undef, undef, undef, undef, undef, undef, undef, undef, undef, undef, undef, undef, undef, undef, undef, undef, undef, undef, undef, undef, undef, undef, undef], []⟩ [.code bodySp]) Y

set_option maxRecDepth 100000 in
set_option maxHeartbeats 4000000 in
theorem spread_pre (Y : List Frame) (hA : ∀ a, A = some a → a.block < W.heap.size) (hT : Texts W A ps) (hS : ∀ a : Addr, W.heap.size ≤ a.block → ¬ Shun (.cell a)) (hl : ps.length ≤ 100) :
    ∃ N, Goes Try.prog true AtRel (DB Shun (W.heap.size + 9) (W.heap.size + 2) (W.heap.size + 8)) (fun g w => ∃ v8 v9 v10 v11 v12 W1, g = gA (W.heap.size + 1) A cap ps (spF A cap ps n W.heap.size :: Y) v8 v9 v10 v11 v12 ∧ (∃ d, W1 = (w1 W n).at d) ∧ Beg (W.heap.size + 1) A cap ps W1 w) N
      (gSp A cap ps n Y) W := by
  obtain ⟨i0, hi, hz0, hz1, hz2⟩ := info_parts info22
  obtain ⟨nc, hcount⟩ := count_c (main := true) (termsB (Shun := Shun) (B := W.heap.size + 9) (C := W.heap.size + 2) (G := W.heap.size + 8))
  have hk64 := clip_le n
  have hmk := fun w => run_make (P := Try.prog) w 26 22 i0 (.slice none 0 0) Try.underlying26 hi hz0 .i64 .i64 (clip n : Nat) (clip n : Nat) (by omega) (by omega) (by rw [hz2]; omega) (by omega)
  have hme := fun w es => events_make (P := Try.prog) w 26 22 i0 (.slice none 0 0) Try.underlying26 hi hz0 .i64 .i64 (clip n : Nat) (clip n : Nat) (by omega) (by omega) (by rw [hz2]; omega) (by omega) (by rw [hz2]; simp; omega) es
  have hsz : ∀ d, ((w1 W n).at d).heap.size = W.heap.size + 1 := fun d => by
    show (w1 W n).heap.size = _
    simp [w1]
  have key : ∀ (d : Nat) (Y : List Frame), Goes Try.prog true AtRel (DB Shun (W.heap.size + 9) (W.heap.size + 2) (W.heap.size + 8)) (fun g w => ∃ v8 v9 v10 v11 v12, g = gA (W.heap.size + 1) A cap ps Y v8 v9 v10 v11 v12 ∧ Beg (W.heap.size + 1) A cap ps ((w1 W n).at d) w) 40
      (G ((base 16).at ⟨#[.slice A ps.length cap, undef, undef, undef, undef, undef, undef, undef, undef, undef, undef, undef, undef, undef, undef, undef, undef, undef, undef, undef, undef, undef, undef, undef, undef, undef, undef, undef, undef, undef, undef, undef], []⟩ [.code bodyS]) Y) ((w1 W n).at d) := fun d Y => by
    have hp := sums_pre (W := (w1 W n).at d) (A := A) (cap := cap) (ps := ps) (Shun := Shun) (Y := Y) (fun a e => by rw [hsz]; have := hA a e; omega) (Hs.Texts.alloc hT _) (fun a h => hS a (by rw [hsz] at h; omega)) (by omega)
    rw [hsz] at hp
    exact hp
  refine ⟨((60 + nc + 3) + 7), ?_⟩
  unfold gSp
  simp only [bodySp, Try.f9, Option.getD_some]
  l_c stepG_seq
  l_reg
  l_op
  l_c stepG_region_end
  l_c stepG_seq
  l_reg
  l_op
  refine Goes.call (nf := nc) termsB rfl rfl (by decide) rfl (by walk_nrm; exact hcount _ _) (fun v w' hp => ?_)
  obtain ⟨rfl, hs⟩ := hp
  obtain ⟨d2, rfl⟩ := at_since hs
  clear hs
  simp only [at_at]
  walk_nrm
  l_in
  refine goes_oper_k rfl rfl (by decide) (fun K hK => ?_)
  go_simp
  refine hK _ _ ⟨fun e he => ?_, ?_⟩
  · have hm := mem_listed he
    simp [go_sem, storedEv, *] at hm
    try (subst hm; exact evX_cell _ _ (hS _ (by simp <;> omega)) (by simp <;> omega) (by simp <;> omega) (by simp <;> omega))
  clear hK K
  l_op
  l_c stepG_region_end
  l_c stepG_seq
  l_c stepG_seq
  l_reg
  l_op
  l_call Try.func16 (by rfl) Try.f16
  exact Goes.mono (goes_mono (fun g w ⟨v8, v9, v10, v11, v12, h1, h2⟩ => ⟨v8, v9, v10, v11, v12, _, h1, ⟨_, rfl⟩, h2⟩) (key _ (spF A cap ps n W.heap.size :: Y))) (by omega)
end
end Go.Proofs.Ytjehmdhcccmihaa.Pool
/-
  ONE CALL OF SPREAD, WHOEVER CALLED IT, beside goroutines that are leaving from the calls ahead: on whatever tape it comes to where it returns; its rows are the document's; nothing else has turned.
-/
namespace Go.Proofs.Ytjehmdhcccmihaa.Pool
open Go.Conc Go.ConcN Go.RowKit Go.Conc.Lib Hs
open Go.ConcR (KK wgBlock WgAt stA smA rd wr mk Payload Aside2 DC0)
section
variable {A : Option Addr} {cap : Nat} {ps : List ByteArray} {W w : World} {n : Int}
theorem touch_low {B : Nat} {x : MemAct} (h : x.low B) {y : Touch} (hy : x.touch? = some y) {a : Addr} (ha : y.loc = .cell a) : a.block < B := by
  cases x with
  | access e =>
    simp only [MemAct.touch?, Option.some.injEq] at hy
    subst hy
    have h' : e.loc.low B := h
    dsimp only at ha
    rw [ha] at h'
    exact h'
  | mark m =>
    cases m <;> simp [MemAct.touch?] at hy <;> (subst hy; cases ha; exact h)
  | _ => simp [MemAct.touch?] at hy
theorem shun_set (Bs : Nat → Prop) (G : Nat) : (fun l => Lift.InB Bs l ∨ ShN G l) = Lift.InB (fun b => b = G ∨ Bs b) := by
  funext l
  apply propext
  simp only [ShN, Lift.InB]
  constructor
  · rintro (⟨a, h1, h2⟩ | h)
    · exact ⟨a, h1, .inr h2⟩
    · obtain ⟨a, h1, h2⟩ := h
      exact ⟨a, h1, .inl h2⟩
  · rintro ⟨a, h1, h2 | h2⟩
    · exact .inr ⟨a, h1, h2⟩
    · exact .inl ⟨a, h1, h2⟩
/-- Behind Wait: on to where Spread returns. -/
theorem after_back {M nW : Nat} {W1 w : World} {Bs : Nat → Prop} {Y : List Frame} (hM : M = W.heap.size + 1) (hW1 : ∃ d, W1 = (w1 W n).at d) (hA : ∀ a, A = some a → a.block < W.heap.size) (hAB : ∀ a, A = some a → ¬ Bs a.block)
    (hBs : ∀ b, Bs b → b < W.heap.size) (hSt : Lift.Stand Bs W) (hl : ps.length ≤ 100)
    {v7 v8 v9 v10 v11 v12 v17 v18 v19 v20 v24 v25 v26 v27 v28 v29 : Value} {a : Goroutine}
    (hfin : FinW Try.prog (CH M A cap ps W1) (G (frQ' M A cap ps nW v7 v8 v9 v10 v11 v12 v17 v18 v19 v20 v24 v25 v26 v27 v28 v29) (spF A cap ps n W.heap.size :: Y)) a w)
    {arr : Array Value} (hc1 : w.heap[M + 1]? = some (.cells arr 33 (0, 0))) (hc2 : arr.size = ps.length) (hc3 : ∀ k (h : k < ps.length), arr[k]? = some (.int .u64 ((sum ps[k].data.toList : Nat) : Int))) :
    GW Try.prog (DGrow (Lift.InB (fun b => b = M + 7 ∨ Bs b))) (fun a w' => ∃ w0, CH M A cap ps W1 w0 ∧ (∃ fr, a = G fr Y ∧ Back 9 (.slice (some ⟨W.heap.size, 0, none⟩) (clip n) (clip n)) fr) ∧ OnB (fun k => k = W.heap.size ∨ k = M + 7 ∨ Bs k) w0 w' ∧ Pool.Rows (Lift.shut (fun b => b = M + 7 ∨ Bs b) w') (some ⟨W.heap.size, 0, none⟩) (spreadR (clip n) (toShard n) ps) ∧ Lift.Stand (fun b => b = M + 7 ∨ Bs b) w') a w := by
  obtain ⟨m, hg⟩ := hfin
  refine GW.then (GW.mono (GW.of_goes (goes_at hg)) (fun w w' es h => ⟨by rw [h.1]; exact Nat.le_refl _, fun e he => by rw [h.2] at he; simp at he⟩) (fun _ _ h => h)) ?_
  rintro g w0 ⟨⟨rfl, hch⟩, d0, rfl⟩
  obtain ⟨u0, u1, x2, u4, x5, x6, x7, x8, x9, x10, x11, x12, x13, x14, x15, u16, u17, u18, u19, u20, u21, u22, u23, u24, u25, u26, u27, u28, u29, u30, u31, hfr⟩ := frQ_sm M A cap ps nW v7 v8 v9 v10 v11 v12 v17 v18 v19 v20 v24 v25 v26 v27 v28 v29
  rw [hfr]
  obtain ⟨st, sm, hlive⟩ := hch.wh.live
  obtain ⟨d1, hW1⟩ := hW1
  have hold : ∀ k, k < W.heap.size → (w.at d0).heap[k]? = W.heap[k]? := fun k hk => (hch.bel.block k (by omega)).trans (by rw [hW1]; exact heap_old _ _ _ hk)
  have hB : Lift.Stand (fun b => b = M + 7 ∨ Bs b) (w.at d0) := fun b hb => by
    rcases hb with rfl | hb
    · exact ⟨_, _, hlive, by simp⟩
    · rw [hold b (hBs b hb)]
      exact hSt b hb
  have nB : ∀ k, W.heap.size ≤ k → k ≠ M + 7 → ¬ (k = M + 7 ∨ Bs k) := fun k hk h7 h => h.elim h7 fun h => by have := hBs k h; omega
  have hg := spread_gw u0 u1 x2 u4 x5 x6 x7 x8 x9 x10 x11 x12 x13 x14 x15 u16 u17 u18 u19 u20 u21 u22 u23 u24 u25 u26 u27 u28 u29 u30 u31 A cap ps n W.heap.size (M + 2) (M + 1) ps.length (fun b => b = M + 7 ∨ Bs b) (w.at d0) Y hB hch.wh.txt
    (fun a e => by have := hA a e; omega) (fun a e h => h.elim (fun h => by have := hA a e; omega) (hAB a e)) (by omega) (by omega) (nB _ (by omega) (by omega)) (nB _ (by omega) (by omega)) (nB _ (by omega) (by omega)) hch.wh.mb
    (fun i hi => by
      have h1' : (w.at d0).heap[M + 1]? = some (.cells arr 33 (0, 0)) := hc1
      have := hc3 i hi
      simp [World.cell?, h1', this])
    (w1_row (by
      rw [hch.bel.block _ (by omega), hW1]
      rfl))
  exact GW.mono hg (fun _ _ _ h => h) fun a w' h => ⟨_, hch, h⟩

set_option maxHeartbeats 1000000 in
/-- ████ ONE CALL OF SPREAD. ████ -/
theorem spread_phase {Bs : Nat → Prop} {Y : List Frame} {gs : Array Goroutine} {sl : Option (Nat × Nat)} {T : Trace} {q : Nat → Nat} (hBs : ∀ b, Bs b → b < W.heap.size) (hSt : Lift.Stand Bs W)
    (hA : ∀ a, A = some a → a.block < W.heap.size) (hAB : ∀ a, A = some a → ¬ Bs a.block) (hT : Texts W A ps) (hl : ps.length ≤ 100) (hz : ∀ p ∈ ps, p.size ≤ maxLen)
    (hsz : gs.size ≤ 100) (h0 : gs[0]? = some (gSp A cap ps n Y)) (hL : Leavers Try.prog T gs q) (hP : Past (Lift.InB Bs) W.heap.size T) :
    ∃ K gs' w' sl' T' q' fr, runNT Try.prog K (crowd gs W sl) T = (.next (crowd gs' w' sl'), T') ∧ gs'.size = gs.size + min 4 ps.length ∧ gs'[0]? = some (G fr Y) ∧ Back 9 (.slice (some ⟨W.heap.size, 0, none⟩) (clip n) (clip n)) fr ∧
      Leavers Try.prog T' gs' q' ∧ Past (Lift.InB (fun b => b = W.heap.size + 8 ∨ Bs b)) w'.heap.size T' ∧ W.heap.size + 9 ≤ w'.heap.size ∧ OnB Bs W w' ∧ Pool.Rows (Lift.shut (fun b => b = W.heap.size + 8 ∨ Bs b) w') (some ⟨W.heap.size, 0, none⟩) (spreadR (clip n) (toShard n) ps) ∧ Lift.Stand (fun b => b = W.heap.size + 8 ∨ Bs b) w' := by
  have hpos : 0 < gs.size := (Array.getElem?_eq_some_iff.1 h0).1
  have hS : ∀ a : Addr, W.heap.size ≤ a.block → ¬ Lift.InB Bs (.cell a) := fun a ha ⟨b, e, hb⟩ => by
    cases e
    have := hBs _ hb
    omega
  have hSA : ∀ (a : Addr) (k : Nat), A = some a → ¬ Lift.InB Bs (.cell (a.add k)) := fun a k e ⟨b, e2, hb⟩ => by
    cases e2
    rw [add_block] at hb
    exact hAB a e hb
  obtain ⟨N, hpre⟩ := spread_pre (n := n) (cap := cap) (Shun := Lift.InB Bs) Y hA hT hS hl
  generalize gSp A cap ps n Y = g00 at hpre h0
  obtain ⟨K0, gs0, g0, w0, sl0, T0, q0, r0, z0, h00, ⟨v8, v9, v10, v11, v12, W1, rfl, hW1, hB⟩, L0, P0, N0⟩ :=
    gx_beside (P := Try.prog) (Q := fun e => NtA (W.heap.size + 2) (W.heap.size + 8) (.ofEvent e)) (Nt := fun op => NtA (W.heap.size + 2) (W.heap.size + 8) op.act) (fun g fn pos e h => nt_of _ _ g fn pos e h) (B := W.heap.size + 9) (GW.of_goes hpre)
      gs sl T q h0 hL (hP.mono (by omega)) (fun op hop => by
        have hlow := hP.seen op hop
        refine ⟨fun y a hy ha => ?_, fun hr => ?_⟩
        · have hb := touch_low hlow hy ha
          omega
        · rw [hr] at hlow
          have : W.heap.size + 8 < W.heap.size := hlow
          omega)
  have hA' : ∀ a, A = some a → a.block < W.heap.size + 1 := fun a e => by have := hA a e; omega
  have hS' : ∀ a : Addr, W.heap.size + 1 ≤ a.block → ¬ Lift.InB Bs (.cell a) := fun a ha => hS a (by omega)
  obtain ⟨mg, hgo⟩ := call_goes (Shun := Lift.InB Bs) (c0 := gs.size) (n0 := T0.size) (nW := min 4 ps.length) (W := W1) (Y := spF A cap ps n W.heap.size :: Y) hA' hpos hS' hSA hz (by unfold maxLen; omega) rfl v8 v9 v10 v11 v12 hB.ch
  obtain ⟨K1, M1, T1, r1, gs1, a1, w1', sl1, q1, rfl, z1, h01, hrun1, ⟨v7, y8, y9, y10, y11, y12, v17, v18, v19, v20, v24, v25, v26, v27, v28, v29, hfin⟩, L1, P1, arr, hc1, hc2, hc3⟩ :=
    pool_phase (sl := sl0) (cfg_fit (M := W.heap.size + 1) (A := A) (cap := cap) (ps := ps) (Shun := Lift.InB Bs) (c0 := gs.size) (n0 := T0.size) hpos) (n := min 4 ps.length) (by show gs.size + min 4 ps.length < 2147483647; omega) (fun h => by have h' : 0 < ps.length := h; omega) (fun h => by show ps.length = 0; omega)
      anch_runs (anch_goes hA' hpos) (by rw [z0]; rfl) h00 L0 P0 (by show W.heap.size + 9 ≤ W.heap.size + 1 + 8; omega)
      (fun i a x ha hx => by
        obtain ⟨op, hop, hxo⟩ := touch_of ha
        have := (N0 op (Array.mem_of_getElem? hop)).1 _ _ hxo hx
        exact ⟨this.2, this.1⟩)
      (fun i hi => by
        obtain ⟨op, ho, hoa⟩ := Option.map_eq_some_iff.1 hi
        exact (N0 op (Array.mem_of_getElem? ho)).2 hoa)
      rfl hB.made hB.wg hB.cp hB.cd hgo
  have haft := after_back (M := W.heap.size + 1) (Bs := Bs) rfl hW1 hA hAB hBs hSt hl hfin hc1 hc2 (fun k h => by
    have h1 := hc3 k h
    have hgd : ps.getD k ByteArray.empty = ps[k] := by simp [List.getD, h]
    rw [h1]
    simp only [cfg, hgd])
  have P1' : Past (Lift.InB (fun b => b = W.heap.size + 1 + 7 ∨ Bs b)) w1'.heap.size T1 := by
    rw [fin_size hfin, ← shun_set]
    exact P1
  obtain ⟨K2, gs2, a2, w2, sl2, T2, q2, r2, z2, h02, ⟨w0', hch, ⟨fr, rfl, hbk⟩, hon, hR, hst⟩, L2, P2⟩ := gw_beside haft gs1 sl1 T1 q1 h01 L1 P1'
  obtain ⟨d1, hW1⟩ := hW1
  refine ⟨K0 + (K1 + K2), gs2, w2, sl2, T2, q2, fr, ?_, ?_, h02, hbk, L2, P2, ?_, ?_, hR, hst⟩
  · rw [runNT_add, r0]
    show runNT Try.prog (K1 + K2) _ _ = _
    rw [runNT_add, r1]
    exact r2
  · rw [z2, z1]
    rfl
  · have h2 := hon.2.2.1
    have h3 := hch.size
    omega
  · have e1 : W1.os = W.os := by rw [hW1]; rfl
    have e2 : W1.output = W.output := by rw [hW1]; rfl
    have e3 : ∀ k, k < W.heap.size → W1.heap[k]? = W.heap[k]? := fun k hk => by rw [hW1]; exact heap_old _ _ _ hk
    have h3 := hch.size
    have h2 := hon.2.2.1
    refine ⟨hon.1.trans (hch.bel.os.trans e1), hon.2.1.trans (hch.bel.output.trans e2), by omega, fun k hk hn => ?_⟩
    exact (hon.2.2.2 k (by omega) (fun h => h.elim (by omega) fun h => h.elim (by omega) hn)).trans ((hch.bel.block k (by omega)).trans (e3 k hk))
end
end Go.Proofs.Ytjehmdhcccmihaa.Pool
