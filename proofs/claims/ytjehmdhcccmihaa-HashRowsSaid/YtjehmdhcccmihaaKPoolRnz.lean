/-
  HASHSPREADS' RUN, on whatever tape: it ends, races nowhere, hands all over, and answers true.
-/
import Derived.Test.YtjehmdhcccmihaaKPoolRns
import Derived.Test.YtjehmdhcccmihaaKPoolFrq
namespace Go.Proofs.Ytjehmdhcccmihaa.Pool
open Go.Conc Go.ConcN Go.RowKit Go.Conc.Lib Hs
open Go.ConcR (KK wgBlock WgAt stA smA rd wr mk Payload Aside2 DC0)
section
variable {A : Option Addr} {cap : Nat} {ps : List ByteArray} {W w : World} {n : Int}

/-- Behind Wait: on to the law's end. -/
theorem after_wait {M nW : Nat} {W1 w : World} (hM : M = W.heap.size + 1) (hW1 : ∃ d, W1 = (w1 W n).at d) (hA : ∀ a, A = some a → a.block < W.heap.size) (hl : ps.length ≤ 100) (hlo : long (bys ps) ≤ 1000)
    {u2 u3 u5 u6 u7 u8 u9 u10 u11 u12 u13 u14 u15 v7 v8 v9 v10 v11 v12 v17 v18 v19 v20 v24 v25 v26 v27 v28 v29 : Value} {a : Goroutine}
    (hfin : FinW Try.prog (CH M A cap ps W1) (G (frQ' M A cap ps nW v7 v8 v9 v10 v11 v12 v17 v18 v19 v20 v24 v25 v26 v27 v28 v29) [spF A cap ps n W.heap.size, lwF u2 u3 u5 u6 u7 u8 u9 u10 u11 u12 u13 u14 u15 A cap ps n]) a w)
    {arr : Array Value} (hc1 : w.heap[M + 1]? = some (.cells arr 33 (0, 0))) (hc2 : arr.size = ps.length) (hc3 : ∀ k (h : k < ps.length), arr[k]? = some (.int .u64 ((sum ps[k].data.toList : Nat) : Int))) :
    GW Try.prog (DGrow (Lift.InB (· = M + 7))) (fun a w' => ∃ fr Y wl w0, a = G fr (Y ++ []) ∧ (Lift.AtOut Try.prog Lift.plainFns Lift.sameFns (· = .bool true) fr Y wl ∧ OnW W.heap.size (M + 7) w0 wl) ∧ Lift.RelH (· = M + 7) wl w' ∧ CH M A cap ps W1 w0) a w := by
  obtain ⟨m, hg⟩ := hfin
  refine GW.then (GW.mono (GW.of_goes (goes_at hg)) (fun w w' es h => ⟨by rw [h.1]; exact Nat.le_refl _, fun e he => by rw [h.2] at he; simp at he⟩) (fun _ _ h => h)) ?_
  rintro g w0 ⟨⟨rfl, hch⟩, d0, rfl⟩
  obtain ⟨u0, u1, x2, u4, x5, x6, x7, x8, x9, x10, x11, x12, x13, x14, x15, u16, u17, u18, u19, u20, u21, u22, u23, u24, u25, u26, u27, u28, u29, u30, u31, hfr⟩ := frQ_sm M A cap ps nW v7 v8 v9 v10 v11 v12 v17 v18 v19 v20 v24 v25 v26 v27 v28 v29
  rw [hfr]
  obtain ⟨st, sm, hlive⟩ := hch.wh.live
  obtain ⟨d1, hW1⟩ := hW1
  have hg := spreads_gw u0 u1 x2 u4 x5 x6 x7 x8 x9 x10 x11 x12 x13 x14 x15 u16 u17 u18 u19 u20 u21 u22 u23 u24 u25 u26 u27 u28 u29 u30 u31 u2 u3 u5 u6 u7 u8 u9 u10 u11 u12 u13 u14 u15 A cap ps n W.heap.size (M + 2) (M + 1) ps.length (M + 7) _ _ (w.at d0) [] hlive (by simp) hch.wh.txt
    (fun a e => by have := hA a e; omega) (fun a e => by have := hA a e; omega) (by omega) (fun p hp => by have := size_le_long hp; unfold maxLen; omega) (by omega) (by omega) (by omega) (by omega) hch.wh.mb
    (fun i hi => by
      have h1' : (w.at d0).heap[M + 1]? = some (.cells arr 33 (0, 0)) := hc1
      have := hc3 i hi
      simp [World.cell?, h1', this])
    (w1_row (by
      rw [hch.bel.block _ (by omega), hW1]
      rfl))
  refine GW.mono hg (fun _ _ _ h => h) ?_
  rintro a w' ⟨fr, Y, wl, h1, h2, h3⟩
  exact ⟨fr, Y, wl, _, h1, h2, h3, hch⟩

theorem shun_eq (G : Nat) : (fun l => (fun _ : Loc => False) l ∨ ShN G l) = Lift.InB (· = G) := by
  funext l
  simp [ShN, Lift.InB]

theorem goes_some {P : Program} {Stop : Goroutine → World → Prop} : ∀ {m : Nat} {g : Goroutine} {w : World}, Goes P true AtRel DC0 Stop m g w → ∃ g' w', Stop g' w' := by
  intro m
  induction m with
  | zero => exact fun h => ⟨_, _, h _ (atRel_refl _)⟩
  | succ m ih =>
    intro g w h
    rcases h with h | ⟨_, h⟩
    · exact ⟨_, _, h _ (atRel_refl _)⟩
    · have := h w (atRel_refl w)
      cases hgo : stepG P true g w with
      | go g' w' es =>
        rw [hgo, goes_go] at this
        exact ih this.2
      | _ => rw [hgo] at this; exact this.elim
theorem fin_size {M : Nat} {W1 : World} {g₁ g : Goroutine} {w : World} (h : FinW Try.prog (CH M A cap ps W1) g₁ g w) : w.heap.size = M + 8 := by
  obtain ⟨m, h⟩ := h
  obtain ⟨g', w', ⟨_, hch⟩, d, rfl⟩ := goes_some (goes_at h)
  exact hch.size

set_option maxHeartbeats 1000000 in
/-- ████ THE RUN. ████ -/
theorem spreads_run (hA : ∀ a, A = some a → a.block < W.heap.size) (hT : Texts W A ps) (hl : ps.length ≤ 100) (hlo : long (bys ps) ≤ 1000) :
    ∃ K last o w' t', runNT Try.prog (K + 1) (solo (G (Frame.enter Try.prog 3 #[.slice A ps.length cap, .int .i64 n] .normal) []) W) #[] = (.ended o w', t') ∧
      runN Try.prog K (solo (G (Frame.enter Try.prog 3 #[.slice A ps.length cap, .int .i64 n] .normal) []) W) = .next last ∧ step Try.prog last = .ended o w' ∧ Conc.Good Try.prog (fun v w' => v = .bool true ∧ Like W w') last o w' t' := by
  rw [enter_eq, solo_eq_crowd]
  obtain ⟨N, hpre⟩ := law_pre (n := n) (cap := cap) (Shun := fun _ => False) hA hT (fun _ _ h => h) (fun _ _ _ h => h) hl hlo
  generalize G ((Conc.base 3).at ⟨#[.slice A ps.length cap, .int .i64 n, undef, undef, undef, undef, undef, undef, undef, undef, undef, undef, undef, undef, undef, undef, undef, undef, undef, undef, undef, undef, undef, undef], []⟩ [.code bodyL]) [] = g00 at hpre ⊢
  obtain ⟨K0, gs0, g0, w0, sl0, T0, q0, r0, z0, h00, ⟨v8, v9, v10, v11, v12, u2, u3, u5, u6, u7, u8, u9, u10, u11, u12, u13, u14, u15, W1, rfl, hW1, hB⟩, L0, P0, N0⟩ :=
    gx_beside (P := Try.prog) (Q := fun e => NtA (W.heap.size + 2) (W.heap.size + 8) (.ofEvent e)) (Nt := fun op => NtA (W.heap.size + 2) (W.heap.size + 8) op.act) (fun g fn pos e h => nt_of _ _ g fn pos e h) (B := W.heap.size + 9) (GW.of_goes hpre)
      #[g00] none #[] (fun _ => 0) rfl (leavers_one _ _) (past_nil.mono (Nat.zero_le _)) (fun op hop => by simp at hop)
  have hA' : ∀ a, A = some a → a.block < W.heap.size + 1 := fun a e => by have := hA a e; omega
  have hz : ∀ p ∈ ps, p.size ≤ maxLen := fun p hp => by have := size_le_long hp; unfold maxLen; omega
  obtain ⟨mg, hgo⟩ := call_goes (Shun := fun _ => False) (c0 := 1) (n0 := T0.size) (nW := min 4 ps.length) (W := W1) (Y := [spF A cap ps n W.heap.size, lwF u2 u3 u5 u6 u7 u8 u9 u10 u11 u12 u13 u14 u15 A cap ps n]) hA' (by decide) (fun _ _ h => h) (fun _ _ _ h => h) hz (by unfold maxLen; omega) rfl v8 v9 v10 v11 v12 hB.ch
  obtain ⟨K1, M1, T1, r1, gs1, a1, w1', sl1, q1, rfl, z1, h01, hrun1, ⟨v7, y8, y9, y10, y11, y12, v17, v18, v19, v20, v24, v25, v26, v27, v28, v29, hfin⟩, L1, P1, arr, hc1, hc2, hc3⟩ :=
    pool_phase (sl := sl0) (cfg_fit (M := W.heap.size + 1) (A := A) (cap := cap) (ps := ps) (Shun := fun _ => False) (c0 := 1) (n0 := T0.size) (by decide)) (n := min 4 ps.length) (by show 1 + min 4 ps.length < 2147483647; omega) (fun h => by have h' : 0 < ps.length := h; omega) (fun h => by show ps.length = 0; omega)
      anch_runs (anch_goes hA' (by decide)) (by rw [z0]; rfl) h00 L0 P0 (by show W.heap.size + 9 ≤ W.heap.size + 1 + 8; omega)
      (fun i a x ha hx => by
        obtain ⟨op, hop, hxo⟩ := touch_of ha
        have := (N0 op (Array.mem_of_getElem? hop)).1 _ _ hxo hx
        exact ⟨this.2, this.1⟩)
      (fun i hi => by
        obtain ⟨op, ho, hoa⟩ := Option.map_eq_some_iff.1 hi
        exact (N0 op (Array.mem_of_getElem? ho)).2 hoa)
      rfl hB.made hB.wg hB.cp hB.cd hgo
  have haft := after_wait (M := W.heap.size + 1) rfl hW1 hA hl hlo hfin hc1 hc2 (fun k h => by
    have h1 := hc3 k h
    have hgd : ps.getD k ByteArray.empty = ps[k] := by simp [List.getD, h]
    rw [h1]
    simp only [cfg, hgd])
  have P1' : Past (Lift.InB (· = W.heap.size + 1 + 7)) w1'.heap.size T1 := by
    rw [fin_size hfin, ← shun_eq]
    exact P1
  obtain ⟨K2, gs2, a2, w2, sl2, T2, q2, r2, z2, h02, ⟨fr, Y, wl, w0', rfl, ⟨hat, hon⟩, hrel, hch⟩, L2, P2⟩ := gw_beside haft gs1 sl1 T1 q1 h01 L1 P1'
  obtain ⟨d1, hW1⟩ := hW1
  have hlike : ∀ d, Like W (w2.at d) := fun d => by
    have e1 : W1.os = W.os := by rw [hW1]; rfl
    have e2 : W1.output = W.output := by rw [hW1]; rfl
    have e3 : ∀ k, k < W.heap.size → W1.heap[k]? = W.heap[k]? := fun k hk => by rw [hW1]; exact heap_old _ _ _ hk
    refine ⟨hrel.os.symm.trans (hon.1.trans (hch.bel.os.trans e1)), hrel.output.symm.trans (hon.2.1.trans (hch.bel.output.trans e2)), ?_, fun k hk => ?_⟩
    · have h1 := hrel.size
      have h2 := hon.2.2.1
      have h3 := hch.size
      show W.heap.size ≤ w2.heap.size
      omega
    · have h4 := hch.size
      exact (hrel.same k (by show k ≠ W.heap.size + 1 + 7; omega)).symm.trans ((hon.2.2.2 k (by omega) (by omega) (by omega)).trans ((hch.bel.block k (by omega)).trans (e3 k hk)))
  obtain ⟨N3, last, o, w', t', e1, e2, e3, e4⟩ := beside_ends (Post := fun v w' => v = .bool true ∧ Like W w') (D := DE (EvL (Lift.InB (· = W.heap.size + 1 + 7)) w2.heap.size)) (sl := sl2) (n := 0) (fun _ _ _ h => h) h02 L2 P2 (fun w₁ h₁ => by
    obtain ⟨d, rfl⟩ := h₁
    obtain ⟨hr, v, es, hst, hes, hv⟩ := Lift.out_end hat w2.heap.size (Lift.InB (· = W.heap.size + 1 + 7)) (w2.at d)
    exact ⟨hr, v, es, hst, hes, hv, hlike d⟩)
  refine ⟨K0 + (K1 + (K2 + N3)), last, o, w', t', ?_, ?_, e3, e4⟩
  · rw [Nat.add_assoc, runNT_add, r0]
    show runNT Try.prog (K1 + (K2 + N3) + 1) _ _ = _
    rw [Nat.add_assoc, runNT_add, r1]
    show runNT Try.prog (K2 + N3 + 1) _ _ = _
    rw [Nat.add_assoc, runNT_add, r2]
    exact e1
  · rw [runN_add, ← runNT_fst Try.prog _ _ #[], r0]
    show runN Try.prog (K1 + (K2 + N3)) _ = _
    rw [runN_add, ← runNT_fst Try.prog _ _ T0, r1]
    show runN Try.prog (K2 + N3) _ = _
    rw [runN_add, ← runNT_fst Try.prog _ _ T1, r2]
    exact e2
end
end Go.Proofs.Ytjehmdhcccmihaa.Pool
