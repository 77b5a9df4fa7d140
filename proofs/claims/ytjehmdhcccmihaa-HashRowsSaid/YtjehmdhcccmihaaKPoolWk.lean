/-
  A worker of hash.sums, in company: from its birth to its select; from select to the store of a place, and back; from select to its release.
-/
import Derived.Test.YtjehmdhcccmihaaKPoolCfg
namespace Go.Proofs.Ytjehmdhcccmihaa.Pool
open Go.Conc Go.ConcN Go.RowKit Go.Conc.Lib Go.ConcR.Gen Go.ConcN.Gen Hs
open Go.ConcR (KK wgBlock WgAt stA smA rd wr mk Payload Aside2 DC0)
section
variable {M : Nat} {A : Option Addr} {cap : Nat} {ps : List ByteArray} {Shun : Loc → Prop} {c0 n0 : Nat} {w : World}

set_option maxRecDepth 100000 in
set_option maxHeartbeats 4000000 in
/-- From its birth to its select. -/
theorem born_sel (hA : ∀ a, A = some a → a.block < M) (hS : ∀ a : Addr, M ≤ a.block → ¬ Shun (.cell a)) {X : Goroutine → World → Prop} (hX : ∀ w, WH M A cap ps w → X (gSel M A cap ps undef undef undef undef undef undef undef undef undef undef undef undef undef undef) w)
    (hF : WH M A cap ps w) : ∃ m, GoW Try.prog (cfg M A cap ps Shun c0 n0) (AtSelOf X) m (born Try.prog (callW M)) w := by
  refine ⟨(((8 + (4 + 16)) : Nat) + 1), Goes.step rfl fun w₁ h₁ => ?_⟩
  rw [born_step]
  simp only [goes_go]
  refine ⟨dr_refl _, ?_⟩
  replace hF := WH.rely hA hF h₁
  clear h₁
  simp only [bodyW, Try.f24, Option.getD_some]
  refine goes_cut (n := 8) (m := 4 + 16) ?_
  u_c stepG_seq (WH.rely hA) hF
  u_reg (WH.rely hA) hF
  u_defer (WH.rely hA) hF
  u_c stepG_region_end (WH.rely hA) hF
  u_reg (WH.rely hA) hF
  refine Goes.stop (fun w₁ h₁ => ?_)
  replace hF := WH.rely hA hF h₁
  clear h₁
  g_opw (WH.rely hA) hF [WH.kb hF, WH.mb hF, WH.pb hF, WH.db hF] ⟨_, rfl⟩ (evOk_read _ (by simp) (by simp) (by simp) (hS _ (by simp)))
  g_opw (WH.rely hA) hF [WH.kb hF, WH.mb hF, WH.pb hF, WH.db hF] ⟨_, rfl⟩ (evOk_read _ (by simp) (by simp) (by simp) (hS _ (by simp)))
  g_opw (WH.rely hA) hF [WH.kb hF, WH.mb hF, WH.pb hF, WH.db hF] ⟨_, rfl⟩ (evOk_read _ (by simp) (by simp) (by simp) (hS _ (by simp)))
  g_opw (WH.rely hA) hF [WH.kb hF, WH.mb hF, WH.pb hF, WH.db hF] ⟨_, rfl⟩ (evOk_read _ (by simp) (by simp) (by simp) (hS _ (by simp)))
  refine goes_dc0 ?_
  u_call Try.func26 (by rfl) Try.f26 (WH.rely hA) hF
  u_c stepG_block (WH.rely hA) hF
  u_c stepG_loop (WH.rely hA) hF
  u_c stepG_block (WH.rely hA) hF
  u_c stepG_seq (WH.rely hA) hF
  u_c stepG_seq (WH.rely hA) hF
  u_reg (WH.rely hA) hF
  u_op (WH.rely hA) hF
  u_c stepG_region_end (WH.rely hA) hF
  u_reg (WH.rely hA) hF
  u_op (WH.rely hA) hF
  u_c stepG_region_end (WH.rely hA) hF
  u_c stepG_seq (WH.rely hA) hF
  u_reg (WH.rely hA) hF
  refine Goes.stop (fun w₁ h₁ => ?_)
  replace hF := WH.rely hA hF h₁
  exact ⟨gSel M A cap ps undef undef undef undef undef undef undef undef undef undef undef undef undef undef, none, rfl, rfl, hX _ hF⟩

section
variable (v8 v11 v12 v13 v14 v15 v16 v17 v18 v19 v20 v21 v22 v23 : Value)
/-- The select, as a step. -/
theorem sel_comm (w : World) : stepG Try.prog false (gSel M A cap ps v8 v11 v12 v13 v14 v15 v16 v17 v18 v19 v20 v21 v22 v23) w =
    .comm (gSel M A cap ps v8 v11 v12 v13 v14 v15 v16 v17 v18 v19 v20 v21 v22 v23) (selCases (cfg M A cap ps Shun c0 n0)) true .select w #[] := by
  simp only [gSel, fillS, fillL, Try.f26, Option.getD_some]
  rw [stepG_comm (cases := selCases (cfg M A cap ps Shun c0 n0)) (blocking := true) (shape := .select) (w' := w) rfl rfl (by decide) (by simp [go_sem, selCases, rcase, cfg, Act.eval]), listed_nil (by simp [go_sem])]
/-- Behind the select: what it hands over. -/
theorem sel_fin (k : Int) (v : Value) (ok : Bool) : (gSel M A cap ps v8 v11 v12 v13 v14 v15 v16 v17 v18 v19 v20 v21 v22 v23).finishComm Try.prog (selCases (cfg M A cap ps Shun c0 n0)) .select k v ok =
    G ((base 26).at ⟨#[.slice (some ⟨M + 1, 0, none⟩) ps.length ps.length, .slice A ps.length cap, .chan (some (M + 3)), .chan (some (M + 5)), undef, undef, undef, undef, v8, .chan (some (M + 3)), .chan (some (M + 5)), .tuple #[.int .i64 k, .bool ok, if (0 : Int) = k then v else .int .i64 0, if (1 : Int) = k then v else .agg #[]], v12, v13, v14, v15, v16, v17, v18, v19, v20, v21, v22, v23], []⟩
      [.inRegion fillS.1 [1, 2, 3], .code fillS.2, .inBlock 1, .inLoop fillL, .inBlock 0]) [frW M A cap ps, bot] := by
  simp only [gSel, Goroutine.finishComm, G, Frame.finish_at]
  simp [fillS, fillL, Try.f26, selCases, rcase, cfg, commResult, goInt, Act.put, Frame.at]
end

set_option maxRecDepth 100000 in
set_option maxHeartbeats 4000000 in
/-- From the select to its release. -/
theorem sel_end (hA : ∀ a, A = some a → a.block < M) (hc0 : 0 < c0) (v8 v11 v12 v13 v14 v15 v16 v17 v18 v19 v20 v21 v22 v23 : Value) (hF : WH M A cap ps w) :
    SelEnd Try.prog (cfg M A cap ps Shun c0 n0) (gSel M A cap ps v8 v11 v12 v13 v14 v15 v16 v17 v18 v19 v20 v21 v22 v23) w := by
  refine ⟨rfl, sel_comm v8 v11 v12 v13 v14 v15 v16 v17 v18 v19 v20 v21 v22 v23 w, 16 + 30, ?_⟩
  rw [sel_fin]
  refine goes_cut (n := 16) (m := 30) ?_
  simp only [fillS, fillL, frW, opsW, bodyW, tmpsW, Try.f26, Try.f24, Option.getD_some, cfg]
  u_op (WH.rely (Shun := Shun) (c0 := c0) (n0 := n0) hA) hF
  u_op (WH.rely hA) hF
  u_op (WH.rely hA) hF
  u_c stepG_region_end (WH.rely hA) hF
  u_c stepG_block (WH.rely hA) hF
  u_cond false (WH.rely hA) hF
  u_cond true (WH.rely hA) hF
  u_c stepG_ret' (WH.rely hA) hF
  u_leave0 Try.func26 (WH.rely hA) hF
  u_c stepG_region_end (WH.rely hA) hF
  u_c stepG_end (WH.rely hA) hF
  u_unwB (WH.rely hA) hF Try.func25 (nm_done link) Try.f25
  refine Goes.stop (fun w₁ h₁ => ?_)
  replace hF := WH.rely hA hF h₁
  have hD := doneW (P := Try.prog) (E := cfg M A cap ps Shun c0 n0) wgLib (cfg_fit hc0) rfl (cs := [bot]) rfl (quitsTail (tmpsW M A cap ps)) _ hF.live hF.kb
  exact Goes.mono hD (by omega)

theorem WH.key {a : Addr} (h : WH M (some a) cap ps w) {k : Nat} (hk : k < ps.length) : w.cell? (a.add k) = some (.string ps[k]) := by
  obtain ⟨b, e, hc⟩ := h.txt k hk
  cases e
  exact hc

set_option maxRecDepth 100000 in
set_option maxHeartbeats 4000000 in
/-- From the select to the store of a place that it was sent, and back to the select. -/
theorem sel_place (hA : ∀ a, A = some a → a.block < M) (hc0 : 0 < c0) (hSA : ∀ (a : Addr) (k : Nat), A = some a → ¬ Shun (.cell (a.add k))) (hz : ∀ p ∈ ps, p.size ≤ maxLen) (hl : ps.length ≤ maxLen) {X : Goroutine → World → Prop}
    (hX : ∀ v8 v11 v12 v13 v14 v15 v16 v17 v18 v19 v20 v21 v22 v23 w, WH M A cap ps w → X (gSel M A cap ps v8 v11 v12 v13 v14 v15 v16 v17 v18 v19 v20 v21 v22 v23) w)
    (v8 v11 v12 v13 v14 v15 v16 v17 v18 v19 v20 v21 v22 v23 : Value) (hF : WH M A cap ps w) (k : Nat) (hk : k < ps.length) :
    ∃ m, GoW Try.prog (cfg M A cap ps Shun c0 n0) (AtSt Try.prog (cfg M A cap ps Shun c0 n0) (AtSelOf X) k) m ((gSel M A cap ps v8 v11 v12 v13 v14 v15 v16 v17 v18 v19 v20 v21 v22 v23).finishComm Try.prog (selCases (cfg M A cap ps Shun c0 n0)) .select 0 (place k) true) w := by
  obtain ⟨a, rfl, _⟩ := hF.txt k hk
  unfold maxLen at hl
  obtain ⟨nf, hsum⟩ := sum_c (main := false) (terms (main := false) (M := M) (A := some a) (cap := cap) (ps := ps) (Shun := Shun) (c0 := c0) (n0 := n0)) ps[k] (hz _ (List.getElem_mem hk))
  have hlt : (k : Int) < (ps.length : Int) := by omega
  have hi0 : (0 : Int) ≤ (k : Int) := by omega
  have hab := hA a rfl
  refine ⟨18 + ((4 + nf + 3) + 1), ?_⟩
  rw [sel_fin]
  refine goes_cut (n := 18) (m := (4 + nf + 3) + 1) ?_
  simp only [fillS, fillL, Try.f26, Option.getD_some, place]
  u_op (WH.rely (Shun := Shun) (c0 := c0) (n0 := n0) hA) hF
  u_op (WH.rely hA) hF
  u_op (WH.rely hA) hF
  u_c stepG_region_end (WH.rely hA) hF
  u_c stepG_block (WH.rely hA) hF
  u_cond true (WH.rely hA) hF
  u_c stepG_seq (WH.rely hA) hF
  u_reg (WH.rely hA) hF
  u_op (WH.rely hA) hF
  u_op (WH.rely hA) hF
  u_c stepG_region_end (WH.rely hA) hF
  u_reg (WH.rely hA) hF
  u_op (WH.rely hA) hF
  u_op (WH.rely hA) hF
  u_op (WH.rely hA) hF
  u_op (WH.rely hA) hF
  u_op (WH.rely hA) hF
  refine Goes.stop (fun w₁ h₁ => ?_)
  replace hF := WH.rely hA hF h₁
  clear h₁
  g_opw (WH.rely hA) hF [WH.key hF hk] ⟨_, rfl⟩ (evOk_read _ (by rw [add_blk]; omega) (by rw [add_blk]; omega) (by rw [add_blk]; omega) (hSA _ _ rfl))
  refine Goes.call (nf := nf) (m := 4) terms rfl rfl (by decide) rfl (by walk_nrm; exact hsum _) (fun v w' hp => ?_)
  obtain ⟨rfl, hs⟩ := hp
  replace hF : WH M (some a) cap ps w' := hs.elim (fun e => e ▸ hF) (WH.rely hA hF)
  clear hs
  walk_nrm
  refine goes_dc0 ?_
  u_op (WH.rely (Shun := Shun) (c0 := c0) (n0 := n0) hA) hF
  refine Goes.stop (fun w₁ h₁ => ?_)
  replace hF := WH.rely hA hF h₁
  clear h₁
  refine ⟨rfl, fun hm => ?_⟩
  obtain ⟨arr, h1, h2⟩ := id hm
  have h1' : w₁.heap[M + 1]? = some (.cells arr 33 (0, 0)) := h1
  have h2' : arr.size = ps.length := h2
  have hc : w₁.cell? ⟨M + 1, k, none⟩ = some (arr[k]'(by rw [h2']; exact hk)) := by simp [World.cell?, h1', h2', hk]
  have hzz : w₁.frozen? ⟨M + 1, k, none⟩ = false := by simp [World.frozen?, h1']
  have hgd : ps.getD k ByteArray.empty = ps[k] := by simp [List.getD, hk]
  have hadd : (⟨M + 1, 0, none⟩ : Addr).add k = ⟨M + 1, k, none⟩ := by unfold Addr.add; split <;> simp_all
  have hval : (cfg M (some a) cap ps Shun c0 n0).val k = .int .u64 ((sum ps[k].data.toList : Nat) : Int) := by simp only [cfg, hgd]
  rw [hval]
  refine ⟨_, stepG_storeU rfl rfl (by decide) rfl (by first | rfl | (simp only [Act.eval, hadd]; rfl)) rfl hc hzz loud26, 16, goes_dc0 ?_⟩
  replace hF : WH M (some a) cap ps (w₁.setCell ⟨M + 1, k, none⟩ (.int .u64 ((sum ps[k].data.toList : Nat) : Int))) := WH.rely hA hF (RP.of_store (E := cfg M (some a) cap ps Shun c0 n0) (cfg_fit hc0) hm k _)
  clear hc hzz h1 h1' h2 h2' hm
  walk_nrm
  u_c stepG_region_end (WH.rely (Shun := Shun) (c0 := c0) (n0 := n0) hA) hF
  u_c stepG_inBlock (WH.rely hA) hF
  u_c stepG_inBlock (WH.rely hA) hF
  u_c stepG_inLoop (WH.rely hA) hF
  u_c stepG_block (WH.rely hA) hF
  u_c stepG_seq (WH.rely hA) hF
  u_c stepG_seq (WH.rely hA) hF
  u_reg (WH.rely hA) hF
  u_op (WH.rely hA) hF
  u_c stepG_region_end (WH.rely hA) hF
  u_reg (WH.rely hA) hF
  u_op (WH.rely hA) hF
  u_c stepG_region_end (WH.rely hA) hF
  u_c stepG_seq (WH.rely hA) hF
  u_reg (WH.rely hA) hF
  refine Goes.stop (fun w₁ h₁ => ?_)
  replace hF := WH.rely hA hF h₁
  exact ⟨gSel M (some a) cap ps _ _ _ _ _ _ _ _ _ _ _ _ _ _, none, rfl, rfl, hX _ _ _ _ _ _ _ _ _ _ _ _ _ _ _ hF⟩

/-- At its select, r places at the most being still to come. -/
theorem sel_core (hA : ∀ a, A = some a → a.block < M) (hc0 : 0 < c0) (hSA : ∀ (a : Addr) (k : Nat), A = some a → ¬ Shun (.cell (a.add k))) (hz : ∀ p ∈ ps, p.size ≤ maxLen) (hl : ps.length ≤ maxLen) :
    ∀ (r : Nat) (v8 v11 v12 v13 v14 v15 v16 v17 v18 v19 v20 v21 v22 v23 : Value) (w : World), WH M A cap ps w → SelCore Try.prog (cfg M A cap ps Shun c0 n0) r (gSel M A cap ps v8 v11 v12 v13 v14 v15 v16 v17 v18 v19 v20 v21 v22 v23) w
  | 0, _, _, _, _, _, _, _, _, _, _, _, _, _, _, _, hF => sel_end hA hc0 _ _ _ _ _ _ _ _ _ _ _ _ _ _ hF
  | r + 1, _, _, _, _, _, _, _, _, _, _, _, _, _, _, _, hF => ⟨sel_end hA hc0 _ _ _ _ _ _ _ _ _ _ _ _ _ _ hF,
    fun k hk => sel_place hA hc0 hSA hz hl (fun v8 v11 v12 v13 v14 v15 v16 v17 v18 v19 v20 v21 v22 v23 w hw => sel_core hA hc0 hSA hz hl r v8 v11 v12 v13 v14 v15 v16 v17 v18 v19 v20 v21 v22 v23 w hw) _ _ _ _ _ _ _ _ _ _ _ _ _ _ hF k hk⟩
/-- A WORKER'S WHOLE SCRIPT. -/
theorem works (hA : ∀ a, A = some a → a.block < M) (hc0 : 0 < c0) (hS : ∀ a : Addr, M ≤ a.block → ¬ Shun (.cell a)) (hSA : ∀ (a : Addr) (k : Nat), A = some a → ¬ Shun (.cell (a.add k))) (hz : ∀ p ∈ ps, p.size ≤ maxLen) (hl : ps.length ≤ maxLen)
    (hF : WH M A cap ps w) (r : Nat) : ∃ m, GoW Try.prog (cfg M A cap ps Shun c0 n0) (AtSel Try.prog (cfg M A cap ps Shun c0 n0) r) m (born Try.prog (callW M)) w :=
  born_sel hA hS (fun w hw => sel_core hA hc0 hSA hz hl r _ _ _ _ _ _ _ _ _ _ _ _ _ _ w hw) hF
end
end Go.Proofs.Ytjehmdhcccmihaa.Pool
