/-
  The walk through sync.WaitGroup's Wait, in company, to the stops of a pool's caller; and on, once the join is seen.
-/
import Derived.Test.YtjehmdhcccmihaaKGMac
import Derived.Conc.CompanyWords
import Derived.Test.YtjehmdhcccmihaaKPoolWga
namespace Go.Proofs.Ytjehmdhcccmihaa
open Go.Conc Go.ConcN Go.RowKit Go.Conc.Lib Go.ConcR.Gen Go.ConcN.Gen
open Go.ConcR (KK wgBlock WgAt stA smA rd wr mk Payload Aside2 DC0)
namespace Pool
variable {L : WgLink} {P : Program} {E : Cfg} {F : World → Prop}

/-- Once the join is seen: on to Wait's return; nothing turns. -/
def FinW (P : Program) (F : World → Prop) (g₁ g : Goroutine) (w : World) : Prop := ∃ m, Goes P true AtRel DC0 (fun g w => g = g₁ ∧ F w) m g w
theorem fa_rely (hFr : ∀ w w', RP E w w' → F w → F w') {w w₁ : World} (h : F w) (r : AtRel w w₁) : F w₁ := by
  obtain ⟨d, rfl⟩ := r
  exact hFr _ _ (RP.at w d) h

set_option maxRecDepth 100000 in
set_option maxHeartbeats 8000000 in
theorem waitStartW {b₀ : Frame} {a₀ : Act} {ops₀ : Array Oper} {i₀ : Nat} {rest₀ : List Nat} {k₀ : List Item} {cs : List Frame} (H : WgLib P L) (hty : E.ty = L.tWg) (hFr : ∀ w w', RP E w w' → F w → F w') {Anch : Goroutine → World → Prop} (hAnch : ∀ g w, AnchWN L F E.Wg (b₀.at a₀ (.inRegion ops₀ (i₀ :: rest₀) :: k₀)) cs g w → Anch g w) (w : World) (hF : F w ∧ WgLive L.tWg E.Wg w) :
    GoC P E (AtMark P E .disable Anch) 5 (G ((base L.wait).at ⟨#[.pointer (some ⟨E.Wg, 0, none⟩), undef, undef, undef, undef, undef, undef, undef, undef, undef, undef, undef, undef, undef, undef, undef, undef, undef, undef, undef, undef, undef, undef, undef, undef, undef, undef, undef, undef, undef, undef, undef, undef, undef, undef, undef, undef, undef, undef, undef, undef, undef, undef, undef, undef, undef, undef, undef, undef, undef, undef, undef, undef, undef, undef, undef, undef, undef, undef, undef, undef, undef, undef, undef, undef, undef, undef, undef, undef, undef, undef, undef, undef, undef, undef, undef, undef, undef, undef, undef, undef, undef, undef, undef], []⟩ [.code (body_wait L)]) (b₀.at a₀ (.inRegion ops₀ (i₀ :: rest₀) :: k₀) :: cs)) w := by
  lib_facts
  simp only [body_wait, waitFn, Option.getD_some]
  refine goes_dc0 ?_
  u_c stepG_seq (fw_rely hty hFr) hF
  u_cond true (fw_rely hty hFr) hF
  u_reg (fw_rely hty hFr) hF
  refine Goes.stop (fun w1 h1 => ?_)
  replace hF := fw_rely hty hFr hF h1
  clear h1
  refine ⟨rfl, _, stepG_mark0 .disable (by simp) rfl rfl (by k_ne) rfl H.f_disable (x_disable_n L) (x_disable_b L) (x_disable_x L) (x_disable_f L), 5, goes_dc0 ?_⟩
  walk_nrm
  u_c stepG_region_end (fw_rely hty hFr) hF
  u_c stepG_block (fw_rely hty hFr) hF
  u_c stepG_loop (fw_rely hty hFr) hF
  exact Goes.stop (fun w₂ h₂ => hAnch _ _ ⟨_, rfl, by simp, by simp, fw_rely hty hFr hF h₂⟩)

set_option maxRecDepth 100000 in
set_option maxHeartbeats 8000000 in
theorem waitRoundW {b₀ : Frame} {a₀ : Act} {ops₀ : Array Oper} {i₀ : Nat} {rest₀ : List Nat} {k₀ : List Item} {cs : List Frame} (H : WgLib P L) (hE : E.Fit) (hty : E.ty = L.tWg) (hFr : ∀ w w', RP E w w' → F w → F w') {Fin Anch : Goroutine → World → Prop} (hFin : ∀ g w, FinW P F (G (b₀.at (a₀.put ((ops₀[i₀]?).bind (·.dst)) (.tuple #[])) (.inRegion ops₀ rest₀ :: k₀)) cs) g w → Fin g w) (hAnch : ∀ g w, AnchWN L F E.Wg (b₀.at a₀ (.inRegion ops₀ (i₀ :: rest₀) :: k₀)) cs g w → Anch g w) (g : Goroutine) (w : World) (h : AnchWN L F E.Wg (b₀.at a₀ (.inRegion ops₀ (i₀ :: rest₀) :: k₀)) cs g w) :
    ∃ m, GoC P E (AtW1 P E Fin Anch) m g w := by
  lib_facts
  obtain ⟨T, rfl, hT84, t0, hF⟩ := h
  obtain ⟨v0, v1, v2, v3, v4, v5, v6, v7, v8, v9, v10, v11, v12, v13, v14, v15, v16, v17, v18, v19, v20, v21, v22, v23, v24, v25, v26, v27, v28, v29, v30, v31, v32, v33, v34, v35, v36, v37, v38, v39, v40, v41, v42, v43, v44, v45, v46, v47, v48, v49, v50, v51, v52, v53, v54, v55, v56, v57, v58, v59, v60, v61, v62, v63, v64, v65, v66, v67, v68, v69, v70, v71, v72, v73, v74, v75, v76, v77, v78, v79, v80, v81, v82, v83, rfl⟩ := array84 T hT84
  simp only [List.getElem?_toArray, List.getElem?_cons_zero, Option.some.injEq] at t0
  subst t0
  refine ⟨18, goes_dc0 ?_⟩
  simp only [L7, body_wait, waitFn, Option.getD_some]
  u_c stepG_block (fw_rely hty hFr) hF
  u_c stepG_seq (fw_rely hty hFr) hF
  u_reg (fw_rely hty hFr) hF
  u_op (fw_rely hty hFr) hF
  u_op (fw_rely hty hFr) hF
  u_op (fw_rely hty hFr) hF
  u_call H.f_uLoad (nm_uLoad L) uLoadFn (fw_rely hty hFr) hF
  u_c stepG_seq (fw_rely hty hFr) hF
  u_reg (fw_rely hty hFr) hF
  u_op (fw_rely hty hFr) hF
  u_c stepG_region_end (fw_rely hty hFr) hF
  u_c stepG_seq (fw_rely hty hFr) hF
  u_reg (fw_rely hty hFr) hF
  u_op (fw_rely hty hFr) hF
  u_op (fw_rely hty hFr) hF
  u_op (fw_rely hty hFr) hF
  refine Goes.stop (fun w1 h1 => ?_)
  replace hF := fw_rely hty hFr hF h1
  clear h1
  refine ⟨rfl, fun v hv hw => ?_⟩
  rw [hty] at hw
  rcases Nat.eq_zero_or_pos v with rfl | hvp
  · replace hw : WgAt L.tWg E.Wg w1 0 0 := by simpa using hw
    refine ⟨_, stepG_load_atomic (v := 0) rfl rfl (by k_ne) rfl H.f_loadU64 (x_loadU64_n L) (x_loadU64_b L) (x_loadU64_x L) .u64 (x_loadU64_f L) rfl hw.cellSt, fun _ => ⟨33, goes_dc0 ?_⟩, fun h => absurd rfl h⟩
    clear hw
    walk_nrm
    u_op (fw_rely hty hFr) hF
    u_c stepG_region_end (fw_rely hty hFr) hF
    u_c stepG_ret' (fw_rely hty hFr) hF
    u_leave1 H.f_uLoad (fw_rely hty hFr) hF
    u_op (fw_rely hty hFr) hF
    u_c stepG_region_end (fw_rely hty hFr) hF
    u_c stepG_seq (fw_rely hty hFr) hF
    u_reg (fw_rely hty hFr) hF
    u_op (fw_rely hty hFr) hF
    u_op (fw_rely hty hFr) hF
    u_op (fw_rely hty hFr) hF
    u_op (fw_rely hty hFr) hF
    u_c stepG_region_end (fw_rely hty hFr) hF
    u_c stepG_seq (fw_rely hty hFr) hF
    u_reg (fw_rely hty hFr) hF
    u_op (fw_rely hty hFr) hF
    u_op (fw_rely hty hFr) hF
    u_op (fw_rely hty hFr) hF
    u_op (fw_rely hty hFr) hF
    u_c stepG_region_end (fw_rely hty hFr) hF
    u_c stepG_seq (fw_rely hty hFr) hF
    u_c stepG_seq (fw_rely hty hFr) hF
    u_reg (fw_rely hty hFr) hF
    u_op (fw_rely hty hFr) hF
    u_op (fw_rely hty hFr) hF
    u_c stepG_region_end (fw_rely hty hFr) hF
    u_cond true (fw_rely hty hFr) hF
    u_c stepG_seq (fw_rely hty hFr) hF
    u_cond true (fw_rely hty hFr) hF
    u_c stepG_seq (fw_rely hty hFr) hF
    u_reg (fw_rely hty hFr) hF
    refine Goes.stop (fun w5 h5 => ?_)
    replace hF := fw_rely hty hFr hF h5
    clear h5
    refine ⟨rfl, _, stepG_mark0 .enable (by simp) rfl rfl (by k_ne) rfl H.f_enable (x_enable_n L) (x_enable_b L) (x_enable_x L) (x_enable_f L), 6, goes_dc0 ?_⟩
    walk_nrm
    u_c stepG_region_end (fw_rely hty hFr) hF
    u_reg (fw_rely hty hFr) hF
    u_op (fw_rely hty hFr) hF
    u_conv H.underlying_tWgP H.room_tWg (WgLive.cell0 hF.2).choose_spec (fw_rely hty hFr) hF
    refine Goes.stop (fun w6 h6 => ?_)
    replace hF := fw_rely hty hFr hF h6
    clear h6
    refine ⟨rfl, _, stepG_markAt .acquire (by simp) rfl rfl (by k_ne) rfl H.f_acquire (x_acquire_n L) (x_acquire_b L) (x_acquire_x L) (x_acquire_f L) (by simp [Act.eval, stA]), rfl, fun w7 h7 => hFin _ _ ⟨22, ?_⟩⟩
    replace hF := fw_rely hty hFr hF h7
    replace hF := hF.1
    clear h7
    walk_nrm
    u_c stepG_region_end (fa_rely hFr) hF
    u_c stepG_seq (fa_rely hFr) hF
    u_c stepG_seq (fa_rely hFr) hF
    u_reg (fa_rely hFr) hF
    u_op (fa_rely hFr) hF
    u_op (fa_rely hFr) hF
    u_op (fa_rely hFr) hF
    u_op (fa_rely hFr) hF
    u_op (fa_rely hFr) hF
    u_op (fa_rely hFr) hF
    u_op (fa_rely hFr) hF
    u_op (fa_rely hFr) hF
    u_skip (fa_rely hFr) hF
    u_skip (fa_rely hFr) hF
    u_op (fa_rely hFr) hF
    u_c stepG_region_end (fa_rely hFr) hF
    u_cond false (fa_rely hFr) hF
    u_c stepG_skip (fa_rely hFr) hF
    u_c stepG_ret' (fa_rely hFr) hF
    u_leave0 H.f_wait (fa_rely hFr) hF
    exact Goes.stop (fun w8 h8 => ⟨rfl, fa_rely hFr hF h8⟩)
  · obtain ⟨S, hS⟩ : ∃ S : Int, (v : Int) * KK = S := ⟨_, rfl⟩
    have a1 : S / 4294967296 = (v : Int) := by rw [← hS]; simp only [KK]; omega
    have b1 : bits .and .u64 S 2147483648 = 0 := by rw [← hS]; have := st_flag v 0 (by omega) (by omega); simpa [KK] using this
    have b2 : bits .and .u64 S 2147483647 = 0 := by rw [← hS]; have := st_waiters v 0 (by omega) (by omega); simpa [KK] using this
    have c1 : IntKind.i32.wrap (v : Int) = (v : Int) := by rw [IntKind.wrap_i32]; omega
    have w1 : IntKind.u64.wrap (S + 1) = S + 1 := by rw [IntKind.wrap_u64, ← hS]; simp only [KK]; omega
    have q3 : decide ((v : Int) < 0) = false := decide_eq_false (by omega)
    have q4 : decide (0 < (v : Int)) = true := decide_eq_true (by omega)
    have q5 : ((v : Int) == 0) = false := by simp; omega
    have q6 : decide ((v : Int) = 0) = false := decide_eq_false (by omega)
    rw [hS] at hw
    refine ⟨_, stepG_load_atomic (v := S) rfl rfl (by k_ne) rfl H.f_loadU64 (x_loadU64_n L) (x_loadU64_b L) (x_loadU64_x L) .u64 (x_loadU64_f L) rfl hw.cellSt, fun h0 => absurd h0 (by omega), fun _ => ⟨50, goes_dc0 ?_⟩⟩
    clear hw
    walk_nrm
    u_op (fw_rely hty hFr) hF
    u_c stepG_region_end (fw_rely hty hFr) hF
    u_c stepG_ret' (fw_rely hty hFr) hF
    u_leave1 H.f_uLoad (fw_rely hty hFr) hF
    u_op (fw_rely hty hFr) hF
    u_c stepG_region_end (fw_rely hty hFr) hF
    u_c stepG_seq (fw_rely hty hFr) hF
    u_reg (fw_rely hty hFr) hF
    u_op (fw_rely hty hFr) hF
    u_op (fw_rely hty hFr) hF
    u_op (fw_rely hty hFr) hF
    u_op (fw_rely hty hFr) hF
    u_c stepG_region_end (fw_rely hty hFr) hF
    u_c stepG_seq (fw_rely hty hFr) hF
    u_reg (fw_rely hty hFr) hF
    u_op (fw_rely hty hFr) hF
    u_op (fw_rely hty hFr) hF
    u_op (fw_rely hty hFr) hF
    u_op (fw_rely hty hFr) hF
    u_c stepG_region_end (fw_rely hty hFr) hF
    u_c stepG_seq (fw_rely hty hFr) hF
    u_c stepG_seq (fw_rely hty hFr) hF
    u_reg (fw_rely hty hFr) hF
    u_op (fw_rely hty hFr) hF
    u_op (fw_rely hty hFr) hF
    u_c stepG_region_end (fw_rely hty hFr) hF
    u_cnd false (fw_rely hty hFr) hF
    u_c stepG_skip (fw_rely hty hFr) hF
    u_c stepG_seq (fw_rely hty hFr) hF
    u_reg (fw_rely hty hFr) hF
    u_op (fw_rely hty hFr) hF
    u_op (fw_rely hty hFr) hF
    u_op (fw_rely hty hFr) hF
    u_op (fw_rely hty hFr) hF
    u_op (fw_rely hty hFr) hF
    u_op (fw_rely hty hFr) hF
    u_call H.f_uCas (nm_uCas L) uCasFn (fw_rely hty hFr) hF
    u_c stepG_seq (fw_rely hty hFr) hF
    u_reg (fw_rely hty hFr) hF
    u_op (fw_rely hty hFr) hF
    u_c stepG_region_end (fw_rely hty hFr) hF
    u_c stepG_seq (fw_rely hty hFr) hF
    u_reg (fw_rely hty hFr) hF
    u_op (fw_rely hty hFr) hF
    u_op (fw_rely hty hFr) hF
    u_op (fw_rely hty hFr) hF
    u_op (fw_rely hty hFr) hF
    u_op (fw_rely hty hFr) hF
    refine Goes.stop (fun w2 h2 => ?_)
    replace hF := fw_rely hty hFr hF h2
    clear h2
    refine ⟨rfl, fun v' hv' hw => ⟨fun e => ?_, fun e => ?_⟩⟩
    · subst e
      rw [hty, hS] at hw
      rw [hS]
      refine ⟨_, (stepG_cas_hit (v := S) (n := S + 1) rfl rfl (by k_ne) rfl H.f_casU64 (x_casU64_n L) (x_casU64_b L) (x_casU64_x L) .u64 (x_casU64_f L) rfl rfl rfl hw.cellSt (hw.thaw 0)).trans (by rfl), 21 + 27, ?_⟩
      replace hF := fw_set hE hty hFr (a := stA E.Wg) (v := .int .u64 (S + 1)) rfl hF.1 ⟨_, _, hw.setSt _⟩
      clear hw
      walk_nrm
      refine goes_cut (n := 21) (m := 27) ?_
      u_op (fw_rely hty hFr) hF
      u_c stepG_region_end (fw_rely hty hFr) hF
      u_c stepG_ret' (fw_rely hty hFr) hF
      u_leave1 H.f_uCas (fw_rely hty hFr) hF
      u_c stepG_region_end (fw_rely hty hFr) hF
      u_cond true (fw_rely hty hFr) hF
      u_c stepG_seq (fw_rely hty hFr) hF
      u_c stepG_seq (fw_rely hty hFr) hF
      u_reg (fw_rely hty hFr) hF
      u_op (fw_rely hty hFr) hF
      u_op (fw_rely hty hFr) hF
      u_op (fw_rely hty hFr) hF
      u_op (fw_rely hty hFr) hF
      u_c stepG_region_end (fw_rely hty hFr) hF
      u_cond true (fw_rely hty hFr) hF
      u_reg (fw_rely hty hFr) hF
      u_op (fw_rely hty hFr) hF
      u_op (fw_rely hty hFr) hF
      u_op (fw_rely hty hFr) hF
      u_conv H.underlying_tPU32 H.room_tU32 (WgLive.cell1 hF.2).choose_spec (fw_rely hty hFr) hF
      refine Goes.stop (fun w9 h9 => ?_)
      replace hF := fw_rely hty hFr hF h9
      clear h9
      refine Goes.step rfl (fun _ h₁ => ?_)
      replace hF := fw_rely hty hFr hF h₁
      clear h₁
      rw [stepG_markAt .write (by simp) rfl rfl (by k_ne) rfl H.f_raceWrite (x_raceWrite_n L) (x_raceWrite_b L) (x_raceWrite_x L) (x_raceWrite_f L) (ad := ⟨E.Wg, 1, none⟩) (by simp [Act.eval])]
      simp only [goes_go]
      refine ⟨⟨⟨_, rfl⟩, fun e he => ?_⟩, ?_⟩
      · rw [Array.mem_singleton] at he
        exact evOk_said hE (.inr he)
      refine goes_dc0 ?_
      walk_nrm
      u_c stepG_region_end (fw_rely hty hFr) hF
      u_c stepG_seq (fw_rely hty hFr) hF
      u_reg (fw_rely hty hFr) hF
      u_op (fw_rely hty hFr) hF
      u_c stepG_region_end (fw_rely hty hFr) hF
      u_c stepG_seq (fw_rely hty hFr) hF
      u_c stepG_seq (fw_rely hty hFr) hF
      u_reg (fw_rely hty hFr) hF
      u_op (fw_rely hty hFr) hF
      u_op (fw_rely hty hFr) hF
      u_op (fw_rely hty hFr) hF
      u_op (fw_rely hty hFr) hF
      u_skip (fw_rely hty hFr) hF
      u_op (fw_rely hty hFr) hF
      u_c stepG_region_end (fw_rely hty hFr) hF
      u_cond false (fw_rely hty hFr) hF
      u_c stepG_skip (fw_rely hty hFr) hF
      u_c stepG_seq (fw_rely hty hFr) hF
      u_reg (fw_rely hty hFr) hF
      u_op (fw_rely hty hFr) hF
      u_op (fw_rely hty hFr) hF
      u_op (fw_rely hty hFr) hF
      u_op (fw_rely hty hFr) hF
      refine Goes.stop (fun w3 h3 => ?_)
      replace hF := fw_rely hty hFr hF h3
      clear h3
      refine ⟨rfl, rfl, fun ⟨st, hw⟩ => (by rw [hty] at hw; exact stepG_semacquire_wait rfl rfl rfl H.f_semacquire (x_semacquire_n L) (x_semacquire_b L) (x_semacquire_x L) (x_semacquire_f L) (by simp [Act.eval, smA]) hw.cellSm), fun hf => ?_⟩
      rw [hty] at hf
      refine ⟨_, (stepG_semacquire (n := 1) rfl rfl (by k_ne) rfl H.f_semacquire (x_semacquire_n L) (x_semacquire_b L) (x_semacquire_x L) (x_semacquire_f L) (by simp [Act.eval, smA]) hf.cellSm (by k_ne) (hf.thaw 1)).trans (by rfl), 18, goes_dc0 ?_⟩
      replace hF := fw_set hE hty hFr (a := smA E.Wg) (v := .int .u32 0) rfl hF.1 ⟨_, _, hf.setSm 0⟩
      clear hf
      walk_nrm
      u_c stepG_region_end (fw_rely hty hFr) hF
      u_c stepG_seq (fw_rely hty hFr) hF
      u_reg (fw_rely hty hFr) hF
      u_op (fw_rely hty hFr) hF
      u_op (fw_rely hty hFr) hF
      u_op (fw_rely hty hFr) hF
      u_call H.f_uLoad (nm_uLoad L) uLoadFn (fw_rely hty hFr) hF
      u_c stepG_seq (fw_rely hty hFr) hF
      u_reg (fw_rely hty hFr) hF
      u_op (fw_rely hty hFr) hF
      u_c stepG_region_end (fw_rely hty hFr) hF
      u_c stepG_seq (fw_rely hty hFr) hF
      u_reg (fw_rely hty hFr) hF
      u_op (fw_rely hty hFr) hF
      u_op (fw_rely hty hFr) hF
      u_op (fw_rely hty hFr) hF
      refine Goes.stop (fun w4 h4 => ?_)
      replace hF := fw_rely hty hFr hF h4
      clear h4
      refine ⟨rfl, fun hw => ⟨_, stepG_load_atomic (v := 0) rfl rfl (by k_ne) rfl H.f_loadU64 (x_loadU64_n L) (x_loadU64_b L) (x_loadU64_x L) .u64 (x_loadU64_f L) rfl (by rw [hty] at hw; exact hw.cellSt), 13, goes_dc0 ?_⟩⟩
      clear hw
      walk_nrm
      u_op (fw_rely hty hFr) hF
      u_c stepG_region_end (fw_rely hty hFr) hF
      u_c stepG_ret' (fw_rely hty hFr) hF
      u_leave1 H.f_uLoad (fw_rely hty hFr) hF
      u_op (fw_rely hty hFr) hF
      u_op (fw_rely hty hFr) hF
      u_c stepG_region_end (fw_rely hty hFr) hF
      u_c stepG_seq (fw_rely hty hFr) hF
      u_cond true (fw_rely hty hFr) hF
      u_c stepG_seq (fw_rely hty hFr) hF
      u_reg (fw_rely hty hFr) hF
      refine Goes.stop (fun w5 h5 => ?_)
      replace hF := fw_rely hty hFr hF h5
      clear h5
      refine ⟨rfl, _, stepG_mark0 .enable (by simp) rfl rfl (by k_ne) rfl H.f_enable (x_enable_n L) (x_enable_b L) (x_enable_x L) (x_enable_f L), 6, goes_dc0 ?_⟩
      walk_nrm
      u_c stepG_region_end (fw_rely hty hFr) hF
      u_reg (fw_rely hty hFr) hF
      u_op (fw_rely hty hFr) hF
      u_conv H.underlying_tWgP H.room_tWg (WgLive.cell0 hF.2).choose_spec (fw_rely hty hFr) hF
      refine Goes.stop (fun w6 h6 => ?_)
      replace hF := fw_rely hty hFr hF h6
      clear h6
      refine ⟨rfl, _, stepG_markAt .acquire (by simp) rfl rfl (by k_ne) rfl H.f_acquire (x_acquire_n L) (x_acquire_b L) (x_acquire_x L) (x_acquire_f L) (by simp [Act.eval, stA]), rfl, fun w7 h7 => hFin _ _ ⟨12, ?_⟩⟩
      replace hF := fw_rely hty hFr hF h7
      replace hF := hF.1
      clear h7
      walk_nrm
      u_c stepG_region_end (fa_rely hFr) hF
      u_c stepG_seq (fa_rely hFr) hF
      u_c stepG_seq (fa_rely hFr) hF
      u_reg (fa_rely hFr) hF
      u_op (fa_rely hFr) hF
      u_c stepG_region_end (fa_rely hFr) hF
      u_cond false (fa_rely hFr) hF
      u_c stepG_skip (fa_rely hFr) hF
      u_c stepG_ret' (fa_rely hFr) hF
      u_leave0 H.f_wait (fa_rely hFr) hF
      exact Goes.stop (fun w8 h8 => ⟨rfl, fa_rely hFr hF h8⟩)
    · rw [hty] at hw
      refine ⟨_, stepG_cas_miss (v := (v' : Int) * KK) (old := S) (n := S + 1) rfl rfl (by k_ne) rfl H.f_casU64 (x_casU64_n L) (x_casU64_b L) (x_casU64_x L) .u64 (x_casU64_f L) rfl rfl rfl hw.cellSt (hw.thaw 0) (by rw [← hS]; simp only [KK]; omega), 11, goes_dc0 ?_⟩
      clear hw
      walk_nrm
      u_op (fw_rely hty hFr) hF
      u_c stepG_region_end (fw_rely hty hFr) hF
      u_c stepG_ret' (fw_rely hty hFr) hF
      u_leave1 H.f_uCas (fw_rely hty hFr) hF
      u_c stepG_region_end (fw_rely hty hFr) hF
      u_cond false (fw_rely hty hFr) hF
      u_c stepG_skip (fw_rely hty hFr) hF
      u_c stepG_inBlock (fw_rely hty hFr) hF
      u_c stepG_inLoop (fw_rely hty hFr) hF
      refine Goes.stop (fun w3 h3 => ?_)
      replace hF := fw_rely hty hFr hF h3
      clear h3
      exact hAnch _ _ ⟨_, rfl, by simp, by simp, hF⟩
end Pool
end Go.Proofs.Ytjehmdhcccmihaa
