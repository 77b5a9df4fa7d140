/-
  The walk through sync.WaitGroup's Add(1), in company, to the stops of a pool's caller.
-/
import Derived.Test.YtjehmdhcccmihaaKGMac
import Derived.Conc.CompanyWords
import Derived.Conc.WgGenN3
namespace Go.Proofs.Ytjehmdhcccmihaa
open Go.Conc Go.ConcN Go.RowKit Go.Conc.Lib Go.ConcR.Gen Go.ConcN.Gen
open Go.ConcR (KK wgBlock WgAt stA smA rd wr mk Payload Aside2 DC0)
namespace Pool
variable {L : WgLink} {P : Program} {E : Cfg} {F : World → Prop}

section
variable {main : Bool} {Stop : Goroutine → World → Prop}
theorem dr_refl (w : World) : DR E main w w #[] := ⟨⟨w.drawn, rfl⟩, by simp⟩
/-- What turns nothing and lists nothing is let by. -/
theorem goes_dc0 : ∀ {n : Nat} {g : Goroutine} {w : World}, Goes P main (RP E) DC0 Stop n g w → Goes P main (RP E) (DR E main) Stop n g w := by
  intro n
  induction n with
  | zero => exact fun h => h
  | succ n ih =>
    intro g w h
    rcases h with h | ⟨hs, h⟩
    · exact .inl h
    · refine .inr ⟨hs, fun w₁ h₁ => ?_⟩
      have := h w₁ h₁
      cases hgo : stepG P main g w₁ with
      | go g' w' es =>
        rw [hgo, goes_go] at this
        obtain ⟨⟨rfl, rfl⟩, hg⟩ := this
        rw [goes_go]
        exact ⟨dr_refl _, ih hg⟩
      | _ => rw [hgo] at this; exact this.elim
/-- One walk behind another. -/
theorem goes_cut {m : Nat} : ∀ {n : Nat} {g : Goroutine} {w : World}, Goes P main (RP E) DC0 (fun g w => Goes P main (RP E) (DR E main) Stop m g w) n g w → Goes P main (RP E) (DR E main) Stop (n + m) g w := by
  intro n
  induction n with
  | zero => intro g w h; rw [Nat.zero_add]; exact h w (.refl w)
  | succ n ih =>
    intro g w h
    rcases h with h | ⟨hs, h⟩
    · exact Goes.mono (h w (.refl w)) (by omega)
    · rw [Nat.add_right_comm]
      refine .inr ⟨hs, fun w₁ h₁ => ?_⟩
      have := h w₁ h₁
      cases hgo : stepG P main g w₁ with
      | go g' w' es =>
        rw [hgo, goes_go] at this
        obtain ⟨⟨rfl, rfl⟩, hg⟩ := this
        rw [goes_go]
        exact ⟨dr_refl _, ih hg⟩
      | _ => rw [hgo] at this; exact this.elim
end

theorem fw_rely (hty : E.ty = L.tWg) (hFr : ∀ w w', RP E w w' → F w → F w') {w w₁ : World} (h : F w ∧ WgLive L.tWg E.Wg w) (r : RP E w w₁) : F w₁ ∧ WgLive L.tWg E.Wg w₁ := ⟨hFr _ _ r h.1, by rw [← hty] at h ⊢; exact r.live h.2⟩
theorem fw_set (hE : E.Fit) (hty : E.ty = L.tWg) (hFr : ∀ w w', RP E w w' → F w → F w') {w : World} {a : Addr} {v : Value} (ha : a.block = E.Wg) (h : F w) (hl : WgLive L.tWg E.Wg (w.setCell a v)) : F (w.setCell a v) ∧ WgLive L.tWg E.Wg (w.setCell a v) :=
  ⟨hFr _ _ (RP.of_wg hE (by have := aside_setCell w a v; rw [ha] at this; exact this) (by rw [hty]; exact hl)) h, hl⟩
theorem evOk_said (hE : E.Fit) {e : Event} (he : e = ⟨.mark (.read ⟨E.Wg, 1, none⟩), false, true⟩ ∨ e = ⟨.mark (.write ⟨E.Wg, 1, none⟩), false, true⟩) : EvOk E true e := by
  have := hE.W
  rcases he with rfl | rfl
  · refine ⟨this, fun x hx => ?_, by simp, by simp, by simp⟩
    simp only [MemAct.ofEvent, MemAct.touch?, Option.some.injEq] at hx
    subst hx
    exact .inl ⟨⟨_, rfl, rfl⟩, by simp, fun _ => rfl⟩
  · refine ⟨this, fun x hx => ?_, by simp, by simp, by simp⟩
    simp only [MemAct.ofEvent, MemAct.touch?, Option.some.injEq] at hx
    subst hx
    exact .inl ⟨⟨_, rfl, rfl⟩, by simp, fun _ => rfl⟩

variable {Then : Goroutine → World → Prop} {mT : Nat}

set_option maxRecDepth 100000 in
set_option maxHeartbeats 8000000 in
theorem addW {b₀ : Frame} {a₀ : Act} {ops₀ : Array Oper} {i₀ : Nat} {rest₀ : List Nat} {k₀ : List Item} {cs : List Frame} (H : WgLib P L) (hE : E.Fit) (hty : E.ty = L.tWg) (hFr : ∀ w w', RP E w w' → F w → F w')
    (hT : ∀ w, F w → WgLive L.tWg E.Wg w → GoC P E Then mT (G (b₀.at (a₀.put ((ops₀[i₀]?).bind (·.dst)) (.tuple #[])) (.inRegion ops₀ rest₀ :: k₀)) cs) w) (w : World) (hF : F w ∧ WgLive L.tWg E.Wg w) :
    GoC P E (AtMark P E .disable (AtAdd P E (AtMark P E .enable Then))) 14 (G ((base L.add).at ⟨#[.pointer (some ⟨E.Wg, 0, none⟩), .int .i64 1, undef, undef, undef, undef, undef, undef, undef, undef, undef, undef, undef, undef, undef, undef, undef, undef, undef, undef, undef, undef, undef, undef, undef, undef, undef, undef, undef, undef, undef, undef, undef, undef, undef, undef, undef, undef, undef, undef, undef, undef, undef, undef, undef, undef, undef, undef, undef, undef, undef, undef, undef, undef, undef, undef, undef, undef, undef, undef, undef, undef, undef, undef, undef, undef, undef, undef, undef, undef, undef, undef, undef, undef, undef, undef, undef, undef, undef, undef, undef, undef, undef, undef, undef, undef, undef, undef, undef, undef, undef, undef, undef, undef, undef, undef, undef, undef, undef, undef, undef, undef, undef, undef, undef, undef, undef, undef, undef, undef, undef, undef, undef, undef, undef, undef, undef], []⟩ [.code (body_add L)]) (b₀.at a₀ (.inRegion ops₀ (i₀ :: rest₀) :: k₀) :: cs)) w := by
  lib_facts
  simp only [body_add, addFn, Option.getD_some]
  refine goes_dc0 ?_
  u_c stepG_seq (fw_rely hty hFr) hF
  u_cond true (fw_rely hty hFr) hF
  u_c stepG_seq (fw_rely hty hFr) hF
  u_c stepG_seq (fw_rely hty hFr) hF
  u_reg (fw_rely hty hFr) hF
  u_op (fw_rely hty hFr) hF
  u_op (fw_rely hty hFr) hF
  u_c stepG_region_end (fw_rely hty hFr) hF
  u_cond false (fw_rely hty hFr) hF
  u_c stepG_skip (fw_rely hty hFr) hF
  u_c stepG_seq (fw_rely hty hFr) hF
  u_reg (fw_rely hty hFr) hF
  refine Goes.stop (fun w1 h1 => ?_)
  replace hF := fw_rely hty hFr hF h1
  clear h1
  refine ⟨rfl, _, stepG_mark0 .disable (by simp) rfl rfl (by k_ne) rfl H.f_disable (x_disable_n L) (x_disable_b L) (x_disable_x L) (x_disable_f L), 36, goes_dc0 ?_⟩
  walk_nrm
  u_c stepG_region_end (fw_rely hty hFr) hF
  u_reg (fw_rely hty hFr) hF
  u_defer (fw_rely hty hFr) hF
  u_c stepG_region_end (fw_rely hty hFr) hF
  u_c stepG_seq (fw_rely hty hFr) hF
  u_reg (fw_rely hty hFr) hF
  u_op (fw_rely hty hFr) hF
  u_c stepG_region_end (fw_rely hty hFr) hF
  u_c stepG_seq (fw_rely hty hFr) hF
  u_c stepG_seq (fw_rely hty hFr) hF
  u_reg (fw_rely hty hFr) hF
  u_bub (fw_rely hty hFr) hF
  u_c stepG_region_end (fw_rely hty hFr) hF
  u_cond false (fw_rely hty hFr) hF
  u_c stepG_skip (fw_rely hty hFr) hF
  u_c stepG_seq (fw_rely hty hFr) hF
  u_reg (fw_rely hty hFr) hF
  u_op (fw_rely hty hFr) hF
  u_op (fw_rely hty hFr) hF
  u_op (fw_rely hty hFr) hF
  u_op (fw_rely hty hFr) hF
  u_op (fw_rely hty hFr) hF
  u_op (fw_rely hty hFr) hF
  u_call H.f_uAdd (nm_uAdd L) uAddFn (fw_rely hty hFr) hF
  u_c stepG_seq (fw_rely hty hFr) hF
  u_reg (fw_rely hty hFr) hF
  u_op (fw_rely hty hFr) hF
  u_c stepG_region_end (fw_rely hty hFr) hF
  u_c stepG_seq (fw_rely hty hFr) hF
  u_reg (fw_rely hty hFr) hF
  u_op (fw_rely hty hFr) hF
  u_op (fw_rely hty hFr) hF
  u_op (fw_rely hty hFr) hF
  u_op (fw_rely hty hFr) hF
  refine Goes.stop (fun w2 h2 => ?_)
  replace hF := fw_rely hty hFr hF h2
  clear h2
  refine ⟨rfl, fun v hv hw => ?_⟩
  rw [hty] at hw
  rcases Nat.eq_zero_or_pos v with rfl | hvp
  · replace hw : WgAt L.tWg E.Wg w2 0 0 := by simpa using hw
    have z : (((0 : Nat) : Int) + 1) * KK = KK := by simp
    rw [z]
    have e0 : IntKind.u64.wrap (0 + 4294967296) = KK := by decide
    refine ⟨_, (stepG_add_atomic rfl rfl (by k_ne) rfl H.f_addU64 (x_addU64_n L) (x_addU64_b L) (x_addU64_x L) .u64 (x_addU64_f L) rfl rfl hw.cellSt (hw.thaw 0)).trans (by rw [e0]; rfl), 55 + 42, ?_⟩
    replace hF := fw_set hE hty hFr (a := stA E.Wg) (v := .int .u64 KK) rfl hF.1 ⟨_, _, hw.setSt _⟩
    clear hw
    simp only [KK] at hF ⊢
    walk_nrm
    refine goes_cut (n := 55) (m := 42) ?_
    u_op (fw_rely hty hFr) hF
    u_c stepG_region_end (fw_rely hty hFr) hF
    u_c stepG_ret' (fw_rely hty hFr) hF
    u_leave1 H.f_uAdd (fw_rely hty hFr) hF
    u_op (fw_rely hty hFr) hF
    u_c stepG_region_end (fw_rely hty hFr) hF
    u_c stepG_seq (fw_rely hty hFr) hF
    u_c stepG_seq (fw_rely hty hFr) hF
    u_reg (fw_rely hty hFr) hF
    u_op (fw_rely hty hFr) hF
    u_op (fw_rely hty hFr) hF
    u_op (fw_rely hty hFr) hF
    u_op (fw_rely hty hFr) hF
    u_skip (fw_rely hty hFr) hF
    u_skip (fw_rely hty hFr) hF
    u_op (fw_rely hty hFr) hF
    u_c stepG_region_end (fw_rely hty hFr) hF
    u_cond false (fw_rely hty hFr) hF
    u_c stepG_skip (fw_rely hty hFr) hF
    u_c stepG_seq (fw_rely hty hFr) hF
    u_reg (fw_rely hty hFr) hF
    u_op (fw_rely hty hFr) hF
    u_op (fw_rely hty hFr) hF
    u_op (fw_rely hty hFr) hF
    u_op (fw_rely hty hFr) hF
    u_c stepG_region_end (fw_rely hty hFr) hF
    u_c stepG_seq (fw_rely hty hFr) hF
    u_reg (fw_rely hty hFr) hF
    u_op (fw_rely hty hFr) hF
    u_op (fw_rely hty hFr) hF
    u_op (fw_rely hty hFr) hF
    u_op (fw_rely hty hFr) hF
    u_c stepG_region_end (fw_rely hty hFr) hF
    u_c stepG_seq (fw_rely hty hFr) hF
    u_c stepG_seq (fw_rely hty hFr) hF
    u_reg (fw_rely hty hFr) hF
    u_op (fw_rely hty hFr) hF
    u_op (fw_rely hty hFr) hF
    u_op (fw_rely hty hFr) hF
    u_op (fw_rely hty hFr) hF
    u_op (fw_rely hty hFr) hF
    u_op (fw_rely hty hFr) hF
    u_op (fw_rely hty hFr) hF
    u_op (fw_rely hty hFr) hF
    u_op (fw_rely hty hFr) hF
    u_op (fw_rely hty hFr) hF
    u_c stepG_region_end (fw_rely hty hFr) hF
    u_cond true (fw_rely hty hFr) hF
    u_reg (fw_rely hty hFr) hF
    u_op (fw_rely hty hFr) hF
    u_op (fw_rely hty hFr) hF
    u_op (fw_rely hty hFr) hF
    u_conv H.underlying_tPU32 H.room_tU32 (WgLive.cell1 hF.2).choose_spec (fw_rely hty hFr) hF
    refine Goes.stop (fun w3 h3 => ?_)
    replace hF := fw_rely hty hFr hF h3
    clear h3
    refine Goes.step rfl (fun _ h₁ => ?_)
    replace hF := fw_rely hty hFr hF h₁
    clear h₁
    rw [stepG_markAt .read (by simp) rfl rfl (by k_ne) rfl H.f_raceRead (x_raceRead_n L) (x_raceRead_b L) (x_raceRead_x L) (x_raceRead_f L) (ad := ⟨E.Wg, 1, none⟩) (by simp [Act.eval])]
    simp only [goes_go]
    refine ⟨⟨⟨_, rfl⟩, fun e he => ?_⟩, ?_⟩
    · rw [Array.mem_singleton] at he
      exact evOk_said hE (.inl he)
    refine goes_dc0 ?_
    walk_nrm
    u_c stepG_region_end (fw_rely hty hFr) hF
    u_c stepG_seq (fw_rely hty hFr) hF
    u_c stepG_seq (fw_rely hty hFr) hF
    u_reg (fw_rely hty hFr) hF
    u_op (fw_rely hty hFr) hF
    u_op (fw_rely hty hFr) hF
    u_c stepG_region_end (fw_rely hty hFr) hF
    u_cond false (fw_rely hty hFr) hF
    u_c stepG_skip (fw_rely hty hFr) hF
    u_c stepG_seq (fw_rely hty hFr) hF
    u_c stepG_seq (fw_rely hty hFr) hF
    u_reg (fw_rely hty hFr) hF
    u_op (fw_rely hty hFr) hF
    u_op (fw_rely hty hFr) hF
    u_op (fw_rely hty hFr) hF
    u_skip (fw_rely hty hFr) hF
    u_skip (fw_rely hty hFr) hF
    u_op (fw_rely hty hFr) hF
    u_op (fw_rely hty hFr) hF
    u_skip (fw_rely hty hFr) hF
    u_skip (fw_rely hty hFr) hF
    u_skip (fw_rely hty hFr) hF
    u_skip (fw_rely hty hFr) hF
    u_op (fw_rely hty hFr) hF
    u_c stepG_region_end (fw_rely hty hFr) hF
    u_cond false (fw_rely hty hFr) hF
    u_c stepG_skip (fw_rely hty hFr) hF
    u_c stepG_seq (fw_rely hty hFr) hF
    u_c stepG_seq (fw_rely hty hFr) hF
    u_reg (fw_rely hty hFr) hF
    u_op (fw_rely hty hFr) hF
    u_op (fw_rely hty hFr) hF
    u_op (fw_rely hty hFr) hF
    u_skip (fw_rely hty hFr) hF
    u_skip (fw_rely hty hFr) hF
    u_op (fw_rely hty hFr) hF
    u_c stepG_region_end (fw_rely hty hFr) hF
    u_cond true (fw_rely hty hFr) hF
    u_c stepG_ret' (fw_rely hty hFr) hF
    refine Goes.stop (fun w4 h4 => ?_)
    replace hF := fw_rely hty hFr hF h4
    clear h4
    refine ⟨rfl, _, stepG_unwind_entry (v := .tuple #[]) (evs := #[mk .enable]) rfl H.f_enable (x_enable_n L) (x_enable_b L) (x_enable_x L) (x_enable_f L) (by simp [Extern.Race.none_]) (by simp [mk]) (by simp [mk]), 1 + mT, ?_⟩
    refine goes_cut (n := 1) (m := mT) ?_
    u_leave0 H.f_add (fw_rely hty hFr) hF
    refine Goes.stop (fun w5 h5 => ?_)
    replace hF := fw_rely hty hFr hF h5
    exact hT _ hF.1 hF.2
  · obtain ⟨V, hV⟩ : ∃ V : Int, V = (v : Int) + 1 := ⟨_, rfl⟩
    obtain ⟨S, hS⟩ : ∃ S : Int, S = V * KK := ⟨_, rfl⟩
    have eS : IntKind.u64.wrap ((v : Int) * KK + 4294967296) = S := by rw [IntKind.wrap_u64, hS, hV]; simp only [KK]; omega
    rw [← hV, ← hS]
    have a1 : S / 4294967296 = V := by rw [hS]; simp only [KK]; omega
    have b1 : bits .and .u64 S 2147483648 = 0 := by rw [hS, hV]; have := st_flag (v + 1) 0 (by omega) (by omega); simpa [KK] using this
    have b2 : bits .and .u64 S 2147483647 = 0 := by rw [hS, hV]; have := st_waiters (v + 1) 0 (by omega) (by omega); simpa [KK] using this
    have c1 : IntKind.i32.wrap V = V := by rw [IntKind.wrap_i32]; omega
    have hV1 : 1 < V := by omega
    have hV2 : V < 2147483648 := by omega
    have q1 : (V == 1) = false := by simp; omega
    have q2 : decide (V = 1) = false := decide_eq_false (by omega)
    have q3 : decide (V < 0) = false := decide_eq_false (by omega)
    have q4 : decide (0 < V) = true := decide_eq_true (by omega)
    have q5 : (V == 0) = false := by simp; omega
    have q6 : decide (V = 0) = false := decide_eq_false (by omega)
    refine ⟨_, (stepG_add_atomic rfl rfl (by k_ne) rfl H.f_addU64 (x_addU64_n L) (x_addU64_b L) (x_addU64_x L) .u64 (x_addU64_f L) rfl rfl hw.cellSt (hw.thaw 0)).trans (by rw [eS]; rfl), 89, goes_dc0 ?_⟩
    replace hF := fw_set hE hty hFr (a := stA E.Wg) (v := .int .u64 S) rfl hF.1 ⟨_, _, hw.setSt _⟩
    clear hw hS hV eS
    walk_nrm
    u_op (fw_rely hty hFr) hF
    u_c stepG_region_end (fw_rely hty hFr) hF
    u_c stepG_ret' (fw_rely hty hFr) hF
    u_leave1 H.f_uAdd (fw_rely hty hFr) hF
    u_op (fw_rely hty hFr) hF
    u_c stepG_region_end (fw_rely hty hFr) hF
    u_c stepG_seq (fw_rely hty hFr) hF
    u_c stepG_seq (fw_rely hty hFr) hF
    u_reg (fw_rely hty hFr) hF
    u_op (fw_rely hty hFr) hF
    u_op (fw_rely hty hFr) hF
    u_op (fw_rely hty hFr) hF
    u_op (fw_rely hty hFr) hF
    u_skip (fw_rely hty hFr) hF
    u_skip (fw_rely hty hFr) hF
    u_op (fw_rely hty hFr) hF
    u_c stepG_region_end (fw_rely hty hFr) hF
    u_cnd false (fw_rely hty hFr) hF
    u_c stepG_skip (fw_rely hty hFr) hF
    u_c stepG_seq (fw_rely hty hFr) hF
    u_reg (fw_rely hty hFr) hF
    u_op (fw_rely hty hFr) hF
    u_op (fw_rely hty hFr) hF
    u_op (fw_rely hty hFr) hF
    u_op (fw_rely hty hFr) hF
    u_c stepG_region_end (fw_rely hty hFr) hF
    u_c stepG_seq (fw_rely hty hFr) hF
    u_reg (fw_rely hty hFr) hF
    u_op (fw_rely hty hFr) hF
    u_op (fw_rely hty hFr) hF
    u_op (fw_rely hty hFr) hF
    u_op (fw_rely hty hFr) hF
    u_c stepG_region_end (fw_rely hty hFr) hF
    u_c stepG_seq (fw_rely hty hFr) hF
    u_c stepG_seq (fw_rely hty hFr) hF
    u_reg (fw_rely hty hFr) hF
    u_op (fw_rely hty hFr) hF
    u_op (fw_rely hty hFr) hF
    u_op (fw_rely hty hFr) hF
    u_op (fw_rely hty hFr) hF
    u_op (fw_rely hty hFr) hF
    u_op (fw_rely hty hFr) hF
    u_op (fw_rely hty hFr) hF
    u_op (fw_rely hty hFr) hF
    u_op (fw_rely hty hFr) hF
    u_op (fw_rely hty hFr) hF
    u_c stepG_region_end (fw_rely hty hFr) hF
    u_cnd false (fw_rely hty hFr) hF
    u_c stepG_skip (fw_rely hty hFr) hF
    u_c stepG_seq (fw_rely hty hFr) hF
    u_c stepG_seq (fw_rely hty hFr) hF
    u_reg (fw_rely hty hFr) hF
    u_op (fw_rely hty hFr) hF
    u_op (fw_rely hty hFr) hF
    u_c stepG_region_end (fw_rely hty hFr) hF
    u_cnd false (fw_rely hty hFr) hF
    u_c stepG_skip (fw_rely hty hFr) hF
    u_c stepG_seq (fw_rely hty hFr) hF
    u_c stepG_seq (fw_rely hty hFr) hF
    u_reg (fw_rely hty hFr) hF
    u_op (fw_rely hty hFr) hF
    u_op (fw_rely hty hFr) hF
    u_op (fw_rely hty hFr) hF
    u_skip (fw_rely hty hFr) hF
    u_skip (fw_rely hty hFr) hF
    u_op (fw_rely hty hFr) hF
    u_op (fw_rely hty hFr) hF
    u_skip (fw_rely hty hFr) hF
    u_skip (fw_rely hty hFr) hF
    u_skip (fw_rely hty hFr) hF
    u_skip (fw_rely hty hFr) hF
    u_op (fw_rely hty hFr) hF
    u_c stepG_region_end (fw_rely hty hFr) hF
    u_cnd false (fw_rely hty hFr) hF
    u_c stepG_skip (fw_rely hty hFr) hF
    u_c stepG_seq (fw_rely hty hFr) hF
    u_c stepG_seq (fw_rely hty hFr) hF
    u_reg (fw_rely hty hFr) hF
    u_op (fw_rely hty hFr) hF
    u_op (fw_rely hty hFr) hF
    u_op (fw_rely hty hFr) hF
    u_skip (fw_rely hty hFr) hF
    u_skip (fw_rely hty hFr) hF
    u_op (fw_rely hty hFr) hF
    u_c stepG_region_end (fw_rely hty hFr) hF
    u_cnd true (fw_rely hty hFr) hF
    u_c stepG_ret' (fw_rely hty hFr) hF
    refine Goes.stop (fun w4 h4 => ?_)
    replace hF := fw_rely hty hFr hF h4
    clear h4
    refine ⟨rfl, _, stepG_unwind_entry (v := .tuple #[]) (evs := #[mk .enable]) rfl H.f_enable (x_enable_n L) (x_enable_b L) (x_enable_x L) (x_enable_f L) (by simp [Extern.Race.none_]) (by simp [mk]) (by simp [mk]), 1 + mT, ?_⟩
    refine goes_cut (n := 1) (m := mT) ?_
    u_leave0 H.f_add (fw_rely hty hFr) hF
    refine Goes.stop (fun w5 h5 => ?_)
    replace hF := fw_rely hty hFr hF h5
    exact hT _ hF.1 hF.2
end Pool
end Go.Proofs.Ytjehmdhcccmihaa
