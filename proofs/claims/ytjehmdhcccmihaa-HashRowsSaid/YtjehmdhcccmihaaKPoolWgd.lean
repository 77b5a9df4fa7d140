/-
  The walk through sync.WaitGroup's Done, in company: to its release. The kit's own walk tells what comes behind; a short walk beside it, in which nothing turns and nothing is listed, tells that the worlds are those of a pool.
-/
import Derived.Test.YtjehmdhcccmihaaKGMac
import Derived.Conc.CompanyWords
import Derived.Test.YtjehmdhcccmihaaKPoolWga
namespace Go.Proofs.Ytjehmdhcccmihaa
open Go.Conc Go.ConcN Go.RowKit Go.Conc.Lib Go.ConcR.Gen Go.ConcN.Gen
open Go.ConcR (KK wgBlock WgAt stA smA rd wr mk Payload Aside2 DC0)
namespace Pool
variable [Payload] {L : WgLink} {P : Program} {E : Cfg} {F : World → Prop}

section
variable {Own Rd : Nat → Loc → Prop}
/-- Ahead of disable. -/
def StopD (P : Program) (g : Goroutine) (w : World) : Prop := g.status = .running ∧ ∃ g', stepG P false g w = .go g' w #[mk .disable]
/-- Ahead of the release. -/
def StopM (P : Program) (E : Cfg) (g : Goroutine) (w : World) : Prop :=
  g.status = .running ∧ ∃ g', stepG P false g w = .go g' w #[mk (.releaseMerge (stA E.Wg))] ∧ ∃ m, Goes P false (RP E) DC0 (StopD P) m g' w

theorem rel0_lists {g : Goroutine} {w : World} (h : AtRel0 P E g w) {g' : Goroutine} {w' : World} {es : Array Event} (e : stepG P false g w = .go g' w' es) : es = #[mk (.releaseMerge (stA E.Wg))] := by
  obtain ⟨_, _, g₂, h2, _⟩ := h
  rw [e] at h2
  cases h2
  rfl

/-- Behind the release nobody stands ahead of it. -/
theorem join_nope : ∀ {n m : Nat} {g : Goroutine} {w : World}, Goes P false (RW0 E) (DWs E.Wg Own Rd E.Cx 1 1) (AtRel0 P E) m g w → Goes P false (RP E) DC0 (StopD P) n g w → False := by
  have hd : ∀ {m : Nat} {g : Goroutine} {w : World}, Goes P false (RW0 E) (DWs E.Wg Own Rd E.Cx 1 1) (AtRel0 P E) m g w → StopD P g w → False := by
    intro m g w hL hD
    obtain ⟨_, g', hgo⟩ := hD
    have hstop : AtRel0 P E g w → False := fun h => by
      have := rel0_lists h hgo
      simp [mk] at this
    cases m with
    | zero => exact hstop (hL w (RW.refl w))
    | succ m =>
      rcases hL with h | ⟨_, h⟩
      · exact hstop (h w (RW.refl w))
      · have := h w (RW.refl w)
        rw [hgo, goes_go] at this
        exact ((this.1.2 (mk .disable) (by simp)).2.1) rfl
  intro n
  induction n with
  | zero => exact fun hL hM => hd hL (hM _ (.refl _))
  | succ n ih =>
    intro m g w hL hM
    rcases hM with hM | ⟨_, hM⟩
    · exact hd hL (hM _ (.refl _))
    · have := hM w (.refl w)
      cases hgo : stepG P false g w with
      | go g' w' es =>
        rw [hgo, goes_go] at this
        obtain ⟨⟨rfl, rfl⟩, hg⟩ := this
        have hstop : AtRel0 P E g w' → False := fun h => by
          have := rel0_lists h hgo
          simp at this
        cases m with
        | zero => exact hstop (hL _ (RW.refl _))
        | succ m =>
          rcases hL with h | ⟨_, h⟩
          · exact hstop (h _ (RW.refl _))
          · have := h _ (RW.refl _)
            rw [hgo, goes_go] at this
            exact ih this.2 hg
      | _ => rw [hgo] at this; exact this.elim

/-- Both walks go in step. -/
theorem join_rel (F : E.Fit) : ∀ {n m : Nat} {g : Goroutine} {w : World}, Goes P false (RW0 E) (DWs E.Wg Own Rd E.Cx 1 1) (AtRel0 P E) m g w → Goes P false (RP E) DC0 (StopM P E) n g w → GoW P E (AtRel0 P E) n g w := by
  have hs : ∀ {m : Nat} {g : Goroutine} {w : World}, Goes P false (RW0 E) (DWs E.Wg Own Rd E.Cx 1 1) (AtRel0 P E) m g w → (∀ w₁, RP E w w₁ → StopM P E g w₁) → ∀ w₁, RP E w w₁ → AtRel0 P E g w₁ := by
    intro m g w hL hM w₁ h₁
    obtain ⟨_, g', hgo, m', hd⟩ := hM w₁ h₁
    have hL' := Goes.rely rw0_tr hL (h₁.rw0 F)
    cases m with
    | zero => exact hL' w₁ (RW.refl _)
    | succ m =>
      rcases hL' with h | ⟨_, h⟩
      · exact h w₁ (RW.refl _)
      · have := h w₁ (RW.refl _)
        rw [hgo, goes_go] at this
        exact (join_nope this.2 hd).elim
  intro n
  induction n with
  | zero => exact fun hL hM => hs hL hM
  | succ n ih =>
    intro m g w hL hM
    rcases hM with hM | ⟨hrun, hM⟩
    · exact Goes.stop (hs hL hM)
    · refine .inr ⟨hrun, fun w₁ h₁ => ?_⟩
      have := hM w₁ h₁
      have hL' := Goes.rely rw0_tr hL (h₁.rw0 F)
      cases hgo : stepG P false g w₁ with
      | go g' w' es =>
        rw [hgo, goes_go] at this
        obtain ⟨⟨rfl, rfl⟩, hg⟩ := this
        rw [goes_go]
        refine ⟨dr_refl _, ?_⟩
        have hstop : AtRel0 P E g w' → False := fun h => by
          have := rel0_lists h hgo
          simp at this
        cases m with
        | zero => exact (hstop (hL' _ (RW.refl _))).elim
        | succ m =>
          rcases hL' with h | ⟨_, h⟩
          · exact (hstop (h _ (RW.refl _))).elim
          · have := h _ (RW.refl _)
            rw [hgo, goes_go] at this
            exact ih this.2 hg
      | _ => rw [hgo] at this; exact this.elim
end

omit [Payload] in
set_option maxRecDepth 100000 in
set_option maxHeartbeats 8000000 in
theorem doneM (H : WgLib P L) (hty : E.ty = L.tWg) {c : Frame} {cs : List Frame} (w : World) (hl : WgLive L.tWg E.Wg w) :
    Goes P false (RP E) DC0 (StopM P E) 17 (G ((baseD L.done).at ⟨#[.pointer (some ⟨E.Wg, 0, none⟩), undef, undef, undef], []⟩ [.code (body_done L)]) (c :: cs)) w := by
  lib_facts
  have hFr : ∀ w w', RP E w w' → (fun _ : World => True) w → (fun _ : World => True) w' := fun _ _ _ _ => trivial
  have hF : (fun _ : World => True) w ∧ WgLive L.tWg E.Wg w := ⟨trivial, hl⟩
  simp only [body_done, doneFn, Option.getD_some]
  u_reg (fw_rely (F := fun _ => True) hty hFr) hF
  u_op (fw_rely (F := fun _ => True) hty hFr) hF
  u_in (fw_rely (F := fun _ => True) hty hFr) hF
  refine goes_call rfl rfl (by k_ne) rfl H.f_add (nm_add L) rfl ⟨by u_nil, ?_⟩
  walk_nrmf addFn
  u_c stepG_seq (fw_rely (F := fun _ => True) hty hFr) hF
  u_cond true (fw_rely (F := fun _ => True) hty hFr) hF
  u_c stepG_seq (fw_rely (F := fun _ => True) hty hFr) hF
  u_c stepG_seq (fw_rely (F := fun _ => True) hty hFr) hF
  u_reg (fw_rely (F := fun _ => True) hty hFr) hF
  u_op (fw_rely (F := fun _ => True) hty hFr) hF
  u_op (fw_rely (F := fun _ => True) hty hFr) hF
  u_c stepG_region_end (fw_rely (F := fun _ => True) hty hFr) hF
  u_cond true (fw_rely (F := fun _ => True) hty hFr) hF
  u_reg (fw_rely (F := fun _ => True) hty hFr) hF
  u_op (fw_rely (F := fun _ => True) hty hFr) hF
  u_conv H.underlying_tWgP H.room_tWg (WgLive.cell0 hF.2).choose_spec (fw_rely (F := fun _ => True) hty hFr) hF
  refine Goes.stop (fun w1 h1 => ?_)
  replace hF := fw_rely (F := fun _ => True) hty hFr hF h1
  clear h1
  refine ⟨rfl, _, stepG_markAt .releaseMerge (by simp) rfl rfl (by k_ne) rfl H.f_relMerge (x_relMerge_n L) (x_relMerge_b L) (x_relMerge_x L) (x_relMerge_f L) (by simp [Act.eval, stA]), 5, ?_⟩
  walk_nrm
  u_c stepG_region_end (fw_rely (F := fun _ => True) hty hFr) hF
  u_c stepG_seq (fw_rely (F := fun _ => True) hty hFr) hF
  u_reg (fw_rely (F := fun _ => True) hty hFr) hF
  refine Goes.stop (fun w2 h2 => ?_)
  exact ⟨rfl, _, stepG_mark0 .disable (by simp) rfl rfl (by k_ne) rfl H.f_disable (x_disable_n L) (x_disable_b L) (x_disable_x L) (x_disable_f L)⟩

theorem doneW (H : WgLib P L) (hE : E.Fit) (hty : E.ty = L.tWg) {c : Frame} {cs : List Frame} {qt : Nat} (hcm : c.mode = .returning) (hT : QuitsD P qt 0 (G c cs)) (w : World) (hl : WgLive L.tWg E.Wg w) (hx : Has E.Cx 0 E.xv w) :
    GoW P E (AtRel0 P E) 17 (G ((baseD L.done).at ⟨#[.pointer (some ⟨E.Wg, 0, none⟩), undef, undef, undef], []⟩ [.code (body_done L)]) (c :: cs)) w := by
  have h := doneN (Own := fun _ _ => False) (Rd := fun _ _ => False) (Wg := E.Wg) (C := E.Cx) (n := 1) (Low := 0) (k := 1) (val := E.xv) H hcm hT w ⟨hl, hx⟩
  rw [← hty] at h
  exact join_rel hE h (doneM H hty w hl)
end Pool
end Go.Proofs.Ytjehmdhcccmihaa
