/-
  HashSpreads from its entry to behind the makes of hash.sums.
-/
import Derived.Test.YtjehmdhcccmihaaKPoolPre
import Derived.Test.YtjehmdhcccmihaaKPoolOut
import Derived.Conc.CrowdMono
namespace Go.Proofs.Ytjehmdhcccmihaa.Pool
open Go.Conc Go.ConcN Go.RowKit Go.Conc.Lib Go.ConcX.Gen Hs
open Go.ConcR (KK wgBlock WgAt stA smA rd wr mk Payload Aside2)
section
variable {A : Option Addr} {cap : Nat} {ps : List ByteArray} {Shun : Loc → Prop} {W w : World} {n : Int}
noncomputable def bodyL : Code := Try.f3.body.getD .skip
theorem info22 : (Try.prog.info? 22).map (fun i => (i.zero, i.size, i.bytes)) = some (some (.slice none 0 0), 1, 24) := by kernel_rfl
/-- the world behind the rows -/
def w1 (W : World) (n : Int) : World := W.alloc (.cells (madeCells #[.slice none 0 0] (clip n)) 22)
theorem at_since {w w' : World} (h : Since AtRel w w') : ∃ d, w' = w.at d := by
  rcases h with rfl | ⟨d, rfl⟩
  · exact ⟨w'.drawn, rfl⟩
  · exact ⟨d, rfl⟩

set_option maxRecDepth 100000 in
set_option maxHeartbeats 4000000 in
theorem law_pre (hA : ∀ a, A = some a → a.block < W.heap.size) (hT : Texts W A ps) (hS : ∀ a : Addr, W.heap.size ≤ a.block → ¬ Shun (.cell a)) (hSA : ∀ (a : Addr) (k : Nat), A = some a → ¬ Shun (.cell (a.add k))) (hl : ps.length ≤ 100) (hlo : long (bys ps) ≤ 1000) :
    ∃ N, Goes Try.prog true AtRel (DB Shun (W.heap.size + 9) (W.heap.size + 2) (W.heap.size + 8)) (fun g w => ∃ v8 v9 v10 v11 v12 u2 u3 u5 u6 u7 u8 u9 u10 u11 u12 u13 u14 u15 W1, g = gA (W.heap.size + 1) A cap ps [spF A cap ps n W.heap.size, lwF u2 u3 u5 u6 u7 u8 u9 u10 u11 u12 u13 u14 u15 A cap ps n] v8 v9 v10 v11 v12 ∧ (∃ d, W1 = (w1 W n).at d) ∧ Beg (W.heap.size + 1) A cap ps W1 w) N
      (G ((base 3).at ⟨#[.slice A ps.length cap, .int .i64 n, undef, undef, undef, undef, undef, undef, undef, undef, undef, undef, undef, undef, undef, undef, undef, undef, undef, undef, undef, undef, undef, undef], []⟩ [.code bodyL]) []) W := by
  obtain ⟨i0, hi, hz0, hz1, hz2⟩ := info_parts info22
  obtain ⟨nl, hlong⟩ := long_c (B := W.heap.size + 9) (C := W.heap.size + 2) (G := W.heap.size + 8) A cap ps (by omega) hSA (fun a e => by have := hA a e; omega)
  obtain ⟨nc, hcount⟩ := count_c (main := true) (termsB (Shun := Shun) (B := W.heap.size + 9) (C := W.heap.size + 2) (G := W.heap.size + 8))
  have hk64 := clip_le n
  have hmk := fun w => run_make (P := Try.prog) w 26 22 i0 (.slice none 0 0) Try.underlying26 hi hz0 .i64 .i64 (clip n : Nat) (clip n : Nat) (by omega) (by omega) (by rw [hz2]; omega) (by omega)
  have hme := fun w es => events_make (P := Try.prog) w 26 22 i0 (.slice none 0 0) Try.underlying26 hi hz0 .i64 .i64 (clip n : Nat) (clip n : Nat) (by omega) (by omega) (by rw [hz2]; omega) (by omega) (by rw [hz2]; simp; omega) es
  have h100 : ¬ ((100 : Int) < (ps.length : Int)) := by omega
  have h1000 : ¬ ((1000 : Int) < ((long (bys ps) : Nat) : Int)) := by omega
  have hsz : ∀ d, ((w1 W n).at d).heap.size = W.heap.size + 1 := fun d => by
    show (w1 W n).heap.size = _
    simp [w1]
  have key : ∀ (d : Nat) (Y : List Frame), Goes Try.prog true AtRel (DB Shun (W.heap.size + 9) (W.heap.size + 2) (W.heap.size + 8)) (fun g w => ∃ v8 v9 v10 v11 v12, g = gA (W.heap.size + 1) A cap ps Y v8 v9 v10 v11 v12 ∧ Beg (W.heap.size + 1) A cap ps ((w1 W n).at d) w) 40
      (G ((base 16).at ⟨#[.slice A ps.length cap, undef, undef, undef, undef, undef, undef, undef, undef, undef, undef, undef, undef, undef, undef, undef, undef, undef, undef, undef, undef, undef, undef, undef, undef, undef, undef, undef, undef, undef, undef, undef], []⟩ [.code bodyS]) Y) ((w1 W n).at d) := fun d Y => by
    have hp := sums_pre (W := (w1 W n).at d) (A := A) (cap := cap) (ps := ps) (Shun := Shun) (Y := Y) (fun a e => by rw [hsz]; have := hA a e; omega) (Hs.Texts.alloc hT _) (fun a h => hS a (by rw [hsz] at h; omega)) (by omega)
    rw [hsz] at hp
    exact hp
  refine ⟨((((60 + nc + 3) + 17) + nl + 3) + 12), ?_⟩
  simp only [bodyL, Try.f3, Option.getD_some]
  l_c stepG_seq
  l_reg
  l_op
  l_c stepG_region_end
  l_c stepG_seq
  l_c stepG_seq
  l_reg
  l_op
  l_op
  l_op
  l_op
  l_op
  refine Goes.call (nf := nl) termsB rfl rfl (by decide) rfl (by walk_nrm; exact hlong _ hT) (fun v w' hp => ?_)
  obtain ⟨rfl, hs⟩ := hp
  obtain ⟨d1, rfl⟩ := at_since hs
  clear hs
  simp only [at_at]
  walk_nrm
  l_op
  l_op
  l_c stepG_region_end
  l_cond false
  l_c stepG_skip
  l_c stepG_seq
  l_reg
  l_op
  l_op
  l_call Try.func9 (by rfl) Try.f9
  l_c stepG_seq
  l_reg
  l_op
  l_c stepG_region_end
  l_c stepG_seq
  l_reg
  l_op
  refine Goes.call (nf := nc) termsB rfl rfl (by decide) rfl (by walk_nrm; exact hcount _ _) (fun v w' hp => ?_)
  obtain ⟨rfl, hs⟩ := hp
  obtain ⟨d2, rfl⟩ := at_since hs
  clear hs
  simp only [at_at]
  walk_nrm
  l_in
  refine goes_oper_k rfl rfl (by decide) (fun K hK => ?_)
  go_simp
  refine hK _ _ ⟨fun e he => ?_, ?_⟩
  · have hm := mem_listed he
    simp [go_sem, storedEv, *] at hm
    try (subst hm; exact evX_cell _ _ (hS _ (by simp <;> omega)) (by simp <;> omega) (by simp <;> omega) (by simp <;> omega))
  clear hK K
  l_op
  l_c stepG_region_end
  l_c stepG_seq
  l_c stepG_seq
  l_reg
  l_op
  l_call Try.func16 (by rfl) Try.f16
  exact Goes.mono (goes_mono (fun g w ⟨v8, v9, v10, v11, v12, h1, h2⟩ => ⟨v8, v9, v10, v11, v12, _, _, _, _, _, _, _, _, _, _, _, _, _, _, h1, ⟨_, rfl⟩, h2⟩) (key _ [spF A cap ps n W.heap.size, lwF _ _ _ _ _ _ _ _ _ _ _ _ _ A cap ps n])) (by omega)
end
end Go.Proofs.Ytjehmdhcccmihaa.Pool
