/-
  HashAll from its entry to behind the makes of hash.sums.
-/
import Derived.Test.YtjehmdhcccmihaaKPoolPrs
import Derived.Test.YtjehmdhcccmihaaKPoolLwa
namespace Go.Proofs.Ytjehmdhcccmihaa.Pool
open Go.Conc Go.ConcN Go.RowKit Go.Conc.Lib Go.ConcX.Gen Hs
open Go.ConcR (KK wgBlock WgAt stA smA rd wr mk Payload Aside2)
/-- how many shards the law asks for -/
def kof (x : Int) : Int := 1 + x % 64
theorem kof_nat (x : Int) : ∃ kk : Nat, kof x = kk ∧ 1 ≤ kk ∧ kk ≤ 64 := ⟨(kof x).toNat, by unfold kof; omega, by unfold kof; omega, by unfold kof; omega⟩
/-- the law, at its call of Spread -/
noncomputable def laF (u2 u3 u14 u15 u16 u17 u18 u19 u20 u21 u22 u23 u24 u25 u26 u27 u28 : Value) (A : Option Addr) (cap : Nat) (ps : List ByteArray) (x : Int) : Frame := (blank 4).at { tmps := #[.slice A ps.length cap, .int .u8 x, u2, u3, .bool false, .int .i64 (kof x), undef, undef, undef, undef, undef, undef, undef, undef, u14, u15, u16, u17, u18, u19, u20, u21, u22, u23, u24, u25, u26, u27, u28, undef, undef, undef, undef, undef, undef, undef, undef, undef, undef, undef, undef, undef, undef, undef, undef, undef, undef, undef, undef, undef, undef, undef, undef, undef, undef, undef, undef, undef, undef, undef, undef, undef, undef, undef, undef, undef, undef, undef, undef, undef, undef, undef, undef, undef, undef, undef, undef, undef, undef, undef, undef, undef, undef, undef, undef, undef, undef, undef, undef, undef, undef, undef, undef, undef, undef, undef, undef, undef, undef, undef, undef, undef, undef, undef, undef, undef, undef, undef, undef, undef, undef], defers := [] } (.inRegion lwaParts.1 (2 :: List.range' 3 (lwaParts.1.toList.drop 3).length) :: lwaParts.2.map .code)
section
variable {A : Option Addr} {cap : Nat} {ps : List ByteArray} {Shun : Loc → Prop} {W w : World} {x : Int}
noncomputable def bodyLa : Code := Try.f4.body.getD .skip

set_option maxRecDepth 100000 in
set_option maxHeartbeats 4000000 in
theorem all_pre (hA : ∀ a, A = some a → a.block < W.heap.size) (hT : Texts W A ps) (hS : ∀ a : Addr, W.heap.size ≤ a.block → ¬ Shun (.cell a)) (hSA : ∀ (a : Addr) (k : Nat), A = some a → ¬ Shun (.cell (a.add k))) (hl : ps.length ≤ 60) (hlo : long (bys ps) ≤ 600) (hx0 : 0 ≤ x) (hx1 : x < 256) :
    ∃ N, Goes Try.prog true AtRel (DB Shun (W.heap.size + 9) (W.heap.size + 2) (W.heap.size + 8)) (fun g w => ∃ v8 v9 v10 v11 v12 u2 u3 u14 u15 u16 u17 u18 u19 u20 u21 u22 u23 u24 u25 u26 u27 u28 W1, g = gA (W.heap.size + 1) A cap ps [spF A cap ps (kof x) W.heap.size, laF u2 u3 u14 u15 u16 u17 u18 u19 u20 u21 u22 u23 u24 u25 u26 u27 u28 A cap ps x] v8 v9 v10 v11 v12 ∧ (∃ d, W1 = (w1 W (kof x)).at d) ∧ Beg (W.heap.size + 1) A cap ps W1 w) N
      (G ((base 4).at ⟨#[.slice A ps.length cap, .int .u8 x, undef, undef, undef, undef, undef, undef, undef, undef, undef, undef, undef, undef, undef, undef, undef, undef, undef, undef, undef, undef, undef, undef, undef, undef, undef, undef, undef, undef, undef, undef, undef, undef, undef, undef, undef, undef, undef, undef, undef, undef, undef, undef, undef, undef, undef, undef, undef, undef, undef, undef, undef, undef, undef, undef, undef, undef, undef, undef, undef, undef, undef, undef, undef, undef, undef, undef, undef, undef, undef, undef, undef, undef, undef, undef, undef, undef, undef, undef, undef, undef, undef, undef, undef, undef, undef, undef, undef, undef, undef, undef, undef, undef, undef, undef, undef, undef, undef, undef, undef, undef, undef, undef, undef, undef, undef, undef, undef, undef, undef], []⟩ [.code bodyLa]) []) W := by
  obtain ⟨i0, hi, hz0, hz1, hz2⟩ := info_parts info22
  obtain ⟨nl, hlong⟩ := long_c (B := W.heap.size + 9) (C := W.heap.size + 2) (G := W.heap.size + 8) A cap ps (by omega) hSA (fun a e => by have := hA a e; omega)
  obtain ⟨nc, hcount⟩ := count_c (main := true) (termsB (Shun := Shun) (B := W.heap.size + 9) (C := W.heap.size + 2) (G := W.heap.size + 8))
  have hk64 := clip_le (kof x)
  have hmk := fun w => run_make (P := Try.prog) w 26 22 i0 (.slice none 0 0) Try.underlying26 hi hz0 .i64 .i64 (clip (kof x) : Nat) (clip (kof x) : Nat) (by omega) (by omega) (by rw [hz2]; omega) (by omega)
  have hme := fun w es => events_make (P := Try.prog) w 26 22 i0 (.slice none 0 0) Try.underlying26 hi hz0 .i64 .i64 (clip (kof x) : Nat) (clip (kof x) : Nat) (by omega) (by omega) (by rw [hz2]; omega) (by omega) (by rw [hz2]; simp; omega) es
  have h100 : ¬ ((60 : Int) < (ps.length : Int)) := by omega
  have h1000 : ¬ ((600 : Int) < ((long (bys ps) : Nat) : Int)) := by omega
  have hk1 : IntKind.i64.wrap x = x := by rw [IntKind.wrap_i64]; omega
  have hk2 : IntKind.i64.wrap (1 + x % 64) = kof x := by rw [IntKind.wrap_i64]; unfold kof; omega
  have hk3 : x.tmod 64 = x % 64 := by rw [Int.tmod_eq_emod_of_nonneg hx0]
  have hsz : ∀ d, ((w1 W (kof x)).at d).heap.size = W.heap.size + 1 := fun d => by
    show (w1 W (kof x)).heap.size = _
    simp [w1]
  have key : ∀ (d : Nat) (Y : List Frame), Goes Try.prog true AtRel (DB Shun (W.heap.size + 9) (W.heap.size + 2) (W.heap.size + 8)) (fun g w => ∃ v8 v9 v10 v11 v12, g = gA (W.heap.size + 1) A cap ps Y v8 v9 v10 v11 v12 ∧ Beg (W.heap.size + 1) A cap ps ((w1 W (kof x)).at d) w) 40
      (G ((base 16).at ⟨#[.slice A ps.length cap, undef, undef, undef, undef, undef, undef, undef, undef, undef, undef, undef, undef, undef, undef, undef, undef, undef, undef, undef, undef, undef, undef, undef, undef, undef, undef, undef, undef, undef, undef, undef], []⟩ [.code bodyS]) Y) ((w1 W (kof x)).at d) := fun d Y => by
    have hp := sums_pre (W := (w1 W (kof x)).at d) (A := A) (cap := cap) (ps := ps) (Shun := Shun) (Y := Y) (fun a e => by rw [hsz]; have := hA a e; omega) (Hs.Texts.alloc hT _) (fun a h => hS a (by rw [hsz] at h; omega)) (by omega)
    rw [hsz] at hp
    exact hp
  refine ⟨((((60 + nc + 3) + 25) + nl + 3) + 12), ?_⟩
  simp only [bodyLa, Try.f4, Option.getD_some]
  l_c stepG_seq
  l_reg
  l_op
  l_c stepG_region_end
  l_c stepG_seq
  l_c stepG_seq
  l_reg
  l_op
  l_op
  l_op
  l_op
  l_op
  refine Goes.call (nf := nl) termsB rfl rfl (by decide) rfl (by walk_nrm; exact hlong _ hT) (fun v w' hp => ?_)
  obtain ⟨rfl, hs⟩ := hp
  obtain ⟨d1, rfl⟩ := at_since hs
  clear hs
  simp only [at_at]
  walk_nrm
  l_op
  l_op
  l_c stepG_region_end
  l_cond false
  l_c stepG_skip
  l_c stepG_seq
  l_reg
  l_op
  l_op
  l_op
  l_op
  l_op
  l_c stepG_region_end
  l_c stepG_seq
  l_reg
  l_op
  l_op
  l_call Try.func9 (by rfl) Try.f9
  l_c stepG_seq
  l_reg
  l_op
  l_c stepG_region_end
  l_c stepG_seq
  l_reg
  l_op
  refine Goes.call (nf := nc) termsB rfl rfl (by decide) rfl (by walk_nrm; exact hcount _ _) (fun v w' hp => ?_)
  obtain ⟨rfl, hs⟩ := hp
  obtain ⟨d2, rfl⟩ := at_since hs
  clear hs
  simp only [at_at]
  walk_nrm
  l_in
  refine goes_oper_k rfl rfl (by decide) (fun K hK => ?_)
  go_simp
  refine hK _ _ ⟨fun e he => ?_, ?_⟩
  · have hm := mem_listed he
    simp [go_sem, storedEv, *] at hm
    try (subst hm; exact evX_cell _ _ (hS _ (by simp <;> omega)) (by simp <;> omega) (by simp <;> omega) (by simp <;> omega))
  clear hK K
  l_op
  l_c stepG_region_end
  l_c stepG_seq
  l_c stepG_seq
  l_reg
  l_op
  l_call Try.func16 (by rfl) Try.f16
  exact Goes.mono (goes_mono (fun g w ⟨v8, v9, v10, v11, v12, h1, h2⟩ => ⟨v8, v9, v10, v11, v12, _, _, _, _, _, _, _, _, _, _, _, _, _, _, _, _, _, _, h1, ⟨_, rfl⟩, h2⟩) (key _ [spF A cap ps (kof x) W.heap.size, laF _ _ _ _ _ _ _ _ _ _ _ _ _ _ _ _ _ A cap ps x])) (by omega)
end
end Go.Proofs.Ytjehmdhcccmihaa.Pool
