/-
  The caller of the pool: from behind its makes to the loop that starts the workers; from Wait's anchor on.
-/
import Derived.Test.YtjehmdhcccmihaaKPoolCa
namespace Go.Proofs.Ytjehmdhcccmihaa.Pool
open Go.Conc Go.ConcN Go.RowKit Go.Conc.Lib Go.ConcR.Gen Go.ConcN.Gen Hs
open Go.ConcR (KK wgBlock WgAt stA smA rd wr mk Payload Aside2 DC0)
section
variable {M : Nat} {A : Option Addr} {cap : Nat} {ps : List ByteArray} {nW : Nat} {Shun : Loc → Prop} {c0 n0 : Nat} {W w : World} {Y : List Frame}
/-- behind Wait -/
abbrev FinQ (M : Nat) (A : Option Addr) (cap : Nat) (ps : List ByteArray) (nW : Nat) (W : World) (Y : List Frame) (g : Goroutine) (w : World) : Prop :=
  ∃ v7 v8 v9 v10 v11 v12 v17 v18 v19 v20 v24 v25 v26 v27 v28 v29, FinW Try.prog (CH M A cap ps W) (G (frQ' M A cap ps nW v7 v8 v9 v10 v11 v12 v17 v18 v19 v20 v24 v25 v26 v27 v28 v29) Y) g w
theorem anch_runs : ∀ g w, AnchQ M A cap ps nW W Y g w → g.status = .running := by
  rintro g w ⟨_, _, _, _, _, _, _, _, _, _, _, _, _, _, _, _, T, rfl, _⟩
  rfl
theorem anch_goes (hA : ∀ a, A = some a → a.block < M) (hc0 : 0 < c0) : ∀ g w, AnchQ M A cap ps nW W Y g w → ∃ m, GoC Try.prog (cfg M A cap ps Shun c0 n0) (AtW1 Try.prog (cfg M A cap ps Shun c0 n0) (FinQ M A cap ps nW W Y) (AnchQ M A cap ps nW W Y)) m g w := by
  rintro g w ⟨v7, v8, v9, v10, v11, v12, v17, v18, v19, v20, v24, v25, v26, v27, v28, v29, h⟩
  exact waitRoundW (P := Try.prog) (E := cfg M A cap ps Shun c0 n0) (F := CH M A cap ps W) wgLib (cfg_fit hc0) rfl (fun _ _ r h => CH.rely hA h r)
    (fun g w h => ⟨v7, v8, v9, v10, v11, v12, v17, v18, v19, v20, v24, v25, v26, v27, v28, v29, h⟩) (fun g w h => ⟨v7, v8, v9, v10, v11, v12, v17, v18, v19, v20, v24, v25, v26, v27, v28, v29, h⟩) g w h

set_option maxRecDepth 100000 in
set_option maxHeartbeats 4000000 in
/-- FROM BEHIND THE MAKES. -/
theorem call_goes (hA : ∀ a, A = some a → a.block < M) (hc0 : 0 < c0) (hS : ∀ a : Addr, M ≤ a.block → ¬ Shun (.cell a)) (hSA : ∀ (a : Addr) (k : Nat), A = some a → ¬ Shun (.cell (a.add k))) (hz : ∀ p ∈ ps, p.size ≤ maxLen) (hl : ps.length ≤ maxLen)
    (hnW : nW = min 4 ps.length) (v8 v9 v10 v11 v12 : Value) (hF : CH M A cap ps W w) :
    ∃ m, GoC Try.prog (cfg M A cap ps Shun c0 n0) (SpawnsT Try.prog (cfg M A cap ps Shun c0 n0) (AnchQ M A cap ps nW W Y) nW) m (gA M A cap ps Y v8 v9 v10 v11 v12) w := by
  have hn4 : nW ≤ 4 := by omega
  have hmi : min (4 : Int) (ps.length : Int) = (nW : Int) := by omega
  clear hnW
  obtain ⟨mi, hi⟩ := call_spawns (nW := nW) (W := W) (Y := Y) (c0 := c0) (n0 := n0) hA hc0 hS hSA hz hl hn4 nW 0 (by omega)
  refine ⟨5 + ((8 + mi) + 1), ?_⟩
  refine goes_cut (n := 5) (m := (8 + mi) + 1) ?_
  simp only [gA, smTail, Try.f16, Option.getD_some]
  u_c stepG_seq (CH.rely (Shun := Shun) (c0 := c0) (n0 := n0) hA) hF
  u_c stepG_seq (CH.rely (Shun := Shun) (c0 := c0) (n0 := n0) hA) hF
  u_reg (CH.rely (Shun := Shun) (c0 := c0) (n0 := n0) hA) hF
  refine Goes.stop (fun w₁ h₁ => ?_)
  replace hF := CH.rely (Shun := Shun) (c0 := c0) (n0 := n0) hA hF h₁
  clear h₁
  g_opw (CH.rely (Shun := Shun) (c0 := c0) (n0 := n0) hA) hF [hF.wh.kb, hF.wh.mb, hF.wh.pb, hF.wh.db] ⟨_, rfl⟩ (evOk_read _ (by simp) (by simp) (by simp) (hS _ (by simp)))
  refine goes_cut (n := 8) (m := mi) ?_
  u_op (CH.rely (Shun := Shun) (c0 := c0) (n0 := n0) hA) hF
  have hme : ∀ (w : World) (es : Array Event), (Builtin.min_ #[3, 3] 3 #[.int .i64 4, .int .i64 ps.length]).events Try.prog w es = es := fun w es => by simp [Builtin.min_, Builtin.min2]
  u_op (CH.rely (Shun := Shun) (c0 := c0) (n0 := n0) hA) hF
  u_op (CH.rely (Shun := Shun) (c0 := c0) (n0 := n0) hA) hF
  u_c stepG_region_end (CH.rely (Shun := Shun) (c0 := c0) (n0 := n0) hA) hF
  u_c stepG_block (CH.rely (Shun := Shun) (c0 := c0) (n0 := n0) hA) hF
  u_c stepG_loop (CH.rely (Shun := Shun) (c0 := c0) (n0 := n0) hA) hF
  refine Goes.stop (fun w₁ h₁ => ?_)
  replace hF := CH.rely (Shun := Shun) (c0 := c0) (n0 := n0) hA hF h₁
  exact hi _ _ _ _ _ _ _ _ _ _ hF
end
end Go.Proofs.Ytjehmdhcccmihaa.Pool
