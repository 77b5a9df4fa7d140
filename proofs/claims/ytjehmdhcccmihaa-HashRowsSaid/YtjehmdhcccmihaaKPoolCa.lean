/-
  The caller of the pool (hash.sums): from behind its makes to its Wait, in company.
-/
import Derived.Test.YtjehmdhcccmihaaKPoolWk
import Derived.Test.YtjehmdhcccmihaaKPoolWgw
import Derived.Conc.TokenWalk
namespace Go.Proofs.Ytjehmdhcccmihaa.Pool
open Go.Conc Go.ConcN Go.RowKit Go.Conc.Lib Go.ConcR.Gen Go.ConcN.Gen Hs
open Go.ConcR (KK wgBlock WgAt stA smA rd wr mk Payload Aside2 DC0)

/-- What the caller knows of the world: what a worker does; below M nothing has turned since W. -/
structure CH (M : Nat) (A : Option Addr) (cap : Nat) (ps : List ByteArray) (W w : World) : Prop where
  wh : WH M A cap ps w
  bel : Below M W w
  size : w.heap.size = M + 8
noncomputable def smTail : Code := match Try.f16.body.getD .skip with | .seq _ (.seq _ (.seq _ (.seq _ (.seq _ c)))) => c | _ => .skip
noncomputable def LA : Code := match smTail with | .seq (.seq _ (.block _ (.loop c))) _ => c | _ => .skip
noncomputable def tailB : Code := match smTail with | .seq _ c => c | _ => .skip
noncomputable def LB : Code := match tailB with | .seq (.seq _ (.block _ (.loop c))) _ => c | _ => .skip
noncomputable def tailC : Code := match tailB with | .seq _ c => c | _ => .skip
section
variable {M : Nat} {A : Option Addr} {cap : Nat} {ps : List ByteArray} {Shun : Loc → Prop} {c0 n0 : Nat} {W w w₁ : World}
theorem CH.rely (hA : ∀ a, A = some a → a.block < M) (h : CH M A cap ps W w) (r : RP (cfg M A cap ps Shun c0 n0) w w₁) : CH M A cap ps W w₁ :=
  ⟨h.wh.rely hA r, ⟨r.os.trans h.bel.os, r.tape.trans h.bel.tape, r.output.trans h.bel.output, by rw [r.size]; exact h.bel.size, fun k hk => (r.block k (by show k ≠ M + 1; omega) (by show k ≠ M + 7; omega) (by show k ≠ M + 3; omega) (by show k ≠ M + 5; omega)).trans (h.bel.block k hk)⟩, r.size.trans h.size⟩
end
section
variable (M : Nat) (A : Option Addr) (cap : Nat) (ps : List ByteArray) (nW : Nat) (Y : List Frame)
/-- behind the makes -/
noncomputable def gA (v8 v9 v10 v11 v12 : Value) : Goroutine := G ((base 16).at ⟨#[.slice A ps.length cap, .pointer (some ⟨M, 0, none⟩), .slice none 0 0, .pointer (some ⟨M + 2, 0, none⟩), .pointer (some ⟨M + 4, 0, none⟩), .pointer (some ⟨M + 6, 0, none⟩), .pointer (some ⟨M + 7, 0, none⟩), undef, v8, v9, v10, v11, v12, undef, undef, undef, undef, undef, undef, undef, undef, undef, undef, undef, undef, undef, undef, undef, undef, undef, undef, undef], []⟩ [.code smTail]) Y
/-- at the head of the loop that starts the workers -/
noncomputable def gLA (i : Nat) (v8 v9 v10 v11 v12 v17 v18 v19 v20 : Value) : Goroutine := G ((base 16).at ⟨#[.slice A ps.length cap, .pointer (some ⟨M, 0, none⟩), .slice none 0 0, .pointer (some ⟨M + 2, 0, none⟩), .pointer (some ⟨M + 4, 0, none⟩), .pointer (some ⟨M + 6, 0, none⟩), .pointer (some ⟨M + 7, 0, none⟩), undef, v8, v9, v10, v11, v12, .slice A ps.length cap, .int .i64 ps.length, .int .i64 nW, .int .i64 i, v17, v18, v19, v20, undef, undef, undef, undef, undef, undef, undef, undef, undef, undef, undef], []⟩ [.code LA, .inLoop LA, .inBlock 0, .code tailB]) Y
/-- at the head of the loop that sends the places -/
noncomputable def gLB (j : Nat) (v7 v8 v9 v10 v11 v12 v17 v18 v19 v20 v24 v25 v26 v27 v28 : Value) : Goroutine := G ((base 16).at ⟨#[.slice A ps.length cap, .pointer (some ⟨M, 0, none⟩), .slice none 0 0, .pointer (some ⟨M + 2, 0, none⟩), .pointer (some ⟨M + 4, 0, none⟩), .pointer (some ⟨M + 6, 0, none⟩), .pointer (some ⟨M + 7, 0, none⟩), v7, v8, v9, v10, v11, v12, .slice A ps.length cap, .int .i64 ps.length, .int .i64 nW, .int .i64 nW, v17, v18, v19, v20, .slice A ps.length cap, .int .i64 ps.length, .int .i64 j, v24, v25, v26, v27, v28, undef, undef, undef], []⟩ [.code LB, .inLoop LB, .inBlock 2, .code tailC]) Y
end
noncomputable def opsQ : Array Oper := match tailC with | .seq _ (.seq (.region _ ops _) _) => ops | _ => #[]
noncomputable def restQ : Code := match tailC with | .seq _ (.seq _ c) => c | _ => .skip
/-- at its Wait -/
noncomputable def frQ (M : Nat) (A : Option Addr) (cap : Nat) (ps : List ByteArray) (nW : Nat) (v7 v8 v9 v10 v11 v12 v17 v18 v19 v20 v24 v25 v26 v27 v28 v29 : Value) : Frame := (base 16).at ⟨#[.slice A ps.length cap, .pointer (some ⟨M, 0, none⟩), .slice none 0 0, .pointer (some ⟨M + 2, 0, none⟩), .pointer (some ⟨M + 4, 0, none⟩), .pointer (some ⟨M + 6, 0, none⟩), .pointer (some ⟨M + 7, 0, none⟩), v7, v8, v9, v10, v11, v12, .slice A ps.length cap, .int .i64 ps.length, .int .i64 nW, .int .i64 nW, v17, v18, v19, v20, .slice A ps.length cap, .int .i64 ps.length, .int .i64 ps.length, v24, v25, v26, v27, v28, v29, undef, undef], []⟩ (.inRegion opsQ (0 :: []) :: [.code restQ])
/-- behind it -/
noncomputable def frQ' (M : Nat) (A : Option Addr) (cap : Nat) (ps : List ByteArray) (nW : Nat) (v7 v8 v9 v10 v11 v12 v17 v18 v19 v20 v24 v25 v26 v27 v28 v29 : Value) : Frame := (base 16).at (Act.put ⟨#[.slice A ps.length cap, .pointer (some ⟨M, 0, none⟩), .slice none 0 0, .pointer (some ⟨M + 2, 0, none⟩), .pointer (some ⟨M + 4, 0, none⟩), .pointer (some ⟨M + 6, 0, none⟩), .pointer (some ⟨M + 7, 0, none⟩), v7, v8, v9, v10, v11, v12, .slice A ps.length cap, .int .i64 ps.length, .int .i64 nW, .int .i64 nW, v17, v18, v19, v20, .slice A ps.length cap, .int .i64 ps.length, .int .i64 ps.length, v24, v25, v26, v27, v28, v29, undef, undef], []⟩ ((opsQ[0]?).bind (·.dst)) (.tuple #[])) (.inRegion opsQ [] :: [.code restQ])
section
variable {M : Nat} {A : Option Addr} {cap : Nat} {ps : List ByteArray} {nW : Nat} {Shun : Loc → Prop} {c0 n0 : Nat} {W w : World} {Y : List Frame}

theorem loud16 : (Try.prog.funcs[(base 16).fn]?).any (·.norace) = false := by kernel_rfl
theorem finishComm_G {b : Frame} {a : Act} {ops : Array Oper} {i : Nat} {rest : List Nat} {k : List Item} {cs : List Frame} {cases : Array CommCase} {shape : CommShape} {kk : Int} {v : Value} {ok : Bool} {o : Oper} (ho : ops[i]? = some o) :
    (G (b.at a (.inRegion ops (i :: rest) :: k)) cs).finishComm Try.prog cases shape kk v ok = G (b.at (a.put o.dst (commResult cases shape kk v ok)) (.inRegion ops rest :: k)) cs := by
  simp [Goroutine.finishComm, G, Frame.finish_at, ho]
abbrev AnchQ (M : Nat) (A : Option Addr) (cap : Nat) (ps : List ByteArray) (nW : Nat) (W : World) (Y : List Frame) (g : Goroutine) (w : World) : Prop := ∃ v7 v8 v9 v10 v11 v12 v17 v18 v19 v20 v24 v25 v26 v27 v28 v29, AnchWN link (CH M A cap ps W) (M + 7) (frQ M A cap ps nW v7 v8 v9 v10 v11 v12 v17 v18 v19 v20 v24 v25 v26 v27 v28 v29) Y g w
set_option maxRecDepth 100000 in
set_option maxHeartbeats 4000000 in
/-- All is sent: close, and on into Wait. -/
theorem call_close (hA : ∀ a, A = some a → a.block < M) (hc0 : 0 < c0) (hS : ∀ a : Addr, M ≤ a.block → ¬ Shun (.cell a)) (v7 v8 v9 v10 v11 v12 v17 v18 v19 v20 v24 v25 v26 v27 v28 : Value) (hF : CH M A cap ps W w) :
    GoC Try.prog (cfg M A cap ps Shun c0 n0) (AtClose Try.prog (cfg M A cap ps Shun c0 n0) (AtMark Try.prog (cfg M A cap ps Shun c0 n0) .disable (AnchQ M A cap ps nW W Y))) 22 (gLB M A cap ps nW Y ps.length v7 v8 v9 v10 v11 v12 v17 v18 v19 v20 v24 v25 v26 v27 v28) w := by
  have hnl : ¬ ((ps.length : Int) < (ps.length : Int)) := by omega
  refine goes_cut (n := 12) (m := 10) ?_
  simp only [gLA, gLB, gA, LA, tailB, LB, tailC, smTail, Try.f16, Option.getD_some]
  u_c stepG_seq (CH.rely (Shun := Shun) (c0 := c0) (n0 := n0) hA) hF
  u_reg (CH.rely (Shun := Shun) (c0 := c0) (n0 := n0) hA) hF
  u_op (CH.rely (Shun := Shun) (c0 := c0) (n0 := n0) hA) hF
  u_c stepG_region_end (CH.rely (Shun := Shun) (c0 := c0) (n0 := n0) hA) hF
  u_c stepG_seq (CH.rely (Shun := Shun) (c0 := c0) (n0 := n0) hA) hF
  u_cond false (CH.rely (Shun := Shun) (c0 := c0) (n0 := n0) hA) hF
  u_exit (CH.rely (Shun := Shun) (c0 := c0) (n0 := n0) hA) hF
  u_c stepG_seq (CH.rely (Shun := Shun) (c0 := c0) (n0 := n0) hA) hF
  u_reg (CH.rely (Shun := Shun) (c0 := c0) (n0 := n0) hA) hF
  refine Goes.stop (fun w₁ h₁ => ?_)
  replace hF := CH.rely (Shun := Shun) (c0 := c0) (n0 := n0) hA hF h₁
  clear h₁
  g_opw (CH.rely (Shun := Shun) (c0 := c0) (n0 := n0) hA) hF [hF.wh.kb, hF.wh.mb, hF.wh.pb, hF.wh.db] ⟨_, rfl⟩ (evOk_read _ (by simp) (by simp) (by simp) (hS _ (by simp)))
  refine Goes.stop (fun w₂ h₂ => ?_)
  replace hF := CH.rely (Shun := Shun) (c0 := c0) (n0 := n0) hA hF h₂
  clear h₂
  refine ⟨rfl, by rfl, fun s r hc => ?_⟩
  refine ⟨_, stepG_close rfl rfl (by decide) rfl rfl hc loud16, rfl, 8 + 20, ?_⟩
  replace hF : CH M A cap ps W (w₂.setChan (M + 5) 0 #[] true s r false) := CH.rely (Shun := Shun) (c0 := c0) (n0 := n0) hA hF (RP.of_chan (E := cfg M A cap ps Shun c0 n0) (cfg_fit hc0) (.inr rfl))
  clear hc
  walk_nrm
  refine goes_cut (n := 8) (m := 20) ?_
  u_c stepG_region_end (CH.rely (Shun := Shun) (c0 := c0) (n0 := n0) hA) hF
  u_c stepG_seq (CH.rely (Shun := Shun) (c0 := c0) (n0 := n0) hA) hF
  u_reg (CH.rely (Shun := Shun) (c0 := c0) (n0 := n0) hA) hF
  u_call Try.func27 (nm_wait link) Try.f27 (CH.rely (Shun := Shun) (c0 := c0) (n0 := n0) hA) hF
  refine Goes.stop (fun w₃ h₃ => ?_)
  replace hF := CH.rely (Shun := Shun) (c0 := c0) (n0 := n0) hA hF h₃
  have hW := waitStartW (P := Try.prog) (E := cfg M A cap ps Shun c0 n0) (F := CH M A cap ps W) wgLib rfl (fun _ _ r h => CH.rely hA h r) (b₀ := base 16) (a₀ := ⟨#[.slice A ps.length cap, .pointer (some ⟨M, 0, none⟩), .slice none 0 0, .pointer (some ⟨M + 2, 0, none⟩), .pointer (some ⟨M + 4, 0, none⟩), .pointer (some ⟨M + 6, 0, none⟩), .pointer (some ⟨M + 7, 0, none⟩), v7, v8, v9, v10, v11, v12, .slice A ps.length cap, .int .i64 ps.length, .int .i64 nW, .int .i64 nW, v17, v18, v19, v20, .slice A ps.length cap, .int .i64 ps.length, .int .i64 ps.length, .bool false, v25, v26, v27, v28, .chan (some (M + 5)), undef, undef], []⟩) (ops₀ := opsQ) (i₀ := 0) (rest₀ := []) (k₀ := [.code restQ]) (cs := Y) (Anch := AnchQ M A cap ps nW W Y) (fun g w h => ⟨_, _, _, _, _, _, _, _, _, _, _, _, _, _, _, _, h⟩) w₃ ⟨hF, hF.wh.live⟩
  exact Goes.mono hW (by omega)

set_option maxRecDepth 100000 in
set_option maxHeartbeats 4000000 in
/-- r places are still to be sent. -/
theorem call_sends (hA : ∀ a, A = some a → a.block < M) (hc0 : 0 < c0) (hS : ∀ a : Addr, M ≤ a.block → ¬ Shun (.cell a)) (hl : ps.length ≤ maxLen) : ∀ (r j : Nat), j + r = ps.length → ∃ m, ∀ (v7 v8 v9 v10 v11 v12 v17 v18 v19 v20 v24 v25 v26 v27 v28 : Value) (w : World), CH M A cap ps W w →
    GoC Try.prog (cfg M A cap ps Shun c0 n0) (Sends Try.prog (cfg M A cap ps Shun c0 n0) (AtMark Try.prog (cfg M A cap ps Shun c0 n0) .disable (AnchQ M A cap ps nW W Y)) r) m (gLB M A cap ps nW Y j v7 v8 v9 v10 v11 v12 v17 v18 v19 v20 v24 v25 v26 v27 v28) w
  | 0, j, h => ⟨22, fun v7 v8 v9 v10 v11 v12 v17 v18 v19 v20 v24 v25 v26 v27 v28 w hF => by
    obtain rfl : j = ps.length := by omega
    exact call_close hA hc0 hS v7 v8 v9 v10 v11 v12 v17 v18 v19 v20 v24 v25 v26 v27 v28 hF⟩
  | r + 1, j, h => by
    obtain ⟨mi, hi⟩ := call_sends hA hc0 hS hl r (j + 1) (by omega)
    refine ⟨17 + (4 + 1), fun v7 v8 v9 v10 v11 v12 v17 v18 v19 v20 v24 v25 v26 v27 v28 w hF => ?_⟩
    unfold maxLen at hl
    have hlt : (j : Int) < (ps.length : Int) := by omega
    have ej : ps.length - (r + 1) = j := by omega
    have ew : IntKind.i64.wrap ((j : Int) + 1) = ((j + 1 : Nat) : Int) := by rw [IntKind.wrap_i64]; omega
    refine goes_cut (n := 17) (m := 4 + 1) ?_
    simp only [gLA, gLB, gA, LA, tailB, LB, tailC, smTail, Try.f16, Option.getD_some]
    u_c stepG_seq (CH.rely (Shun := Shun) (c0 := c0) (n0 := n0) hA) hF
    u_reg (CH.rely (Shun := Shun) (c0 := c0) (n0 := n0) hA) hF
    u_op (CH.rely (Shun := Shun) (c0 := c0) (n0 := n0) hA) hF
    u_c stepG_region_end (CH.rely (Shun := Shun) (c0 := c0) (n0 := n0) hA) hF
    u_c stepG_seq (CH.rely (Shun := Shun) (c0 := c0) (n0 := n0) hA) hF
    u_cond true (CH.rely (Shun := Shun) (c0 := c0) (n0 := n0) hA) hF
    u_c stepG_skip (CH.rely (Shun := Shun) (c0 := c0) (n0 := n0) hA) hF
    u_c stepG_seq (CH.rely (Shun := Shun) (c0 := c0) (n0 := n0) hA) hF
    u_c stepG_block (CH.rely (Shun := Shun) (c0 := c0) (n0 := n0) hA) hF
    u_c stepG_seq (CH.rely (Shun := Shun) (c0 := c0) (n0 := n0) hA) hF
    u_reg (CH.rely (Shun := Shun) (c0 := c0) (n0 := n0) hA) hF
    u_op (CH.rely (Shun := Shun) (c0 := c0) (n0 := n0) hA) hF
    u_op (CH.rely (Shun := Shun) (c0 := c0) (n0 := n0) hA) hF
    u_c stepG_region_end (CH.rely (Shun := Shun) (c0 := c0) (n0 := n0) hA) hF
    u_reg (CH.rely (Shun := Shun) (c0 := c0) (n0 := n0) hA) hF
    refine Goes.stop (fun w₁ h₁ => ?_)
    replace hF := CH.rely (Shun := Shun) (c0 := c0) (n0 := n0) hA hF h₁
    clear h₁
    g_opw (CH.rely (Shun := Shun) (c0 := c0) (n0 := n0) hA) hF [hF.wh.kb, hF.wh.mb, hF.wh.pb, hF.wh.db] ⟨_, rfl⟩ (evOk_read _ (by simp) (by simp) (by simp) (hS _ (by simp)))
    refine goes_dc0 ?_
    u_op (CH.rely (Shun := Shun) (c0 := c0) (n0 := n0) hA) hF
    refine Goes.stop (fun w₁ h₁ => ?_)
    replace hF := CH.rely (Shun := Shun) (c0 := c0) (n0 := n0) hA hF h₁
    clear h₁
    refine ⟨rfl, ?_⟩
    show SendCore Try.prog _ (ps.length - (r + 1)) _ _ _
    rw [ej]
    refine ⟨by rw [stepG_comm (cases := sendCases (cfg M A cap ps Shun c0 n0) j) (blocking := true) (shape := .send) (w' := w₁) rfl rfl (by decide) (by simp [go_sem, sendCases, scase, cfg, place, Act.eval]), listed_nil (by simp [go_sem])], 9 + mi, ?_⟩
    rw [finishComm_G rfl]
    simp only [commResult]
    walk_nrm
    refine goes_cut (n := 9) (m := mi) ?_
    u_c stepG_region_end (CH.rely (Shun := Shun) (c0 := c0) (n0 := n0) hA) hF
    u_c stepG_inBlock (CH.rely (Shun := Shun) (c0 := c0) (n0 := n0) hA) hF
    u_reg (CH.rely (Shun := Shun) (c0 := c0) (n0 := n0) hA) hF
    u_op (CH.rely (Shun := Shun) (c0 := c0) (n0 := n0) hA) hF
    u_op (CH.rely (Shun := Shun) (c0 := c0) (n0 := n0) hA) hF
    u_c stepG_region_end (CH.rely (Shun := Shun) (c0 := c0) (n0 := n0) hA) hF
    u_c stepG_inLoop (CH.rely (Shun := Shun) (c0 := c0) (n0 := n0) hA) hF
    refine Goes.stop (fun w₁ h₁ => ?_)
    replace hF := CH.rely (Shun := Shun) (c0 := c0) (n0 := n0) hA hF h₁
    clear h₁
    exact hi _ _ _ _ _ _ _ _ _ _ _ _ _ _ _ _ hF

set_option maxRecDepth 100000 in
set_option maxHeartbeats 4000000 in
/-- r workers are still to be started. -/
theorem call_spawns (hA : ∀ a, A = some a → a.block < M) (hc0 : 0 < c0) (hS : ∀ a : Addr, M ≤ a.block → ¬ Shun (.cell a)) (hSA : ∀ (a : Addr) (k : Nat), A = some a → ¬ Shun (.cell (a.add k))) (hz : ∀ p ∈ ps, p.size ≤ maxLen) (hl : ps.length ≤ maxLen) (hn4 : nW ≤ 4) : ∀ (r i : Nat), i + r = nW → ∃ m, ∀ (v8 v9 v10 v11 v12 v17 v18 v19 v20 : Value) (w : World), CH M A cap ps W w →
    GoC Try.prog (cfg M A cap ps Shun c0 n0) (Spawns Try.prog (cfg M A cap ps Shun c0 n0) (Sends Try.prog (cfg M A cap ps Shun c0 n0) (AtMark Try.prog (cfg M A cap ps Shun c0 n0) .disable (AnchQ M A cap ps nW W Y)) ps.length) r) m (gLA M A cap ps nW Y i v8 v9 v10 v11 v12 v17 v18 v19 v20) w
  | 0, i, h => by
    obtain ⟨mB, hB⟩ := call_sends (nW := nW) (W := W) (Y := Y) (c0 := c0) (n0 := n0) hA hc0 hS hl ps.length 0 (by omega)
    rw [show i = nW by omega]
    refine ⟨12 + ((7 + mB) + 1), fun v8 v9 v10 v11 v12 v17 v18 v19 v20 w hF => ?_⟩
    refine goes_cut (n := 12) (m := (7 + mB) + 1) ?_
    simp only [gLA, gLB, gA, LA, tailB, LB, tailC, smTail, Try.f16, Option.getD_some]
    u_c stepG_seq (CH.rely (Shun := Shun) (c0 := c0) (n0 := n0) hA) hF
    u_reg (CH.rely (Shun := Shun) (c0 := c0) (n0 := n0) hA) hF
    u_op (CH.rely (Shun := Shun) (c0 := c0) (n0 := n0) hA) hF
    u_c stepG_region_end (CH.rely (Shun := Shun) (c0 := c0) (n0 := n0) hA) hF
    u_c stepG_seq (CH.rely (Shun := Shun) (c0 := c0) (n0 := n0) hA) hF
    u_cond false (CH.rely (Shun := Shun) (c0 := c0) (n0 := n0) hA) hF
    u_exit (CH.rely (Shun := Shun) (c0 := c0) (n0 := n0) hA) hF
    u_c stepG_seq (CH.rely (Shun := Shun) (c0 := c0) (n0 := n0) hA) hF
    u_c stepG_seq (CH.rely (Shun := Shun) (c0 := c0) (n0 := n0) hA) hF
    u_reg (CH.rely (Shun := Shun) (c0 := c0) (n0 := n0) hA) hF
    refine Goes.stop (fun w₁ h₁ => ?_)
    replace hF := CH.rely (Shun := Shun) (c0 := c0) (n0 := n0) hA hF h₁
    clear h₁
    g_opw (CH.rely (Shun := Shun) (c0 := c0) (n0 := n0) hA) hF [hF.wh.kb, hF.wh.mb, hF.wh.pb, hF.wh.db] ⟨_, rfl⟩ (evOk_read _ (by simp) (by simp) (by simp) (hS _ (by simp)))
    refine goes_cut (n := 7) (m := mB) ?_
    u_op (CH.rely (Shun := Shun) (c0 := c0) (n0 := n0) hA) hF
    u_op (CH.rely (Shun := Shun) (c0 := c0) (n0 := n0) hA) hF
    u_c stepG_region_end (CH.rely (Shun := Shun) (c0 := c0) (n0 := n0) hA) hF
    u_c stepG_block (CH.rely (Shun := Shun) (c0 := c0) (n0 := n0) hA) hF
    u_c stepG_loop (CH.rely (Shun := Shun) (c0 := c0) (n0 := n0) hA) hF
    refine Goes.stop (fun w₁ h₁ => ?_)
    replace hF := CH.rely (Shun := Shun) (c0 := c0) (n0 := n0) hA hF h₁
    clear h₁
    exact hB _ _ _ _ _ _ _ _ _ _ _ _ _ _ _ _ hF

  | r + 1, i, h => by
    obtain ⟨mi, hi⟩ := call_spawns hA hc0 hS hSA hz hl hn4 r (i + 1) (by omega)
    refine ⟨14 + 14, fun v8 v9 v10 v11 v12 v17 v18 v19 v20 w hF => ?_⟩
    have hlt : (i : Int) < (nW : Int) := by omega
    have ew : IntKind.i64.wrap ((i : Int) + 1) = ((i + 1 : Nat) : Int) := by rw [IntKind.wrap_i64]; omega
    refine goes_cut (n := 14) (m := 14) ?_
    simp only [gLA, gLB, gA, LA, tailB, LB, tailC, smTail, Try.f16, Option.getD_some]
    u_c stepG_seq (CH.rely (Shun := Shun) (c0 := c0) (n0 := n0) hA) hF
    u_reg (CH.rely (Shun := Shun) (c0 := c0) (n0 := n0) hA) hF
    u_op (CH.rely (Shun := Shun) (c0 := c0) (n0 := n0) hA) hF
    u_c stepG_region_end (CH.rely (Shun := Shun) (c0 := c0) (n0 := n0) hA) hF
    u_c stepG_seq (CH.rely (Shun := Shun) (c0 := c0) (n0 := n0) hA) hF
    u_cond true (CH.rely (Shun := Shun) (c0 := c0) (n0 := n0) hA) hF
    u_c stepG_skip (CH.rely (Shun := Shun) (c0 := c0) (n0 := n0) hA) hF
    u_c stepG_seq (CH.rely (Shun := Shun) (c0 := c0) (n0 := n0) hA) hF
    u_c stepG_block (CH.rely (Shun := Shun) (c0 := c0) (n0 := n0) hA) hF
    u_c stepG_seq (CH.rely (Shun := Shun) (c0 := c0) (n0 := n0) hA) hF
    u_reg (CH.rely (Shun := Shun) (c0 := c0) (n0 := n0) hA) hF
    u_call Try.func23 (nm_add link) Try.f23 (CH.rely (Shun := Shun) (c0 := c0) (n0 := n0) hA) hF
    refine Goes.stop (fun w₁ h₁ => ?_)
    replace hF := CH.rely (Shun := Shun) (c0 := c0) (n0 := n0) hA hF h₁
    clear h₁
    refine addW (P := Try.prog) (E := cfg M A cap ps Shun c0 n0) (F := CH M A cap ps W) (mT := 6) wgLib (cfg_fit hc0) rfl (fun _ _ r h => CH.rely hA h r) (fun w hF _ => ?_) _ ⟨hF, hF.wh.live⟩
    refine goes_dc0 ?_
    walk_nrm
    u_c stepG_region_end (CH.rely (Shun := Shun) (c0 := c0) (n0 := n0) hA) hF
    u_reg (CH.rely (Shun := Shun) (c0 := c0) (n0 := n0) hA) hF
    u_op (CH.rely (Shun := Shun) (c0 := c0) (n0 := n0) hA) hF
    refine Goes.stop (fun w₁ h₁ => ?_)
    replace hF := CH.rely (Shun := Shun) (c0 := c0) (n0 := n0) hA hF h₁
    clear h₁
    refine ⟨rfl, _, _, by rw [stepG_spawn (d := callW M) (w' := w₁) rfl rfl (by decide) (by simp [go_sem, callW, Act.eval]) rfl, listed_nil (by simp [go_sem])], rfl, works hA hc0 hS hSA hz hl hF.wh _, 9 + mi, ?_⟩
    walk_nrm
    refine goes_cut (n := 9) (m := mi) ?_
    u_c stepG_region_end (CH.rely (Shun := Shun) (c0 := c0) (n0 := n0) hA) hF
    u_c stepG_inBlock (CH.rely (Shun := Shun) (c0 := c0) (n0 := n0) hA) hF
    u_reg (CH.rely (Shun := Shun) (c0 := c0) (n0 := n0) hA) hF
    u_op (CH.rely (Shun := Shun) (c0 := c0) (n0 := n0) hA) hF
    u_op (CH.rely (Shun := Shun) (c0 := c0) (n0 := n0) hA) hF
    u_c stepG_region_end (CH.rely (Shun := Shun) (c0 := c0) (n0 := n0) hA) hF
    u_c stepG_inLoop (CH.rely (Shun := Shun) (c0 := c0) (n0 := n0) hA) hF
    refine Goes.stop (fun w₁ h₁ => ?_)
    replace hF := CH.rely (Shun := Shun) (c0 := c0) (n0 := n0) hA hF h₁
    clear h₁
    exact hi _ _ _ _ _ _ _ _ _ _ hF
end
end Go.Proofs.Ytjehmdhcccmihaa.Pool
