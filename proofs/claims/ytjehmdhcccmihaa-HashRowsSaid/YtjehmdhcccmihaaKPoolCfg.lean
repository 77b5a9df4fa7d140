/-
  The pool of hash.sums: its blocks, and what a worker knows of the world.
-/
import Derived.Test.YtjehmdhcccmihaaKPoolWgd
import Derived.Test.YtjehmdhcccmihaaKPoolLib
import Derived.Test.YtjehmdhcccmihaaKPoolSum
import Derived.Test.YtjehmdhcccmihaaKHashKey
import Derived.Conc.BesideWords
import Derived.Conc.WgWords
import Derived.Laws.MakeOwn
namespace Go.Proofs.Ytjehmdhcccmihaa.Pool
open Go.Conc Go.ConcN Go.RowKit Hs
open Go.ConcR (KK wgBlock WgAt stA smA rd wr mk Payload Aside2 DC0)

instance pay : Payload := ⟨22⟩
/-- The pool of one call: M is the heap's size at its entry; the keys stand at A. -/
def cfg (M : Nat) (A : Option Addr) (cap : Nat) (ps : List ByteArray) (Shun : Loc → Prop) (c0 n0 : Nat) : Cfg where
  ty := 59
  Wg := M + 7
  C := M + 1
  Cp := M + 3
  Cd := M + 5
  Cx := M
  N := ps.length
  ety := 33
  z0 := .int .i64 0
  z1 := .agg #[]
  zs := .tuple #[]
  xv := .slice A ps.length cap
  val := fun k => .int .u64 ((sum (ps.getD k ByteArray.empty).data.toList : Nat) : Int)
  Shun := Shun
  Bd := M + 8
  c0 := c0
  n0 := n0
section
variable {M : Nat} {A : Option Addr} {cap : Nat} {ps : List ByteArray} {Shun : Loc → Prop} {c0 n0 : Nat} {w w₁ : World}
theorem cfg_fit (h : 0 < c0) : (cfg M A cap ps Shun c0 n0).Fit := by
  constructor <;> simp only [cfg] <;> omega
/-- What a worker knows of the world. -/
structure WH (M : Nat) (A : Option Addr) (cap : Nat) (ps : List ByteArray) (w : World) : Prop where
  kb : w.cell? ⟨M, 0, none⟩ = some (.slice A ps.length cap)
  mb : w.cell? ⟨M + 2, 0, none⟩ = some (.slice (some ⟨M + 1, 0, none⟩) ps.length ps.length)
  pb : w.cell? ⟨M + 4, 0, none⟩ = some (.chan (some (M + 3)))
  db : w.cell? ⟨M + 6, 0, none⟩ = some (.chan (some (M + 5)))
  live : WgLive 59 (M + 7) w
  txt : Texts w A ps
theorem rp_cell (h : RP (cfg M A cap ps Shun c0 n0) w w₁) {a : Addr} (h1 : a.block ≠ M + 1) (h2 : a.block ≠ M + 7) (h3 : a.block ≠ M + 3) (h4 : a.block ≠ M + 5) : w₁.cell? a = w.cell? a := World.cell?_of_block (h.block a.block h1 h2 h3 h4)
theorem add_blk (a : Addr) (j : Nat) : (a.add j).block = a.block := by unfold Addr.add; split <;> rfl
theorem WH.rely (hA : ∀ a, A = some a → a.block < M) (h : WH M A cap ps w) (r : RP (cfg M A cap ps Shun c0 n0) w w₁) : WH M A cap ps w₁ := by
  refine ⟨?_, ?_, ?_, ?_, r.live h.live, fun i hi => ?_⟩
  · rw [rp_cell r (by simp) (by simp) (by simp) (by simp)]; exact h.kb
  · rw [rp_cell r (by simp) (by simp) (by simp) (by simp)]; exact h.mb
  · rw [rp_cell r (by simp) (by simp) (by simp) (by simp)]; exact h.pb
  · rw [rp_cell r (by simp) (by simp) (by simp) (by simp)]; exact h.db
  · obtain ⟨a, e, hc⟩ := h.txt i hi
    have := hA a e
    exact ⟨a, e, by rw [rp_cell r (by rw [add_blk]; omega) (by rw [add_blk]; omega) (by rw [add_blk]; omega) (by rw [add_blk]; omega)]; exact hc⟩
theorem evOk_read {main : Bool} (a : Addr) (h : a.block < M + 8) (h7 : a.block ≠ M + 7) (h1 : a.block ≠ M + 1) (hS : ¬ Shun (.cell a)) : EvOk (cfg M A cap ps Shun c0 n0) main ⟨.cell a, false, false⟩ := by
  refine ⟨h, fun x hx => ?_, by simp, by simp, by simp⟩
  simp only [ofEvent_cell0, MemAct.touch?, Option.some.injEq] at hx
  subst hx
  exact .inr ⟨fun ⟨y, hy, hb⟩ => (by cases hy; exact h7 hb), fun ⟨y, hy, hb⟩ => (by cases hy; exact h1 hb), hS, rfl, rfl⟩
theorem terms {main : Bool} : Terms (RP (cfg M A cap ps Shun c0 n0)) (DR (cfg M A cap ps Shun c0 n0) main) := ⟨RP.tr, fun w => dr_refl w⟩
end

section
variable {main : Bool} {b : Frame} {a : Act} {kk : List Item} {cs : List Frame} {w : World} {ops : Array Oper} {i : Nat} {rest : List Nat} {o : Oper}
/-- A store of a uint64, as one step. -/
theorem stepG_storeU {x y : Operand} (ho : ops[i]? = some o) (hw : Region.wanted o (yielded ops a.tmps) = true) (hk : b.kind ≠ .early) (hop : o.op = .store 33 x y)
    {ad : Addr} {v : Int} {u : Value} (hx : a.eval x = .pointer (some ad)) (hy : a.eval y = .int .u64 v) (hc : w.cell? ad = some u) (hz : w.frozen? ad = false) (hq : (Try.prog.funcs[b.fn]?).any (·.norace) = false) :
    stepG Try.prog main (G (b.at a (.inRegion ops (i :: rest) :: kk)) cs) w = .go (G (b.at (a.put o.dst undef) (.inRegion ops rest :: kk)) cs) (w.setCell ad (.int .u64 v)) #[⟨.cell ad, true, false⟩] := by
  have hr : (execOp a.eval o).run Try.prog w = .ok .skip (w.setCell ad (.int .u64 v)) := by
    unfold execOp
    simp only [hop, hx, hy]
    simp [go_sem, stored, hc, hz]
  have he : (execOp a.eval o).events Try.prog w #[] = #[⟨.cell ad, true, false⟩] := by
    unfold execOp
    simp only [hop, hx, hy]
    simp [go_sem, storedEv, hc, hz]
  rw [stepG_none ho hw hk hr]
  unfold listed
  rw [he, seen_eq hq (by simp)]
end

/-! ### a worker's frames -/
section
variable (M : Nat) (A : Option Addr) (cap : Nat) (ps : List ByteArray)
noncomputable def bot : Frame := { (default : Frame) with fn := Try.prog.funcs.size, defers := [], mode := .panicking [goexitEntry] }
def callW : Deferred := { target := .fn (.func 24) #[.pointer (some ⟨M + 7, 0, none⟩), .pointer (some ⟨M + 2, 0, none⟩), .pointer (some ⟨M, 0, none⟩), .pointer (some ⟨M + 4, 0, none⟩), .pointer (some ⟨M + 6, 0, none⟩)], args := #[] }
noncomputable def bodyW : Code := Try.f24.body.getD .skip
noncomputable def opsW : Array Oper := match bodyW with | .seq _ (.region _ ops _) => ops | _ => #[]
def tmpsW : Array Value := #[.pointer (some ⟨M + 7, 0, none⟩), .pointer (some ⟨M + 2, 0, none⟩), .pointer (some ⟨M, 0, none⟩), .pointer (some ⟨M + 4, 0, none⟩), .pointer (some ⟨M + 6, 0, none⟩), .slice (some ⟨M + 1, 0, none⟩) ps.length ps.length, .slice A ps.length cap, .chan (some (M + 3)), .chan (some (M + 5)), undef]
/-- the closure, while fill is at work -/
noncomputable def frW : Frame := (baseD 24).at ⟨tmpsW M A cap ps, [{ target := .fn (.func 25) #[], args := #[.pointer (some ⟨M + 7, 0, none⟩)] }]⟩ [.inRegion opsW [4]]
/-- fill's loop -/
noncomputable def fillL : Code := match Try.f26.body.getD .skip with | .block _ (.loop c) => c | _ => .skip
noncomputable def fillS : Array Oper × Code := match fillL with | .block _ (.seq _ (.seq (.region _ ops _) c)) => (ops, c) | _ => (#[], .skip)
/-- fill at its select -/
noncomputable def gSel (v8 v11 v12 v13 v14 v15 v16 v17 v18 v19 v20 v21 v22 v23 : Value) : Goroutine :=
  G ((base 26).at ⟨#[.slice (some ⟨M + 1, 0, none⟩) ps.length ps.length, .slice A ps.length cap, .chan (some (M + 3)), .chan (some (M + 5)), undef, undef, undef, undef, v8, .chan (some (M + 3)), .chan (some (M + 5)), v11, v12, v13, v14, v15, v16, v17, v18, v19, v20, v21, v22, v23], []⟩
    [.inRegion fillS.1 [0, 1, 2, 3], .code fillS.2, .inBlock 1, .inLoop fillL, .inBlock 0]) [frW M A cap ps, bot]
end
theorem loud26 : (Try.prog.funcs[(base 26).fn]?).any (·.norace) = false := by kernel_rfl
/-- The closure's own way out, once Done has left. -/
theorem quitsTail (T : Array Value) : QuitsD Try.prog 2 0 (G { (baseD 24).at ⟨T, []⟩ [] with mode := .returning } [bot]) := by
  refine QuitsD.ctl (g' := G bot []) rfl (fun w => ?_) ?_
  · simp [G, stepG, unwind, doReturn, results, Frame.at, baseD, bot, Try.func24, Try.f24, seen, GStep.after, goexitEntry]
  refine QuitsD.ctl (g' := { G bot [] with status := .finished }) rfl (fun w => ?_) ⟨rfl, rfl⟩
  simp [G, stepG, unwind, bot, goexitEntry, Frame.catches]
  rfl
/-- Its first step. -/
theorem born_step (M : Nat) (w : World) : stepG Try.prog false (born Try.prog (callW M)) w =
    .go (G ((baseD 24).at ⟨#[.pointer (some ⟨M + 7, 0, none⟩), .pointer (some ⟨M + 2, 0, none⟩), .pointer (some ⟨M, 0, none⟩), .pointer (some ⟨M + 4, 0, none⟩), .pointer (some ⟨M + 6, 0, none⟩), undef, undef, undef, undef, undef], []⟩ [.code bodyW]) [bot]) w #[] := by
  simp [born, callW, stepG, unwind, callDeferred, invoke, callFunc, Try.func24, Try.f24, seen, GStep.after, G, Frame.enter, Frame.at, baseD, bot, bodyW]
end Go.Proofs.Ytjehmdhcccmihaa.Pool
