/-
  HashSpreads behind Wait, alone: on to the law's last frame, which returns true.
-/
import Derived.Test.YtjehmdhcccmihaaKPoolSmr
import Derived.Test.YtjehmdhcccmihaaKPoolLws
import Derived.Test.YtjehmdhcccmihaaKLiftFit
namespace Go.Proofs.Ytjehmdhcccmihaa.Pool
open Go.RowKit Hs Lift

theorem post_eq (v0 : Value) (C : World → Prop) : (fun (e : Ending) (w : World) => e = .returned v0 ∧ C w) = fun e w => match e with | .returned v => v = v0 ∧ C w | _ => False := by
  funext e w
  cases e <;> simp
theorem post_ex (v0 : Value) (C : List Cm → World → Prop) : (fun (e : Ending) (w : World) => ∃ L, e = .returned v0 ∧ C L w) = fun e w => match e with | .returned v => v = v0 ∧ ∃ L, C L w | _ => False := by
  rw [← post_eq v0 fun w => ∃ L, C L w]
  funext e w
  simp
/-- a frame of a function, from where -/
def blank (f : FuncId) : Frame := { fn := f, tmps := #[], todo := [], defers := [], mode := .run, kind := .normal }
/-- sums behind Wait -/
noncomputable def smF (u0 u1 u2 u4 u5 u6 u7 u8 u9 u10 u11 u12 u13 u14 u15 u16 u17 u18 u19 u20 u21 u22 u23 u24 u25 u26 u27 u28 u29 u30 u31 : Value) (b : Nat) : Frame := (blank 16).at { tmps := #[u0, u1, u2, .pointer (some ⟨b, 0, none⟩), u4, u5, u6, u7, u8, u9, u10, u11, u12, u13, u14, u15, u16, u17, u18, u19, u20, u21, u22, u23, u24, u25, u26, u27, u28, u29, u30, u31], defers := [] } (.inRegion smsParts.1 (List.range' 1 (smsParts.1.toList.drop 1).length) :: smsParts.2.map .code)
/-- Spread, at its call of sums -/
noncomputable def spF (A : Option Addr) (cap : Nat) (ps : List ByteArray) (n : Int) (g : Nat) : Frame := (blank 9).at { tmps := #[.slice A ps.length cap, .int .i64 n, undef, undef, .slice none 0 0, .slice (some ⟨g, 0, none⟩) (clip n) (clip n), undef, undef, undef, .int .i64 n, .int .i64 (clip n : Nat), .slice (some ⟨g, 0, none⟩) (clip n) (clip n), .slice A ps.length cap, undef, undef, undef, undef, undef, undef, undef, undef, undef, undef, undef, undef, undef, undef, undef, undef, undef, undef, undef, undef, undef, undef, undef, undef, undef, undef], defers := [] } (.inRegion sprParts.1 (1 :: List.range' 2 (sprParts.1.toList.drop 2).length) :: sprParts.2.map .code)
/-- the law, at its call of Spread -/
noncomputable def lwF (v2 v3 v5 v6 v7 v8 v9 v10 v11 v12 v13 v14 v15 : Value) (A : Option Addr) (cap : Nat) (ps : List ByteArray) (n : Int) : Frame := (blank 3).at { tmps := #[.slice A ps.length cap, .int .i64 n, v2, v3, .bool false, v5, v6, v7, v8, v9, v10, v11, v12, v13, v14, v15, undef, undef, undef, undef, undef, undef, undef, undef], defers := [] } (.inRegion lwsParts.1 (2 :: List.range' 3 (lwsParts.1.toList.drop 3).length) :: lwsParts.2.map .code)
theorem spr_dst : (sprParts.1[1]?).bind (·.dst) = some 13 := by kernel_rfl
theorem lws_dst : (lwsParts.1[2]?).bind (·.dst) = some 16 := by kernel_rfl
theorem spF_finish (A : Option Addr) (cap : Nat) (ps : List ByteArray) (n : Int) (g : Nat) (v : Value) : (spF A cap ps n g).finish v = (blank 9).at { tmps := #[.slice A ps.length cap, .int .i64 n, undef, undef, .slice none 0 0, .slice (some ⟨g, 0, none⟩) (clip n) (clip n), undef, undef, undef, .int .i64 n, .int .i64 (clip n : Nat), .slice (some ⟨g, 0, none⟩) (clip n) (clip n), .slice A ps.length cap, v, undef, undef, undef, undef, undef, undef, undef, undef, undef, undef, undef, undef, undef, undef, undef, undef, undef, undef, undef, undef, undef, undef, undef, undef, undef], defers := [] } (.inRegion sprParts.1 (List.range' 2 (sprParts.1.toList.drop 2).length) :: sprParts.2.map .code) := by
  unfold spF Frame.at Frame.finish
  simp only [spr_dst]
  rfl
theorem lwF_finish (v2 v3 v5 v6 v7 v8 v9 v10 v11 v12 v13 v14 v15 : Value) (A : Option Addr) (cap : Nat) (ps : List ByteArray) (n : Int) (v : Value) : (lwF v2 v3 v5 v6 v7 v8 v9 v10 v11 v12 v13 v14 v15 A cap ps n).finish v = (blank 3).at { tmps := #[.slice A ps.length cap, .int .i64 n, v2, v3, .bool false, v5, v6, v7, v8, v9, v10, v11, v12, v13, v14, v15, v, undef, undef, undef, undef, undef, undef, undef], defers := [] } (.inRegion lwsParts.1 (List.range' 3 (lwsParts.1.toList.drop 3).length) :: lwsParts.2.map .code) := by
  unfold lwF Frame.at Frame.finish
  simp only [lws_dst]
  rfl
theorem Only.of_below {w w' : World} (h : Below w.heap.size w w') : Only [] w w' := ⟨h.os, h.tape, h.output, h.size, fun k hk _ => h.block k hk⟩
set_option maxHeartbeats 1000000 in
theorem spreads_out (u0 u1 u2 u4 u5 u6 u7 u8 u9 u10 u11 u12 u13 u14 u15 u16 u17 u18 u19 u20 u21 u22 u23 u24 u25 u26 u27 u28 u29 u30 u31 : Value) (v2 v3 v5 v6 v7 v8 v9 v10 v11 v12 v13 v14 v15 : Value) (A : Option Addr) (cap : Nat) (ps : List ByteArray) (n : Int) (g b m cm : Nat) (w : World) (Z : List Frame) (hA : Texts w A ps) (hAg : ∀ a, A = some a → a.block ≠ g) (hl : ps.length ≤ 1048576) (hz : ∀ p ∈ ps, p.size ≤ maxLen) (hmg : m ≠ g)
    (hb : w.cell? ⟨b, 0, none⟩ = some (.slice (some ⟨m, 0, none⟩) ps.length cm)) (hm : ∀ i (h : i < ps.length), w.cell? ⟨m, i, none⟩ = some (.int .u64 (sum ps[i].data.toList : Nat)))
    (hrow : RRow w g (.slice (some ⟨g, 0, none⟩) (clip n) (clip n)) (List.replicate (clip n) ([], none, 0))) :
    ∃ fr w', Steps Try.prog (lone (smF u0 u1 u2 u4 u5 u6 u7 u8 u9 u10 u11 u12 u13 u14 u15 u16 u17 u18 u19 u20 u21 u22 u23 u24 u25 u26 u27 u28 u29 u30 u31 b) (spF A cap ps n g :: lwF v2 v3 v5 v6 v7 v8 v9 v10 v11 v12 v13 v14 v15 A cap ps n :: Z) w) (lone fr Z w') ∧ fr.mode = .returning ∧ fr.fn = 3 ∧ fr.tmps.getD 4 undef = .bool true ∧ Only [g] w w' := by
  have h1 := sums_rest u0 u1 u2 u4 u5 u6 u7 u8 u9 u10 u11 u12 u13 u14 u15 u16 u17 u18 u19 u20 u21 u22 u23 u24 u25 u26 u27 u28 u29 u30 u31 b m ps.length cm w hb
  rw [post_eq] at h1
  obtain ⟨v, w1, ⟨rfl, rfl⟩, s1⟩ := rest_steps (b := blank 16) Try.func16 rfl (wpOps_drop h1) (spF A cap ps n g) (lwF v2 v3 v5 v6 v7 v8 v9 v10 v11 v12 v13 v14 v15 A cap ps n :: Z)
  rw [spF_finish] at s1
  have h2 := spread_rest A cap ps n g m cm (clip n) w1 (clip_pos n) (clip_le n) hA hAg hl hmg hm hrow
  rw [post_ex] at h2
  obtain ⟨v, w2, ⟨rfl, L, hL⟩, s2⟩ := rest_steps (b := blank 9) Try.func9 rfl (wpOps_drop h2) (lwF v2 v3 v5 v6 v7 v8 v9 v10 v11 v12 v13 v14 v15 A cap ps n) Z
  rw [lwF_finish] at s2
  have hA2 : Texts w2 A ps := fun i hi => by
    obtain ⟨a, e, hc⟩ := hA i hi
    exact ⟨a, e, only_cell hL.only hc (by simpa [add_block] using hAg a e)⟩
  have hR : Rows w2 (some ⟨g, 0, none⟩) (spreadR (clip n) (toShard n) ps) := by
    obtain ⟨A3, c3, e3, hr⟩ := RRow.view (l := L) (B := g) (v := .slice (some ⟨g, 0, none⟩) (clip n) (clip n)) hL.row (B' := w1.heap.size) hL.rows
    injection e3 with e31 e32 e33
    subst e31
    have := hL.eq
    rw [List.take_length] at this
    rw [this] at hr
    exact hr
  have h3 := spreads_rest v2 v3 v5 v6 v7 v8 v9 v10 v11 v12 v13 v14 v15 A cap ps n g w2 hA2 hl hz hR
  rw [post_eq] at h3
  obtain ⟨v, w3, fr, ⟨rfl, hb3⟩, s3, hfn, hlv⟩ := rest_last (b := blank 3) Try.func3 rfl (wpOps_drop h3) Z
  have hon : Only [g] w1 w3 := hL.only.trans (Only.of_below hb3) (fun x hx => absurd hx (by simp))
  refine ⟨fr, w3, Steps.trans s1 (Steps.trans s2 s3), hlv.1, hfn, ?_, hon⟩
  obtain ⟨_, _, _, fn, hf, hr⟩ := hlv
  rw [hfn] at hf
  obtain rfl : Try.f3 = fn := Option.some.inj (Try.func3.symm.trans hf)
  simp [results, Try.results3] at hr
  rw [Array.getD_eq_getD_getElem?]
  exact hr
end Go.Proofs.Ytjehmdhcccmihaa.Pool
