/-
  What the document's own Room answers, in any world; a row appended onto nil.
-/
import Derived.Test.YtljaemiggeeghaaWinRfC
import Derived.Laws.AppendOwnNone
namespace Go.Proofs.Ytljaemiggeeghaa
open Go.RowKit
attribute [local go_sem ↓] Go.wp_at_zero Go.wp_at_succ
namespace Wn

theorem usedl_keepl (per tm : Int) (l : List (Int × Int)) : usedl per tm l = tot (keepl per tm l) := rfl
theorem roomAt_used {p : Pol} {s : St} (h : Ok p s) (now : Int) : roomAt p s now = p.limit - s.held - usedl p.period (advTm s now) s.log := by
  unfold roomAt room; rw [if_pos (ok_right h), adv_eq h, usedl_keepl, keepl_rem h.sorted]; rfl
theorem Ok.costs2 {p : Pol} {s : St} (h : Ok p s) : ∀ e ∈ s.log, 1 ≤ e.2 ∧ e.2 ≤ 1048576 := fun e he => by have := h.ent e he; have := h.lim; omega

set_option maxHeartbeats 8000000 in
set_option maxRecDepth 100000 in
theorem rroom_calls (p : Pol) (s : St) (A : Option Addr) (cap : Nat) (now : Int) (w : World) (hA : Ents w A s.log) :
    Calls Try.prog 33 #[p.val, s.val A s.log.length cap, .int .i64 now] w fun e w' => e = .returned (.int .i64 (roomAt p s now)) ∧ Below w.heap.size w w' := by
  have HA := Lib.hid hA
  clear hA
  have HB0 := Lib.hid (below_two w p.box (s.box A s.log.length cap))
  unfold Pol.val St.val
  cases h0 : right p s with
  | false =>
    have E := Lib.hid (show roomAt p s now = 0 by simp [roomAt, h0])
    have H0 := Lib.hid h0
    clear h0
    go_enter Try.func33, Try.ntmps33
    go_wp2_with fail
    refine (rright_no H0.out A cap _ (HA.out.keep HB0.out)).mono ?_
    rintro e w1 ⟨rfl, hb1⟩
    have HB1 := Lib.hid hb1
    clear hb1
    go_wp2_with fail
    go_ret
    exact ⟨by rw [E.out]; rfl, HB0.out.trans (HB1.out.mono (by simp; omega))⟩
  | true =>
    have H0 := Lib.hid h0
    have HO := Lib.hid (right_ok h0)
    have E := Lib.hid (roomAt_used (right_ok h0) now)
    have gc0 := clamp_ge now
    have gc1 := clamp_le now
    have gt0 := HO.out.tm0
    have gt1 := HO.out.tm1
    have gn := HO.out.n
    have gp := HO.out.per
    have gl := HO.out.lim
    have gh0 := HO.out.held0
    have gh1 := HO.out.held1
    clear h0
    go_enter Try.func33, Try.ntmps33
    go_wp2_with fail
    refine (rright_yes H0.out A cap _ (HA.out.keep HB0.out)).mono ?_
    rintro e w1 ⟨rfl, hb1⟩
    have BP := Lib.hid (Box.keep (Box.alloc (Box.new w 23 (pcells p)) (s.box A s.log.length cap)) hb1)
    have BS := Lib.hid (Box.keep (Box.new1 w 32 (scells s.tm s.level s.held (.slice A s.log.length cap)) p.box) hb1)
    have e0 : w1.cell? ⟨w.heap.size, 0, none⟩ = some (.int .i64 p.kind) := BP.out.cell 0
    have e1 : w1.cell? ⟨w.heap.size, 1, none⟩ = some (.int .i64 p.limit) := BP.out.cell 1
    have e2 : w1.cell? ⟨w.heap.size, 2, none⟩ = some (.int .i64 p.period) := BP.out.cell 2
    have e3 : w1.cell? ⟨w.heap.size, 3, none⟩ = some (.int .i64 p.burst) := BP.out.cell 3
    have e4 : w1.cell? ⟨w.heap.size, 4, none⟩ = some (.int .i64 p.cap) := BP.out.cell 4
    have e5 : w1.cell? ⟨w.heap.size, 5, none⟩ = some (.bool p.opn) := BP.out.cell 5
    have d0 : w1.cell? ⟨w.heap.size + 1, 0, none⟩ = some (.int .i64 (s).tm) := BS.out.cell 0
    have d1 : w1.cell? ⟨w.heap.size + 1, 1, none⟩ = some (.int .i64 (s).level) := BS.out.cell 1
    have d2 : w1.cell? ⟨w.heap.size + 1, 2, none⟩ = some (.int .i64 (s).held) := BS.out.cell 2
    have d3 : w1.cell? ⟨w.heap.size + 1, 3, none⟩ = some (.slice A (s).log.length cap) := BS.out.cell 3
    have z1 : w.heap.size + 1 < w1.heap.size := by have := hb1.size; simp at this; omega
    have zn : ¬ (w.heap.size + 1 = w.heap.size) := by omega
    have HE := Lib.hid ((HA.out.keep HB0.out).keep hb1)
    have HB1 := Lib.hid (HB0.out.trans (hb1.mono (by simp; omega)))
    clear hb1
    by_cases hm : s.tm < clamp now
    · have gm : 0 ≤ clamp now ∧ clamp now ≤ 18014398509481984 := by omega
      have ET := Lib.hid (show advTm s now = clamp now by unfold advTm; omega)
      have hmx : (if s.tm < clamp now then clamp now else s.tm) = clamp now := by simp [hm]
      have ub := usedl_bounds (per := p.period) (t := clamp now) HO.out.costs2
      have u0 : 0 ≤ usedl p.period (clamp now) s.log := ub.1
      have u1 : usedl p.period (clamp now) s.log ≤ 104857600 := by omega
      clear ub
      have j1 : IntKind.i64.wrap (p.limit - s.held) = p.limit - s.held := IntWalk.i64_in _ (by omega)
      have j2 : IntKind.i64.wrap (p.limit - s.held - usedl p.period (clamp now) s.log) = p.limit - s.held - usedl p.period (clamp now) s.log := IntWalk.i64_in _ (by omega)
      go_wp2_with fail
      go_region_held3 (fun w' => w'.cell? ⟨w.heap.size, 0, none⟩ = some (.int .i64 p.kind) ∧ w'.cell? ⟨w.heap.size, 1, none⟩ = some (.int .i64 p.limit) ∧ w'.cell? ⟨w.heap.size, 2, none⟩ = some (.int .i64 p.period) ∧ w'.cell? ⟨w.heap.size, 3, none⟩ = some (.int .i64 p.burst) ∧ w'.cell? ⟨w.heap.size, 4, none⟩ = some (.int .i64 p.cap) ∧ w'.cell? ⟨w.heap.size, 5, none⟩ = some (.bool p.opn) ∧ w'.cell? ⟨w.heap.size + 1, 0, none⟩ = some (.int .i64 (s).tm) ∧ w'.cell? ⟨w.heap.size + 1, 1, none⟩ = some (.int .i64 (s).level) ∧ w'.cell? ⟨w.heap.size + 1, 2, none⟩ = some (.int .i64 (s).held) ∧ w'.cell? ⟨w.heap.size + 1, 3, none⟩ = some (.slice A (s).log.length cap)) (go_keep) (first | (go_at_call 29; refine (refclamp_calls now _).mono ?_; rintro e w' ⟨rfl, rfl⟩) | (go_at_call 43; refine (used_calls p s A cap (clamp now) _ (HE.out.keep (Below.refl _ _).drew) HO.out.costs2 (by omega) gm.1 gm.2 gp.1 gp.2).mono ?_; rintro e w3 ⟨rfl, hb3⟩; have rp3 := Box.keep (Box.drew BP.out) hb3; have rs3 := Box.keep (Box.drew BS.out) hb3; have f0 : w3.cell? ⟨w.heap.size, 0, none⟩ = some (.int .i64 p.kind) := rp3.cell 0; have f1 : w3.cell? ⟨w.heap.size, 1, none⟩ = some (.int .i64 p.limit) := rp3.cell 1; have f2 : w3.cell? ⟨w.heap.size, 2, none⟩ = some (.int .i64 p.period) := rp3.cell 2; have f3 : w3.cell? ⟨w.heap.size, 3, none⟩ = some (.int .i64 p.burst) := rp3.cell 3; have f4 : w3.cell? ⟨w.heap.size, 4, none⟩ = some (.int .i64 p.cap) := rp3.cell 4; have f5 : w3.cell? ⟨w.heap.size, 5, none⟩ = some (.bool p.opn) := rp3.cell 5; have g0 : w3.cell? ⟨w.heap.size + 1, 0, none⟩ = some (.int .i64 (s).tm) := rs3.cell 0; have g1 : w3.cell? ⟨w.heap.size + 1, 1, none⟩ = some (.int .i64 (s).level) := rs3.cell 1; have g2 : w3.cell? ⟨w.heap.size + 1, 2, none⟩ = some (.int .i64 (s).held) := rs3.cell 2; have g3 : w3.cell? ⟨w.heap.size + 1, 3, none⟩ = some (.slice A (s).log.length cap) := rs3.cell 3))
      go_wp2
      go_ret
      exact ⟨by rw [E.out, ET.out]; rfl, HB1.out.trans (((Below.refl w1.heap.size w1).drew.trans (hb3.mono (Nat.le_refl _))).mono HB1.out.size)⟩
    · have gm : 0 ≤ s.tm ∧ s.tm ≤ 18014398509481984 := by omega
      have ET := Lib.hid (show advTm s now = s.tm by unfold advTm; omega)
      have hmx : (if s.tm < clamp now then clamp now else s.tm) = s.tm := by simp [hm]
      have ub := usedl_bounds (per := p.period) (t := s.tm) HO.out.costs2
      have u0 : 0 ≤ usedl p.period (s.tm) s.log := ub.1
      have u1 : usedl p.period (s.tm) s.log ≤ 104857600 := by omega
      clear ub
      have j1 : IntKind.i64.wrap (p.limit - s.held) = p.limit - s.held := IntWalk.i64_in _ (by omega)
      have j2 : IntKind.i64.wrap (p.limit - s.held - usedl p.period (s.tm) s.log) = p.limit - s.held - usedl p.period (s.tm) s.log := IntWalk.i64_in _ (by omega)
      go_wp2_with fail
      go_region_held3 (fun w' => w'.cell? ⟨w.heap.size, 0, none⟩ = some (.int .i64 p.kind) ∧ w'.cell? ⟨w.heap.size, 1, none⟩ = some (.int .i64 p.limit) ∧ w'.cell? ⟨w.heap.size, 2, none⟩ = some (.int .i64 p.period) ∧ w'.cell? ⟨w.heap.size, 3, none⟩ = some (.int .i64 p.burst) ∧ w'.cell? ⟨w.heap.size, 4, none⟩ = some (.int .i64 p.cap) ∧ w'.cell? ⟨w.heap.size, 5, none⟩ = some (.bool p.opn) ∧ w'.cell? ⟨w.heap.size + 1, 0, none⟩ = some (.int .i64 (s).tm) ∧ w'.cell? ⟨w.heap.size + 1, 1, none⟩ = some (.int .i64 (s).level) ∧ w'.cell? ⟨w.heap.size + 1, 2, none⟩ = some (.int .i64 (s).held) ∧ w'.cell? ⟨w.heap.size + 1, 3, none⟩ = some (.slice A (s).log.length cap)) (go_keep) (first | (go_at_call 29; refine (refclamp_calls now _).mono ?_; rintro e w' ⟨rfl, rfl⟩) | (go_at_call 43; refine (used_calls p s A cap (s.tm) _ (HE.out.keep (Below.refl _ _).drew) HO.out.costs2 (by omega) gm.1 gm.2 gp.1 gp.2).mono ?_; rintro e w3 ⟨rfl, hb3⟩; have rp3 := Box.keep (Box.drew BP.out) hb3; have rs3 := Box.keep (Box.drew BS.out) hb3; have f0 : w3.cell? ⟨w.heap.size, 0, none⟩ = some (.int .i64 p.kind) := rp3.cell 0; have f1 : w3.cell? ⟨w.heap.size, 1, none⟩ = some (.int .i64 p.limit) := rp3.cell 1; have f2 : w3.cell? ⟨w.heap.size, 2, none⟩ = some (.int .i64 p.period) := rp3.cell 2; have f3 : w3.cell? ⟨w.heap.size, 3, none⟩ = some (.int .i64 p.burst) := rp3.cell 3; have f4 : w3.cell? ⟨w.heap.size, 4, none⟩ = some (.int .i64 p.cap) := rp3.cell 4; have f5 : w3.cell? ⟨w.heap.size, 5, none⟩ = some (.bool p.opn) := rp3.cell 5; have g0 : w3.cell? ⟨w.heap.size + 1, 0, none⟩ = some (.int .i64 (s).tm) := rs3.cell 0; have g1 : w3.cell? ⟨w.heap.size + 1, 1, none⟩ = some (.int .i64 (s).level) := rs3.cell 1; have g2 : w3.cell? ⟨w.heap.size + 1, 2, none⟩ = some (.int .i64 (s).held) := rs3.cell 2; have g3 : w3.cell? ⟨w.heap.size + 1, 3, none⟩ = some (.slice A (s).log.length cap) := rs3.cell 3))
      go_wp2
      go_ret
      exact ⟨by rw [E.out, ET.out]; rfl, HB1.out.trans (((Below.refl w1.heap.size w1).drew.trans (hb3.mono (Nat.le_refl _))).mono HB1.out.size)⟩

/-- the entries of a row, appended onto nil -/
theorem wpList_append_src {w : World} {ops : Array Oper} {rest : List Oper} {o : Oper} {a : Act} {Q : Exit → Act → World → Prop} (hgd : o.guard = none) (s x : Operand)
    (ho : o.op = .call { callee := .builtin .append, args := #[s, x], argTypes := #[30, 30] })
    (hs : a.eval s = .slice none 0 0) (B base : Nat) (v : Value) (l : List (Int × Int)) (hx : a.eval x = v) (hown : Own w B v l) (hn : l.length ≤ 1000) (hbase : base ≤ w.heap.size)
    (h : ∀ v' w', Own w' base v' l → Below w.heap.size w w' → wpList Try.prog ops Q rest (a.put o.dst v') w') : wpList Try.prog ops Q (o :: rest) a w := by
  obtain ⟨i0, hi, hz0, hz1, hz2⟩ := entry_parts
  have h0 : w.ownsRow base 62 2 (.slice none 0 0) 0 [] := World.ownsRow_nil _ _ _ _
  rcases hown.2 with ⟨rfl, hl⟩ | ⟨g, cap, cur, rfl, hb, hg, hnc, _⟩
  · obtain rfl : l = [] := List.eq_nil_of_length_eq_zero hl
    refine wpList_append_own_none hgd s x 30 ho base 62 i0 2 Try.underlying30 hi _ 0 [] hs h0 hx ?_
    exact h _ w (Own.nil _ _) (Below.refl _ _)
  · refine wpList_append_own w hgd s x 30 ho base 62 i0 _ 2 16 Try.underlying30 hi hz0 hz1 hz2 rfl (by decide) _ 0 [] hs h0 ⟨g, 0, none⟩ l.length cap (ecells l) hx (by rw [ecells_length]) ?_ (ecells_one _) (by unfold maxLen; omega) (by omega) hbase (fun v' w' h2 h3 _ => h v' w' ?_ ((Below.refl _ _).grown h3 (Nat.le_refl _) (by simp [Value.ownBlock])))
    · intro j u hj
      exact World.ownsRow.cells hown (g := g) rfl j u hj
    · have h2' := h2
      rw [List.nil_append, Nat.zero_add] at h2'
      exact h2'
end Wn
end Go.Proofs.Ytljaemiggeeghaa
