/-
  What the document's own Right answers, in any world.
-/
import Derived.Test.YtljaemiggeeghaaWinRfA
import Derived.IntWalk
namespace Go.Proofs.Ytljaemiggeeghaa
open Go.RowKit
attribute [local go_sem ↓] Go.wp_at_zero Go.wp_at_succ
namespace Wn

theorem right_false {p : Pol} {s : St} (h : ¬ Ok p s) : right p s = false := by
  cases e : right p s
  · rfl
  · exact absurd (right_ok e) h
/-- the entries ahead of k may be -/
def Okl (p : Pol) (s : St) (k : Nat) : Prop := (∀ e ∈ s.log.take k, 0 ≤ e.1 ∧ e.1 ≤ s.tm ∧ 1 ≤ e.2 ∧ e.2 ≤ p.limit) ∧ (s.log.take k).Pairwise fun a b => a.1 ≤ b.1
theorem okl_start (p : Pol) (s : St) : Okl p s 0 := ⟨by simp, by simp⟩
theorem okl_step {p : Pol} {s : St} {k : Nat} (h : Okl p s k) (hk : k < s.log.length) (h1 : 0 ≤ s.log[k].1) (h2 : s.log[k].1 ≤ s.tm) (h3 : 1 ≤ s.log[k].2) (h4 : s.log[k].2 ≤ p.limit) (h5 : ∀ (h0 : 0 < k), s.log[k - 1].1 ≤ s.log[k].1) : Okl p s (k + 1) := by
  have et := List.take_succ_eq_append_getElem hk
  refine ⟨fun e he => ?_, ?_⟩
  · rw [et] at he
    rcases List.mem_append.1 he with hm | hm
    · exact h.1 e hm
    · obtain rfl := List.mem_singleton.1 hm; exact ⟨h1, h2, h3, h4⟩
  · rw [et, List.pairwise_append]
    refine ⟨h.2, List.pairwise_singleton _ _, fun a ha b hb => ?_⟩
    obtain rfl := List.mem_singleton.1 hb
    obtain ⟨j, hj, rfl⟩ := List.mem_iff_getElem.1 ha
    have hjk : j < k := by rw [List.length_take] at hj; omega
    have h0 : 0 < k := by omega
    have h6 := h5 h0
    have h7 : (s.log.take k)[j].1 ≤ s.log[k - 1].1 := by
      by_cases hjj : j = k - 1
      · subst hjj; rw [List.getElem_take]; exact Int.le_refl _
      · have := List.pairwise_iff_getElem.1 h.2 j (k - 1) hj (by rw [List.length_take]; omega) (by omega)
        rw [List.getElem_take (i := k - 1)] at this; exact this
    omega
theorem okl_tot {p : Pol} {s : St} {k : Nat} (h : Okl p s k) (hn : s.log.length ≤ 100) (hl : p.limit ≤ 1048576) : 0 ≤ tot (s.log.take k) ∧ tot (s.log.take k) ≤ 104857600 := by
  have h1 := usedl_bounds (per := 1) (t := 0) (l := s.log.take k) (fun e he => by have := h.1 e he; omega)
  have h2 : usedl 1 0 (s.log.take k) = tot (s.log.take k) := by
    unfold usedl; rw [List.filter_eq_self.2 (fun e he => by have := h.1 e he; simp; omega)]
  have h3 : ((s.log.take k).length : Int) ≤ 100 := by rw [List.length_take]; omega
  omega
theorem okl_not {p : Pol} {s : St} {k : Nat} (hk : k < s.log.length) (h : ¬ (0 ≤ s.log[k].1 ∧ s.log[k].1 ≤ s.tm ∧ 1 ≤ s.log[k].2 ∧ s.log[k].2 ≤ p.limit)) : right p s = false :=
  right_false fun o => h (o.ent _ (List.getElem_mem hk))
theorem okl_not2 {p : Pol} {s : St} {k : Nat} (hk : k < s.log.length) (h0 : 0 < k) (h : s.log[k].1 < s.log[k - 1].1) : right p s = false :=
  right_false fun o => by have := List.pairwise_iff_getElem.1 o.sorted (k - 1) k (by omega) hk (by omega); omega
theorem okl_end {p : Pol} {s : St} {k : Nat} (h : Okl p s k) (hk : ¬ k < s.log.length) (hc : chk p = true) (h1 : 0 ≤ s.tm) (h2 : s.tm ≤ 9007199254740992) (h3 : 0 ≤ s.held) (h4 : s.held ≤ p.limit) (h5 : s.level = 0) (h6 : (s.log.length : Int) ≤ p.cap) : right p s = decide (s.held + tot (s.log.take k) ≤ p.limit) := by
  have et : s.log.take k = s.log := List.take_of_length_le (by omega)
  unfold Okl at h
  rw [et] at h ⊢
  by_cases hs : s.held + tot s.log ≤ p.limit
  · rw [ok_right ⟨hc, h1, h2, h3, h4, h5, h6, h.1, hs, h.2⟩]; simp [hs]
  · rw [right_false fun o => hs o.sum]; simp [hs]

set_option maxHeartbeats 16000000 in
set_option maxRecDepth 100000 in
theorem rright_calls (p : Pol) (s : St) (A : Option Addr) (cap : Nat) (w : World) (hA : Ents w A s.log) :
    Calls Try.prog 32 #[p.val, s.val A s.log.length cap] w fun e w' => e = .returned (.bool (right p s)) ∧ Below w.heap.size w w' := by
  have HA := Lib.hid hA
  clear hA
  have HB0 := Lib.hid (below_two w p.box (s.box A s.log.length cap))
  unfold Pol.val St.val
  cases h0 : chk p with
  | false =>
    have E := Lib.hid (show right p s = false by simp [right, h0])
    have H0 := Lib.hid h0
    clear h0
    go_enter Try.func32, Try.ntmps32
    go_wp2_with fail
    refine (rcheck_no H0.out _).mono ?_
    rintro e w1 ⟨rfl, hb1⟩
    have HB1 := Lib.hid hb1
    clear hb1
    go_wp2_with fail
    go_ret
    exact ⟨by rw [E.out]; rfl, HB0.out.trans (HB1.out.mono (by simp; omega))⟩
  | true =>
    have g := (chk_spec h0).2.2
    have H0 := Lib.hid h0
    clear h0
    by_cases tm0 : 0 ≤ s.tm
    · skip
      by_cases tm1 : s.tm ≤ 9007199254740992
      · skip
        by_cases held0 : 0 ≤ s.held
        · skip
          by_cases held1 : s.held ≤ p.limit
          · skip
            by_cases level : s.level = 0
            · skip
              have hlv : (s.level != 0) = false := by simp [level]
              have LV := Lib.hid level
              clear level
              by_cases len : (s.log.length : Int) ≤ p.cap
              · skip
                go_enter Try.func32, Try.ntmps32
                go_wp2_with fail
                refine (rcheck_yes H0.out _).mono ?_
                rintro e w1 ⟨rfl, hb1⟩
                have d0 : w1.cell? ⟨w.heap.size + 1, 0, none⟩ = some (.int .i64 s.tm) := by rw [hb1.cell (by simp)]; simp [go_sem]
                have d1 : w1.cell? ⟨w.heap.size + 1, 1, none⟩ = some (.int .i64 s.level) := by rw [hb1.cell (by simp)]; simp [go_sem]
                have d2 : w1.cell? ⟨w.heap.size + 1, 2, none⟩ = some (.int .i64 s.held) := by rw [hb1.cell (by simp)]; simp [go_sem]
                have d3 : w1.cell? ⟨w.heap.size + 1, 3, none⟩ = some (.slice A s.log.length cap) := by rw [hb1.cell (by simp)]; simp [go_sem]
                have e1 : w1.cell? ⟨w.heap.size, 1, none⟩ = some (.int .i64 p.limit) := by rw [hb1.cell (by simp; omega)]; simp [go_sem]
                have e4 : w1.cell? ⟨w.heap.size, 4, none⟩ = some (.int .i64 p.cap) := by rw [hb1.cell (by simp; omega)]; simp [go_sem]
                have HB1 := Lib.hid hb1
                clear hb1
                go_wp2_with fail
                have hW : Hid (Below ((w.alloc p.box).alloc (s.box A s.log.length cap)).heap.size ((w.alloc p.box).alloc (s.box A s.log.length cap)) w1) := HB1
                have hn : s.log.length ≤ 100 := by omega
                clear d0 d1 d2 d3 e1 e4
                go_loopw [5, 6] (fun acc i wr => ∃ k : Nat, k ≤ s.log.length ∧ i = .int .i64 k ∧ acc = .int .i64 (s.held + tot (s.log.take k)) ∧ Hid (Okl p s k ∧ Below ((w.alloc p.box).alloc (s.box A s.log.length cap)).heap.size ((w.alloc p.box).alloc (s.box A s.log.length cap)) wr)) (fun _ i _ => s.log.length - (intOf i).toNat)
                case atStart => exact ⟨0, Nat.zero_le _, rfl, val_int (by simp [tot]), okl_start p s, hW.out⟩
                case round =>
                  obtain ⟨k, hk, rfl, rfl, H⟩ := hrel
                  have H := Lib.hid (show Okl p s k ∧ Below ((w.alloc p.box).alloc (s.box A s.log.length cap)).heap.size ((w.alloc p.box).alloc (s.box A s.log.length cap)) wr from H)
                  have hbr := H.out.2
                  have d0 : wr.cell? ⟨w.heap.size + 1, 0, none⟩ = some (.int .i64 s.tm) := by rw [hbr.cell (by simp)]; simp [Pol.box, St.box, go_sem]
                  have d3 : wr.cell? ⟨w.heap.size + 1, 3, none⟩ = some (.slice A s.log.length cap) := by rw [hbr.cell (by simp)]; simp [Pol.box, St.box, go_sem]
                  have e1 : wr.cell? ⟨w.heap.size, 1, none⟩ = some (.int .i64 p.limit) := by rw [hbr.cell (by simp; omega)]; simp [Pol.box, St.box, go_sem]
                  have z0 : w.heap.size + 1 < wr.heap.size := by have := hbr.size; simp at this; omega
                  clear hbr
                  have bt := okl_tot H.out.1 hn (by omega)
                  by_cases hlt : k < s.log.length
                  · have HE := Lib.hid ((HA.out.keep HB0.out).keep H.out.2)
                    obtain ⟨a, rfl, c1, c2⟩ := HE.out.at_ hlt
                    have zb : (a.add (k * 2)).block < wr.heap.size := World.block_lt_of_cell? wr _ c1
                    have i1 : (k : Int) < (s.log.length : Int) := by omega
                    have z1 : w.heap.size < wr.heap.size := by omega
                    have zn1 : ¬ (wr.heap.size = w.heap.size) := by omega
                    have zn2 : ¬ (wr.heap.size = w.heap.size + 1) := by omega
                    have zn3 : ¬ (wr.heap.size = (a.add (k * 2)).block) := by omega
                    have TT := Lib.hid (tot_take s.log k hlt)
                    by_cases x1 : s.log[k].1 < 0
                    · have E := Lib.hid (okl_not (p := p) hlt (by omega))
                      have x1b : decide (s.log[k].1 < 0) = true := by simpa using x1
                      clear x1
                      go_wp2_with fail
                      go_quiet (fail)
                      go_wp2_with fail
                      go_ret
                      exact ⟨by rw [E.out]; rfl, below_drewN ((HB0.out.trans (H.out.2.mono (by simp; omega))).alloc (by omega) _) _⟩
                    · by_cases x2 : s.tm < s.log[k].1
                      · have E := Lib.hid (okl_not (p := p) hlt (by omega))
                        have x1b : decide (s.log[k].1 < 0) = false := by simpa using x1
                        have x2b : decide (s.tm < s.log[k].1) = true := by simpa using x2
                        clear x1 x2
                        go_wp2_with fail
                        go_quiet (fail)
                        go_wp2_with fail
                        go_ret
                        exact ⟨by rw [E.out]; rfl, below_drewN ((HB0.out.trans (H.out.2.mono (by simp; omega))).alloc (by omega) _) _⟩
                      · by_cases x3 : s.log[k].2 < 1
                        · have E := Lib.hid (okl_not (p := p) hlt (by omega))
                          have x1b : decide (s.log[k].1 < 0) = false := by simpa using x1
                          have x2b : decide (s.tm < s.log[k].1) = false := by simpa using x2
                          have x3b : decide (s.log[k].2 < 1) = true := by simpa using x3
                          clear x1 x2 x3
                          go_wp2_with fail
                          go_quiet (fail)
                          go_wp2_with fail
                          go_ret
                          exact ⟨by rw [E.out]; rfl, below_drewN ((HB0.out.trans (H.out.2.mono (by simp; omega))).alloc (by omega) _) _⟩
                        · by_cases x4 : p.limit < s.log[k].2
                          · have E := Lib.hid (okl_not (p := p) hlt (by omega))
                            have x1b : decide (s.log[k].1 < 0) = false := by simpa using x1
                            have x2b : decide (s.tm < s.log[k].1) = false := by simpa using x2
                            have x3b : decide (s.log[k].2 < 1) = false := by simpa using x3
                            have x4b : decide (p.limit < s.log[k].2) = true := by simpa using x4
                            clear x1 x2 x3 x4
                            go_wp2_with fail
                            go_quiet (fail)
                            go_wp2_with fail
                            go_ret
                            exact ⟨by rw [E.out]; rfl, below_drewN ((HB0.out.trans (H.out.2.mono (by simp; omega))).alloc (by omega) _) _⟩
                          · by_cases x5 : k = 0
                            · have HS := Lib.hid (okl_step H.out.1 hlt (by omega) (by omega) (by omega) (by omega) (fun h0 => absurd x5 (by omega)))
                              have x1b : decide (s.log[k].1 < 0) = false := by simpa using x1
                              have x2b : decide (s.tm < s.log[k].1) = false := by simpa using x2
                              have x3b : decide (s.log[k].2 < 1) = false := by simpa using x3
                              have x4b : decide (p.limit < s.log[k].2) = false := by simpa using x4
                              have bk1 : 1 ≤ s.log[k].2 := by omega
                              have bk2 : s.log[k].2 ≤ 1048576 := by omega
                              clear x1 x2 x3 x4
                              have x5b : decide (0 < k) = false := by simp; omega
                              have x5c : decide ((0 : Int) < (k : Int)) = false := by simp; omega
                              have X5 := Lib.hid x5
                              clear x5
                              go_wp2_with fail
                              go_quiet (fail)
                              go_wp2_with fail
                              go_roundw
                              case rel => exact ⟨k + 1, by omega, by go_num, val_int (by rw [TT.out]; omega), HS.out, below_drewN (H.out.2.alloc H.out.2.size _) _⟩
                              case measure => simp [intOf]; omega
                            · obtain ⟨a2, ha2, c3, c4⟩ := HE.out.at_ (i := k - 1) (by omega)
                              injection ha2 with ha2
                              subst ha2
                              have zb3 : (a.add ((k - 1) * 2)).block < wr.heap.size := World.block_lt_of_cell? wr _ c3
                              have zn4 : ¬ (wr.heap.size = (a.add ((k - 1) * 2)).block) := by omega
                              have j0 : 0 < k := by omega
                              by_cases x6 : s.log[k].1 < s.log[k - 1].1
                              · have E := Lib.hid (okl_not2 (p := p) hlt j0 x6)
                                have x1b : decide (s.log[k].1 < 0) = false := by simpa using x1
                                have x2b : decide (s.tm < s.log[k].1) = false := by simpa using x2
                                have x3b : decide (s.log[k].2 < 1) = false := by simpa using x3
                                have x4b : decide (p.limit < s.log[k].2) = false := by simpa using x4
                                have x6b : decide (s.log[k].1 < s.log[k - 1].1) = true := by simpa using x6
                                clear x1 x2 x3 x4 x6
                                have j1 : IntKind.i64.wrap ((k : Int) - 1) = (k : Int) - 1 := IntWalk.i64_in _ (by omega)
                                have j2 : (0 : Int) ≤ (k : Int) - 1 := by omega
                                have j3 : ((k : Int) - 1).toNat = k - 1 := by omega
                                have j4 : (k : Int) - 1 < (s.log.length : Int) := by omega
                                go_wp2_with fail
                                go_quiet (fail)
                                clear j1 j2 j3 j4
                                go_wp2_with fail
                                go_ret
                                exact ⟨by rw [E.out]; rfl, below_drewN ((HB0.out.trans (H.out.2.mono (by simp; omega))).alloc (by omega) _) _⟩
                              · have HS := Lib.hid (okl_step H.out.1 hlt (by omega) (by omega) (by omega) (by omega) (fun h0 => by omega))
                                have x1b : decide (s.log[k].1 < 0) = false := by simpa using x1
                                have x2b : decide (s.tm < s.log[k].1) = false := by simpa using x2
                                have x3b : decide (s.log[k].2 < 1) = false := by simpa using x3
                                have x4b : decide (p.limit < s.log[k].2) = false := by simpa using x4
                                have x6b : decide (s.log[k].1 < s.log[k - 1].1) = false := by simpa using x6
                                have bk1 : 1 ≤ s.log[k].2 := by omega
                                have bk2 : s.log[k].2 ≤ 1048576 := by omega
                                clear x1 x2 x3 x4 x6
                                have j1 : IntKind.i64.wrap ((k : Int) - 1) = (k : Int) - 1 := IntWalk.i64_in _ (by omega)
                                have j2 : (0 : Int) ≤ (k : Int) - 1 := by omega
                                have j3 : ((k : Int) - 1).toNat = k - 1 := by omega
                                have j4 : (k : Int) - 1 < (s.log.length : Int) := by omega
                                go_wp2_with fail
                                go_quiet (fail)
                                clear j1 j2 j3 j4
                                go_wp2_with fail
                                go_roundw
                                case rel => exact ⟨k + 1, by omega, by go_num, val_int (by rw [TT.out]; omega), HS.out, below_drewN (H.out.2.alloc H.out.2.size _) _⟩
                                case measure => simp [intOf]; omega
                  · have E := Lib.hid (okl_end H.out.1 hlt H0.out tm0 tm1 held0 held1 LV.out len)
                    go_wp2_with fail
                    go_ret
                    exact ⟨by rw [E.out]; rfl, HB0.out.trans (H.out.2.mono (by simp; omega))⟩
              · have E := Lib.hid (show right p s = false from right_false fun o => len (o.len))
                go_enter Try.func32, Try.ntmps32
                go_wp2_with fail
                refine (rcheck_yes H0.out _).mono ?_
                rintro e w1 ⟨rfl, hb1⟩
                have d0 : w1.cell? ⟨w.heap.size + 1, 0, none⟩ = some (.int .i64 s.tm) := by rw [hb1.cell (by simp)]; simp [go_sem]
                have d1 : w1.cell? ⟨w.heap.size + 1, 1, none⟩ = some (.int .i64 s.level) := by rw [hb1.cell (by simp)]; simp [go_sem]
                have d2 : w1.cell? ⟨w.heap.size + 1, 2, none⟩ = some (.int .i64 s.held) := by rw [hb1.cell (by simp)]; simp [go_sem]
                have d3 : w1.cell? ⟨w.heap.size + 1, 3, none⟩ = some (.slice A s.log.length cap) := by rw [hb1.cell (by simp)]; simp [go_sem]
                have e1 : w1.cell? ⟨w.heap.size, 1, none⟩ = some (.int .i64 p.limit) := by rw [hb1.cell (by simp; omega)]; simp [go_sem]
                have e4 : w1.cell? ⟨w.heap.size, 4, none⟩ = some (.int .i64 p.cap) := by rw [hb1.cell (by simp; omega)]; simp [go_sem]
                have HB1 := Lib.hid hb1
                clear hb1
                go_wp2_with fail
                go_ret
                exact ⟨by rw [E.out]; rfl, HB0.out.trans (HB1.out.mono (by simp; omega))⟩
            · have E := Lib.hid (show right p s = false from right_false fun o => level (o.level))
              have hlv : (s.level != 0) = true := by simp [level]
              clear level
              go_enter Try.func32, Try.ntmps32
              go_wp2_with fail
              refine (rcheck_yes H0.out _).mono ?_
              rintro e w1 ⟨rfl, hb1⟩
              have d0 : w1.cell? ⟨w.heap.size + 1, 0, none⟩ = some (.int .i64 s.tm) := by rw [hb1.cell (by simp)]; simp [go_sem]
              have d1 : w1.cell? ⟨w.heap.size + 1, 1, none⟩ = some (.int .i64 s.level) := by rw [hb1.cell (by simp)]; simp [go_sem]
              have d2 : w1.cell? ⟨w.heap.size + 1, 2, none⟩ = some (.int .i64 s.held) := by rw [hb1.cell (by simp)]; simp [go_sem]
              have d3 : w1.cell? ⟨w.heap.size + 1, 3, none⟩ = some (.slice A s.log.length cap) := by rw [hb1.cell (by simp)]; simp [go_sem]
              have e1 : w1.cell? ⟨w.heap.size, 1, none⟩ = some (.int .i64 p.limit) := by rw [hb1.cell (by simp; omega)]; simp [go_sem]
              have e4 : w1.cell? ⟨w.heap.size, 4, none⟩ = some (.int .i64 p.cap) := by rw [hb1.cell (by simp; omega)]; simp [go_sem]
              have HB1 := Lib.hid hb1
              clear hb1
              go_wp2_with fail
              go_ret
              exact ⟨by rw [E.out]; rfl, HB0.out.trans (HB1.out.mono (by simp; omega))⟩
          · have E := Lib.hid (show right p s = false from right_false fun o => held1 (o.held1))
            go_enter Try.func32, Try.ntmps32
            go_wp2_with fail
            refine (rcheck_yes H0.out _).mono ?_
            rintro e w1 ⟨rfl, hb1⟩
            have d0 : w1.cell? ⟨w.heap.size + 1, 0, none⟩ = some (.int .i64 s.tm) := by rw [hb1.cell (by simp)]; simp [go_sem]
            have d1 : w1.cell? ⟨w.heap.size + 1, 1, none⟩ = some (.int .i64 s.level) := by rw [hb1.cell (by simp)]; simp [go_sem]
            have d2 : w1.cell? ⟨w.heap.size + 1, 2, none⟩ = some (.int .i64 s.held) := by rw [hb1.cell (by simp)]; simp [go_sem]
            have d3 : w1.cell? ⟨w.heap.size + 1, 3, none⟩ = some (.slice A s.log.length cap) := by rw [hb1.cell (by simp)]; simp [go_sem]
            have e1 : w1.cell? ⟨w.heap.size, 1, none⟩ = some (.int .i64 p.limit) := by rw [hb1.cell (by simp; omega)]; simp [go_sem]
            have e4 : w1.cell? ⟨w.heap.size, 4, none⟩ = some (.int .i64 p.cap) := by rw [hb1.cell (by simp; omega)]; simp [go_sem]
            have HB1 := Lib.hid hb1
            clear hb1
            go_wp2_with fail
            go_ret
            exact ⟨by rw [E.out]; rfl, HB0.out.trans (HB1.out.mono (by simp; omega))⟩
        · have E := Lib.hid (show right p s = false from right_false fun o => held0 (o.held0))
          go_enter Try.func32, Try.ntmps32
          go_wp2_with fail
          refine (rcheck_yes H0.out _).mono ?_
          rintro e w1 ⟨rfl, hb1⟩
          have d0 : w1.cell? ⟨w.heap.size + 1, 0, none⟩ = some (.int .i64 s.tm) := by rw [hb1.cell (by simp)]; simp [go_sem]
          have d1 : w1.cell? ⟨w.heap.size + 1, 1, none⟩ = some (.int .i64 s.level) := by rw [hb1.cell (by simp)]; simp [go_sem]
          have d2 : w1.cell? ⟨w.heap.size + 1, 2, none⟩ = some (.int .i64 s.held) := by rw [hb1.cell (by simp)]; simp [go_sem]
          have d3 : w1.cell? ⟨w.heap.size + 1, 3, none⟩ = some (.slice A s.log.length cap) := by rw [hb1.cell (by simp)]; simp [go_sem]
          have e1 : w1.cell? ⟨w.heap.size, 1, none⟩ = some (.int .i64 p.limit) := by rw [hb1.cell (by simp; omega)]; simp [go_sem]
          have e4 : w1.cell? ⟨w.heap.size, 4, none⟩ = some (.int .i64 p.cap) := by rw [hb1.cell (by simp; omega)]; simp [go_sem]
          have HB1 := Lib.hid hb1
          clear hb1
          go_wp2_with fail
          go_ret
          exact ⟨by rw [E.out]; rfl, HB0.out.trans (HB1.out.mono (by simp; omega))⟩
      · have E := Lib.hid (show right p s = false from right_false fun o => tm1 (o.tm1))
        go_enter Try.func32, Try.ntmps32
        go_wp2_with fail
        refine (rcheck_yes H0.out _).mono ?_
        rintro e w1 ⟨rfl, hb1⟩
        have d0 : w1.cell? ⟨w.heap.size + 1, 0, none⟩ = some (.int .i64 s.tm) := by rw [hb1.cell (by simp)]; simp [go_sem]
        have d1 : w1.cell? ⟨w.heap.size + 1, 1, none⟩ = some (.int .i64 s.level) := by rw [hb1.cell (by simp)]; simp [go_sem]
        have d2 : w1.cell? ⟨w.heap.size + 1, 2, none⟩ = some (.int .i64 s.held) := by rw [hb1.cell (by simp)]; simp [go_sem]
        have d3 : w1.cell? ⟨w.heap.size + 1, 3, none⟩ = some (.slice A s.log.length cap) := by rw [hb1.cell (by simp)]; simp [go_sem]
        have e1 : w1.cell? ⟨w.heap.size, 1, none⟩ = some (.int .i64 p.limit) := by rw [hb1.cell (by simp; omega)]; simp [go_sem]
        have e4 : w1.cell? ⟨w.heap.size, 4, none⟩ = some (.int .i64 p.cap) := by rw [hb1.cell (by simp; omega)]; simp [go_sem]
        have HB1 := Lib.hid hb1
        clear hb1
        go_wp2_with fail
        go_ret
        exact ⟨by rw [E.out]; rfl, HB0.out.trans (HB1.out.mono (by simp; omega))⟩
    · have E := Lib.hid (show right p s = false from right_false fun o => tm0 (o.tm0))
      go_enter Try.func32, Try.ntmps32
      go_wp2_with fail
      refine (rcheck_yes H0.out _).mono ?_
      rintro e w1 ⟨rfl, hb1⟩
      have d0 : w1.cell? ⟨w.heap.size + 1, 0, none⟩ = some (.int .i64 s.tm) := by rw [hb1.cell (by simp)]; simp [go_sem]
      have d1 : w1.cell? ⟨w.heap.size + 1, 1, none⟩ = some (.int .i64 s.level) := by rw [hb1.cell (by simp)]; simp [go_sem]
      have d2 : w1.cell? ⟨w.heap.size + 1, 2, none⟩ = some (.int .i64 s.held) := by rw [hb1.cell (by simp)]; simp [go_sem]
      have d3 : w1.cell? ⟨w.heap.size + 1, 3, none⟩ = some (.slice A s.log.length cap) := by rw [hb1.cell (by simp)]; simp [go_sem]
      have e1 : w1.cell? ⟨w.heap.size, 1, none⟩ = some (.int .i64 p.limit) := by rw [hb1.cell (by simp; omega)]; simp [go_sem]
      have e4 : w1.cell? ⟨w.heap.size, 4, none⟩ = some (.int .i64 p.cap) := by rw [hb1.cell (by simp; omega)]; simp [go_sem]
      have HB1 := Lib.hid hb1
      clear hb1
      go_wp2_with fail
      go_ret
      exact ⟨by rw [E.out]; rfl, HB0.out.trans (HB1.out.mono (by simp; omega))⟩

theorem rright_yes {p : Pol} {s : St} (h : right p s = true) (A : Option Addr) (cap : Nat) (w : World) (hA : Ents w A s.log) :
    Calls Try.prog 32 #[p.val, s.val A s.log.length cap] w fun e w' => e = .returned (.bool true) ∧ Below w.heap.size w w' := by
  have := rright_calls p s A cap w hA; rw [h] at this; exact this
theorem rright_no {p : Pol} {s : St} (h : right p s = false) (A : Option Addr) (cap : Nat) (w : World) (hA : Ents w A s.log) :
    Calls Try.prog 32 #[p.val, s.val A s.log.length cap] w fun e w' => e = .returned (.bool false) ∧ Below w.heap.size w w' := by
  have := rright_calls p s A cap w hA; rw [h] at this; exact this

end Wn
end Go.Proofs.Ytljaemiggeeghaa
