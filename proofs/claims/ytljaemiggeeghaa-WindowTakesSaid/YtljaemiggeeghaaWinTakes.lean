/-
  The walk of the law WindowTakes.
-/
import Derived.Test.YtljaemiggeeghaaWinRows
import Derived.Test.YtljaemiggeeghaaWinTakM
import Derived.IntWalk
namespace Go.Proofs.Ytljaemiggeeghaa
open Go.RowKit
attribute [local go_sem ↓] Go.wp_at_zero Go.wp_at_succ
namespace Wn

theorem apart2_swap {a c : Option Nat} (h : a = none ∨ a ≠ c) : c = none ∨ c ≠ a := by
  rcases h with rfl | h
  · cases c <;> simp
  · exact .inr (Ne.symm h)
theorem apart2_first {a0 a1 c0 : Option Nat} {n : Nat} (h0 : a0 = none ∨ a0 ≠ c0) (h1 : a1 = a0 ∨ a1 = some n) (hc : ∀ q, c0 = some q → q < n) : a1 = none ∨ a1 ≠ c0 := by
  rcases h1 with rfl | rfl
  · exact h0
  · exact .inr fun e => by have := hc n e.symm; omega
theorem apart2_grown {a0 a1 c0 c1 : Option Nat} {n m : Nat} (h0 : a0 = none ∨ a0 ≠ c0) (h1 : a1 = a0 ∨ a1 = some n) (h2 : c1 = c0 ∨ c1 = some m) (hc : ∀ q, c0 = some q → q < n) (ha : ∀ q, a1 = some q → q < m) : a1 = none ∨ a1 ≠ c1 := by
  rcases h2 with rfl | rfl
  · exact apart2_first h0 h1 hc
  · exact .inr fun e => by have := ha m e; omega

theorem takes_next {p : Pol} {s t : St} {G : List (Int × Int)} {n c : Int} {k : Nat} (h : Ok p s) (hr : RemE p s G) (hc : ∀ e ∈ G, 1 ≤ e.2 ∧ e.2 ≤ 1048576) (h0 : ∀ e ∈ G, 0 ≤ e.1) (hg : G.length ≤ k) (hl : s.log.length ≤ k) (hh : s.held = 0) (hk : k < 60) (hp : p.cap = 100) (he : act p s 1 n c = (t, true)) :
    Ok p t ∧ RemE p t (G ++ [(t.tm, c)]) ∧ (∀ e ∈ G ++ [(t.tm, c)], 1 ≤ e.2 ∧ e.2 ≤ 1048576) ∧ (∀ e ∈ G ++ [(t.tm, c)], 0 ≤ e.1) ∧ (G ++ [(t.tm, c)]).length ≤ k + 1 ∧ t.log.length ≤ k + 1 ∧ t.held = 0 := by
  have hok : Ok p t := by have := act_ok h 1 n c; rw [he] at this; exact this
  have hrt := remE_take h hr (n := n) (c := c) (by omega) (by rw [he])
  rw [he] at hrt
  have hth := take_held h he
  have hw : wi c 1 (grt p (adv p s n) 1) = true := by
    by_cases hw : wi c 1 (grt p (adv p s n) 1) = true
    · exact hw
    · rw [act_no h hw] at he; exact absurd (congrArg Prod.snd he) (by simp)
  have h5 := wi_yes hw
  have h6 := grt_le (h.adv n) 1
  have h7 := h.lim
  refine ⟨hok, hrt, fun e hm => ?_, fun e hm => ?_, by simp; omega, by have := hth.2; simp at this; omega, by rw [hth.1]; exact hh⟩
  · rcases List.mem_append.1 hm with hm | hm
    · exact hc e hm
    · obtain rfl := List.mem_singleton.1 hm; exact ⟨h5.1, by show c ≤ 1048576; omega⟩
  · rcases List.mem_append.1 hm with hm | hm
    · exact h0 e hm
    · obtain rfl := List.mem_singleton.1 hm; exact hok.tm0

set_option maxHeartbeats 32000000 in
set_option maxRecDepth 100000 in
theorem takes_law (limit period : Int) (h1 : 0 ≤ limit ∧ limit < 65536) (h2 : 0 ≤ period ∧ period < 65536) (A : Option Addr) (cap : Nat) (L : List (Int × Int × Int)) (w : World) (hA : Acts w A L) :
    Calls Try.prog 8 #[.int .u16 limit, .int .u16 period, .slice A L.length cap] w fun e w' => e = .returned (.bool true) ∧ Below w.heap.size w w' := by
  have HA := Lib.hid hA
  clear hA
  by_cases hs : L.length ≤ 60
  · obtain ⟨p, hp⟩ : ∃ p, ofP limit period 99 = p := ⟨_, rfl⟩
    obtain ⟨s0, hs0⟩ : ∃ s0, new p 0 = s0 := ⟨_, rfl⟩
    have HP := Lib.hid hp
    have HS0 := Lib.hid hs0
    have HK0 := Lib.hid (show Ok p s0 by rw [← hs0]; exact ok_new (by rw [← hp]; exact chk_ofP h1 h2) 0)
    have HL0 := Lib.hid (show s0.log = [] by rw [← hs0]; exact new_log p 0)
    have hcap : p.cap = 100 := by rw [← hp]; rfl
    have hsh : s0.held = 0 := by rw [← hs0]; unfold new; split <;> rfl
    have HSH := Lib.hid hsh
    have HCP := Lib.hid hcap
    clear hp hs0 hcap hsh
    go_enter Try.func8, Try.ntmps8
    go_wp2_with fail
    refine (small_yes hs A cap _).mono ?_
    rintro e w1 ⟨rfl, rfl⟩
    go_wp2_with fail
    refine (of_at HP.out h1 h2 ⟨by omega, by omega⟩ _).mono ?_
    rintro e w1 ⟨rfl, hb1⟩
    have HB1 := Lib.hid hb1
    have z1 := hb1.size
    clear hb1
    go_wp2_with fail
    refine (new_at HS0.out _).mono ?_
    rintro e w2 ⟨rfl, hb2⟩
    have HBP := Lib.hid ((Box.new w1 23 (pcells p)).keep hb2)
    have HB2 := Lib.hid ((HB1.out.alloc z1 _).trans (hb2.mono (Nat.le_trans z1 (below_lt1 w1 _))))
    have z2 : w.heap.size ≤ w2.heap.size := HB2.out.size
    have hbp : w1.heap.size < w2.heap.size := HBP.out.lt
    have HW1 := Lib.hid hb2
    clear hb2
    obtain ⟨bp, ebp⟩ : ∃ b, w1.heap.size = b := ⟨_, rfl⟩
    obtain ⟨bs, ebs⟩ : ∃ b, w2.heap.size = b := ⟨_, rfl⟩
    have HBP := Lib.hid (show Box w2 bp 23 (pcells p) by rw [← ebp]; exact HBP.out)
    go_wp2_with fail
    have hzbs : w.heap.size ≤ bs := by rw [← ebs]; exact z2
    have hbps : bp < bs := by rw [← ebp, ← ebs]; exact hbp
    go_loopg [9, 10, 11] L.length (fun g va vc i wr => ∃ (k : Nat) (s : St) (A' : Option Addr) (cap' : Nat) (G : List (Int × Int)), k ≤ L.length ∧ g = L.length - k ∧ i = .int .i64 k ∧ Hid (Ok p s ∧ RemE p s G ∧ (∀ e ∈ G, 1 ≤ e.2 ∧ e.2 ≤ 1048576) ∧ (∀ e ∈ G, 0 ≤ e.1) ∧ G.length ≤ k ∧ s.log.length ≤ k ∧ s.held = 0) ∧ Hid (At w wr bp bs p s A' cap') ∧ Hid (Ints wr w.heap.size va (G.map (·.1)) ∧ Ints wr w.heap.size vc (G.map (·.2)) ∧ (va.ownBlock = none ∨ va.ownBlock ≠ vc.ownBlock)))
    case atStart => exact ⟨0, s0, none, 0, [], Nat.zero_le _, rfl, rfl, ⟨HK0.out, (by rw [← HS0.out]; exact remE_new p 0), by simp, by simp, Nat.zero_le _, by rw [HL0.out]; exact Nat.zero_le _, HSH.out⟩, ⟨HB2.out.alloc z2 _, HBP.out.alloc _, (by rw [HL0.out, ← ebs]; exact Box.new _ _ _), (by rw [HL0.out]; exact Sl.nil _ _)⟩, Ints.nil _ _, Ints.nil _ _, .inl rfl⟩
    case round =>
      obtain ⟨k, s, A', cap', G, hk, hg, rfl, HR, HT, HI⟩ := hrel
      have HG := Lib.hid hg
      obtain ⟨hBr, rp, rs, hSl⟩ := HT.out
      have RP := Lib.hid rp
      have RS := Lib.hid rs
      have HBr := Lib.hid hBr
      have hz0 : w.heap.size ≤ wr.heap.size := hBr.size
      have HAr := Lib.hid (HA.out.keep hBr)
      have HSl := Lib.hid hSl
      have HT := Lib.hid HT
      clear hg hBr hSl
      have p0 : wr.cell? ⟨bp, 0, none⟩ = some (.int .i64 p.kind) := rp.cell 0
      have p1 : wr.cell? ⟨bp, 1, none⟩ = some (.int .i64 p.limit) := rp.cell 1
      have p2 : wr.cell? ⟨bp, 2, none⟩ = some (.int .i64 p.period) := rp.cell 2
      have p3 : wr.cell? ⟨bp, 3, none⟩ = some (.int .i64 p.burst) := rp.cell 3
      have p4 : wr.cell? ⟨bp, 4, none⟩ = some (.int .i64 p.cap) := rp.cell 4
      have p5 : wr.cell? ⟨bp, 5, none⟩ = some (.bool p.opn) := rp.cell 5
      have ts0 : wr.cell? ⟨bs, 0, none⟩ = some (.int .i64 (s).tm) := rs.cell 0
      have ts1 : wr.cell? ⟨bs, 1, none⟩ = some (.int .i64 (s).level) := rs.cell 1
      have ts2 : wr.cell? ⟨bs, 2, none⟩ = some (.int .i64 (s).held) := rs.cell 2
      have ts3 : wr.cell? ⟨bs, 3, none⟩ = some (.slice A' (s).log.length cap') := rs.cell 3
      have zp := rp.lt
      have zs := rs.lt
      clear rp rs
      by_cases hlt : k < L.length
      · obtain ⟨a, rfl, c1, c2, c3⟩ := HAr.out.at_ hlt
        have zn1 : ¬ (wr.heap.size = bp) := by omega
        have zn2 : ¬ (wr.heap.size = bs) := by omega
        have zn3 : ¬ (wr.heap.size = (a.add (k * 3)).block) := fun h => by have := World.block_lt_of_cell? wr _ c1; omega
        have i1 : (k : Int) < (L.length : Int) := by omega
        go_wp2_with fail
        obtain ⟨t, is, hact⟩ : ∃ t is, act p s 1 L[k].2.1 L[k].2.2 = (t, is) := ⟨_, _, rfl⟩
        have HACT := Lib.hid hact
        clear hact
        refine (do_is HACT.out 0 A' cap' _ (HSl.out.alloc _)).mono ?_
        rintro e w3 ⟨A3, cap3, rfl, hS3, hb3⟩
        have RP3 := Lib.hid (Box.keep (Box.alloc RP.out _) hb3)
        have RS3 := Lib.hid (Box.keep (Box.alloc RS.out _) hb3)
        have RA3 := Lib.hid (Box.keep (Box.new wr 38 (acells 1 L[k].2.1 L[k].2.2)) hb3)
        have IA3 := Lib.hid (Ints.keep (Ints.alloc HI.out.1 _) hb3)
        have IC3 := Lib.hid (Ints.keep (Ints.alloc HI.out.2.1 _) hb3)
        have HB3 := Lib.hid ((HBr.out.alloc hz0 _).trans (hb3.mono (Nat.le_trans hz0 (below_lt1 wr _))))
        have HS3 := Lib.hid hS3
        have zs3 := RS3.out.lt
        have za3 := RA3.out.lt
        have zp3 := RP3.out.lt
        clear hS3 hb3 p0 p1 p2 p3 p4 p5 ts0 ts1 ts2 ts3 c1 c2 c3
        have u0 : w3.cell? ⟨bs, 0, none⟩ = some (.int .i64 s.tm) := RS3.out.cell 0
        have u1 : w3.cell? ⟨wr.heap.size, 1, none⟩ = some (.int .i64 L[k].2.1) := RA3.out.cell 1
        have sm0 := HR.out.1.tm0
        have sm1 := HR.out.1.tm1
        obtain ⟨m0, hm0⟩ : ∃ m, (if L[k].2.1 < 0 then 0 else L[k].2.1) = m := ⟨_, rfl⟩
        obtain ⟨c0, hc0⟩ : ∃ m, (if 9007199254740992 < m0 then 9007199254740992 else m0) = m := ⟨_, rfl⟩
        obtain ⟨m, hm1⟩ : ∃ m, (if s.tm < c0 then c0 else s.tm) = m := ⟨_, rfl⟩
        have HM := Lib.hid (show advTm s L[k].2.1 = m by
          rw [← hm1]
          have e : clamp L[k].2.1 = c0 := by
            rw [← hc0, ← hm0]; unfold clamp
            split <;> (try split) <;> (try split) <;> omega
          unfold advTm; rw [e]; split <;> omega)
        have hmb : 0 ≤ m ∧ m ≤ 9007199254740992 := by rw [← HM.out]; exact HR.out.1.advTm _
        go_wp2_with fail
        have BP4 := Lib.hid (RP3.out.alloc (.cells #[.int .i64 t.tm, .int .i64 t.level, .int .i64 t.held, .slice A3 t.log.length cap3] 32))
        have BS4 := Lib.hid (RS3.out.alloc (.cells #[.int .i64 t.tm, .int .i64 t.level, .int .i64 t.held, .slice A3 t.log.length cap3] 32))
        have BA4 := Lib.hid (RA3.out.alloc (.cells #[.int .i64 t.tm, .int .i64 t.level, .int .i64 t.held, .slice A3 t.log.length cap3] 32))
        have BT4 := Lib.hid (Box.new w3 32 #[.int .i64 t.tm, .int .i64 t.level, .int .i64 t.held, .slice A3 t.log.length cap3])
        have IA4 := Lib.hid (IA3.out.alloc (.cells #[.int .i64 t.tm, .int .i64 t.level, .int .i64 t.held, .slice A3 t.log.length cap3] 32))
        have IC4 := Lib.hid (IC3.out.alloc (.cells #[.int .i64 t.tm, .int .i64 t.level, .int .i64 t.held, .slice A3 t.log.length cap3] 32))
        have HB4 := Lib.hid (HB3.out.alloc HB3.out.size (.cells #[.int .i64 t.tm, .int .i64 t.level, .int .i64 t.held, .slice A3 t.log.length cap3] 32))
        have HS4 := Lib.hid ((HS3.out.alloc (.cells #[.int .i64 t.tm, .int .i64 t.level, .int .i64 t.held, .slice A3 t.log.length cap3] 32)).mono (Nat.zero_le _))
        have HAPT := Lib.hid HI.out.2.2
        clear u0 u1 hm0 hc0 hm1 sm0 sm1 zp3
        generalize w3.alloc (.cells #[.int .i64 t.tm, .int .i64 t.level, .int .i64 t.held, .slice A3 t.log.length cap3] 32) = W4 at BP4 BS4 BA4 BT4 IA4 IC4 HB4 HS4 ⊢
        generalize w3.heap.size = bt at BT4 zs3 za3 ⊢
        have zn6 : ¬ (bt = bs) := by omega
        have zn7 : ¬ (bs = bt) := by omega
        obtain ⟨VA, ca, hve, hva⟩ := IA4.out.view
        obtain ⟨VC, cc, hve2, hvc⟩ := IC4.out.view
        rw [List.length_map] at hve hve2
        subst hve hve2
        have HVA := Lib.hid (show ∀ i (hi : i < G.length), ∃ a : Addr, VA = some a ∧ W4.cell? (a.add i) = some (.int .i64 G[i].1) from fun i hi => by
          obtain ⟨a, e, h⟩ := hva i (by simpa using hi); exact ⟨a, e, by simpa using h⟩)
        have HVC := Lib.hid (show ∀ i (hi : i < G.length), ∃ a : Addr, VC = some a ∧ W4.cell? (a.add i) = some (.int .i64 G[i].2) from fun i hi => by
          obtain ⟨a, e, h⟩ := hvc i (by simpa using hi); exact ⟨a, e, by simpa using h⟩)
        have hGl : G.length ≤ 60 := by have := HR.out.2.2.2.2.1; omega
        clear hva hvc
        have w4p2 : W4.cell? ⟨bp, 2, none⟩ = some (.int .i64 p.period) := BP4.out.cell 2
        go_loopw [16, 17] (fun us kk wx => ∃ j n0 : Nat, j ≤ G.length ∧ kk = .int .i64 j ∧ us = .int .i64 (usedl p.period m (G.take j)) ∧ wx = W4.drewN n0) (fun _ kk _ => G.length - (intOf kk).toNat)
        case atStart => exact ⟨0, 0, Nat.zero_le _, rfl, rfl, rfl⟩
        case round =>
          obtain ⟨j, n0, hjg, rfl, rfl, rfl⟩ := hrel
          by_cases hjl : j < G.length
          · obtain ⟨ab, hab, cj⟩ := HVA.out j hjl
            obtain ⟨ac, hac, cjc⟩ := HVC.out j hjl
            subst hab hac
            have bj := HR.out.2.2.1 _ (List.getElem_mem hjl)
            have lj := HR.out.2.2.2.1 _ (List.getElem_mem hjl)
            have tj := HR.out.2.1.2 _ (List.getElem_mem hjl)
            have sm1 := HR.out.1.tm1
            have HU := Lib.hid (usedl_take p.period m G j hjl)
            have bu := usedl_bounds (per := p.period) (t := m) (l := G.take j) (fun e he => HR.out.2.2.1 e (List.mem_of_mem_take he))
            have bl : ((G.take j).length : Int) ≤ 60 := by rw [List.length_take]; omega
            have ub0 : 0 ≤ usedl p.period m (G.take j) := bu.1
            have ub1 : usedl p.period m (G.take j) ≤ 62914560 := by omega
            have jj : (j : Int) < (G.length : Int) := by omega
            have j1 : IntKind.i64.wrap (m - G[j].1) = m - G[j].1 := IntWalk.i64_in _ (by omega)
            clear bu bl
            by_cases hg : m - p.period < G[j].1
            · have HV := Lib.hid (show usedl p.period m (G.take (j + 1)) = usedl p.period m (G.take j) + G[j].2 by rw [HU.out, if_pos hg])
              have hgb : decide (m - G[j].1 < p.period) = true := by simp; omega
              clear hg
              go_wp2_with fail
              go_quiet (fail)
              clear j1
              go_wp2_with fail
              go_roundw
              case rel => exact ⟨j + 1, n0 + nq, by omega, by go_num, val_int HV.out.symm, rfl⟩
              case measure => simp [intOf]; omega
            · have HV := Lib.hid (show usedl p.period m (G.take (j + 1)) = usedl p.period m (G.take j) by rw [HU.out, if_neg hg]; omega)
              have hgb : decide (m - G[j].1 < p.period) = false := by simp; omega
              clear hg
              go_wp2_with fail
              go_quiet (fail)
              clear j1
              go_wp2_with fail
              go_roundw
              case rel => exact ⟨j + 1, n0 + nq, by omega, by go_num, val_int HV.out.symm, rfl⟩
              case measure => simp [intOf]; omega
          · have etk : usedl p.period m (G.take j) = usedl p.period m G := by rw [List.take_of_length_le (by omega)]
            rw [etk]
            clear etk
            have bu := usedl_bounds (per := p.period) (t := m) (l := G) HR.out.2.2.1
            have ub0 : 0 ≤ usedl p.period m G := bu.1
            have ub1 : usedl p.period m G ≤ 62914560 := by omega
            clear bu
            have lm := HR.out.1.lim
            by_cases hc1 : 1 ≤ L[k].2.2
            · have HIS := Lib.hid (takes_is HR.out.1 HR.out.2.1 HR.out.2.2.2.2.2.2 HACT.out hc1)
              by_cases hd : L[k].2.2 ≤ p.limit - usedl p.period m G
              · have his : is = true := by have := HIS.out; rw [HM.out] at this; rw [this]; simp [hd]
                subst his
                have HNX := Lib.hid (show Ok p t ∧ RemE p t (G ++ [(t.tm, L[k].2.2)]) ∧ (∀ e ∈ G ++ [(t.tm, L[k].2.2)], 1 ≤ e.2 ∧ e.2 ≤ 1048576) ∧ (∀ e ∈ G ++ [(t.tm, L[k].2.2)], 0 ≤ e.1) ∧ (G ++ [(t.tm, L[k].2.2)]).length ≤ k + 1 ∧ t.log.length ≤ k + 1 ∧ t.held = 0 from takes_next HR.out.1 HR.out.2.1 HR.out.2.2.1 HR.out.2.2.2.1 HR.out.2.2.2.2.1 HR.out.2.2.2.2.2.1 HR.out.2.2.2.2.2.2 (show k < 60 by omega) HCP.out HACT.out)
                have g1 : decide (1 ≤ L[k].2.2) = true := by simp; omega
                have g2 : decide (L[k].2.2 ≤ p.limit - usedl p.period m G) = true := by simp; omega
                have hcb : L[k].2.2 ≤ 1048576 := by omega
                have BP5 := Lib.hid (BP4.out.drewN n0)
                have BS5 := Lib.hid (BS4.out.drewN n0)
                have BA5 := Lib.hid (BA4.out.drewN n0)
                have BT5 := Lib.hid (BT4.out.drewN n0)
                have IA5 := Lib.hid (Ints.keep IA4.out (below_drewN (Below.refl _ _) n0))
                have IC5 := Lib.hid (Ints.keep IC4.out (below_drewN (Below.refl _ _) n0))
                have HB5 := Lib.hid (below_drewN HB4.out n0)
                have HS5 := Lib.hid (Sl.keep HS4.out (below_drewN (Below.refl _ _) n0))
                clear w4p2 hc1 hd
                generalize W4.drewN n0 = W5 at BP5 BS5 BA5 BT5 IA5 IC5 HB5 HS5 ⊢
                have k0 : W5.cell? ⟨bp, 0, none⟩ = some (.int .i64 p.kind) := BP5.out.cell 0
                have k1 : W5.cell? ⟨bp, 1, none⟩ = some (.int .i64 p.limit) := BP5.out.cell 1
                have k2 : W5.cell? ⟨bp, 2, none⟩ = some (.int .i64 p.period) := BP5.out.cell 2
                have k3 : W5.cell? ⟨bp, 3, none⟩ = some (.int .i64 p.burst) := BP5.out.cell 3
                have k4 : W5.cell? ⟨bp, 4, none⟩ = some (.int .i64 p.cap) := BP5.out.cell 4
                have k5 : W5.cell? ⟨bp, 5, none⟩ = some (.bool p.opn) := BP5.out.cell 5
                have ks0 : W5.cell? ⟨bs, 0, none⟩ = some (.int .i64 (s).tm) := BS5.out.cell 0
                have ks1 : W5.cell? ⟨bs, 1, none⟩ = some (.int .i64 (s).level) := BS5.out.cell 1
                have ks2 : W5.cell? ⟨bs, 2, none⟩ = some (.int .i64 (s).held) := BS5.out.cell 2
                have ks3 : W5.cell? ⟨bs, 3, none⟩ = some (.slice A' (s).log.length cap') := BS5.out.cell 3
                have kf0 := BS5.out.free 0
                have kf1 := BS5.out.free 1
                have kf2 := BS5.out.free 2
                have kf3 := BS5.out.free 3
                have ka0 : W5.cell? ⟨wr.heap.size, 0, none⟩ = some (.int .i64 1) := BA5.out.cell 0
                have ka1 : W5.cell? ⟨wr.heap.size, 1, none⟩ = some (.int .i64 L[k].2.1) := BA5.out.cell 1
                have ka2 : W5.cell? ⟨wr.heap.size, 2, none⟩ = some (.int .i64 L[k].2.2) := BA5.out.cell 2
                have kt0 : W5.cell? ⟨bt, 0, none⟩ = some (.int .i64 t.tm) := BT5.out.cell 0
                have kt1 : W5.cell? ⟨bt, 1, none⟩ = some (.int .i64 t.level) := BT5.out.cell 1
                have kt2 : W5.cell? ⟨bt, 2, none⟩ = some (.int .i64 t.held) := BT5.out.cell 2
                have kt3 : W5.cell? ⟨bt, 3, none⟩ = some (.slice A3 t.log.length cap3) := BT5.out.cell 3
                have zt5 := BT5.out.lt
                have za5 := BA5.out.lt
                have WF := Lib.hid (show Below w.heap.size w ((((W5.setCell ⟨bs, 0, none⟩ (.int .i64 t.tm)).setCell ⟨bs, 1, none⟩ (.int .i64 t.level)).setCell ⟨bs, 2, none⟩ (.int .i64 t.held)).setCell ⟨bs, 3, none⟩ (.slice A3 t.log.length cap3)) from below_set4 HB5.out hzbs _ _ _ _)
                have WP := Lib.hid (BP5.out.far4 (Nat.ne_of_lt hbps) (.int .i64 t.tm) (.int .i64 t.level) (.int .i64 t.held) (.slice A3 t.log.length cap3))
                have WS := Lib.hid (BS5.out.set4 (.int .i64 t.tm) (.int .i64 t.level) (.int .i64 t.held) (.slice A3 t.log.length cap3))
                have WA := Lib.hid (BA5.out.far4 zn2 (.int .i64 t.tm) (.int .i64 t.level) (.int .i64 t.held) (.slice A3 t.log.length cap3))
                have WL := Lib.hid (HS5.out.far4 BS5.out (.int .i64 t.tm) (.int .i64 t.level) (.int .i64 t.held) (.slice A3 t.log.length cap3))
                have WI := Lib.hid (IA5.out.far4 BS5.out (.int .i64 t.tm) (.int .i64 t.level) (.int .i64 t.held) (.slice A3 t.log.length cap3))
                have WC := Lib.hid (IC5.out.far4 BS5.out (.int .i64 t.tm) (.int .i64 t.level) (.int .i64 t.held) (.slice A3 t.log.length cap3))
                go_upto_region 24 with (fail)
                clear k0 k1 k2 k3 k4 k5 ks0 ks1 ks2 ks3 kf0 kf1 kf2 kf3 ka0 ka1 ka2 kt0 kt1 kt2 kt3
                generalize ((((W5.setCell ⟨bs, 0, none⟩ (.int .i64 t.tm)).setCell ⟨bs, 1, none⟩ (.int .i64 t.level)).setCell ⟨bs, 2, none⟩ (.int .i64 t.held)).setCell ⟨bs, 3, none⟩ (.slice A3 t.log.length cap3)) = W6 at WF WP WS WA WL WI WC ⊢
                have y0 : W6.cell? ⟨bs, 0, none⟩ = some (.int .i64 t.tm) := WS.out.cell 0
                have hWz : w.heap.size ≤ W6.heap.size := WF.out.size
                have hlG : (G.map (·.1)).length ≤ 1000 := by have := HR.out.2.2.2.2.1; simp; omega
                have hlG2 : (G.map (·.2)).length ≤ 1000 := by have := HR.out.2.2.2.2.1; simp; omega
                go_wp2_with (at_builtin; refine wpList_append_int rfl _ _ rfl w.heap.size _ (G.map (·.1)) rfl (WI.out.alloc _) W6.heap.size t.tm rfl (heap_alloc_new W6 _) hlG (Nat.le_trans hWz (below_lt1 W6 _)) ?_)
                intro va1 W7 hi7 hgr7 hblk7
                have HBW := Lib.hid ((WF.out.alloc hWz _).grown hgr7 (Nat.le_trans hWz (below_lt1 W6 _)) (fun q hq => (World.ownsRow.lt WI.out q hq).1))
                have HP7 := Lib.hid ((WP.out.alloc _).grown (WI.out.alloc _) (by decide) hgr7)
                have HSB7 := Lib.hid ((WS.out.alloc _).grown (WI.out.alloc _) (by decide) hgr7)
                have ha7 := (WA.out.alloc _).grown (WI.out.alloc _) (by decide) hgr7
                have HL7 := Lib.hid ((WL.out.alloc _).grown (WI.out.alloc _) hgr7)
                have HC7 := Lib.hid (Ints.grownOther (WC.out.alloc _) hgr7 (apart2_swap HAPT.out))
                have HI7 := Lib.hid hi7
                have HBL7 := Lib.hid hblk7
                have HCL := Lib.hid (fun q hq => (World.ownsRow.lt WC.out q hq).2)
                have y2 : W7.cell? ⟨wr.heap.size, 2, none⟩ = some (.int .i64 L[k].2.2) := ha7.cell 2
                have hWz7 : w.heap.size ≤ W7.heap.size := HBW.out.size
                clear hi7 hgr7 hblk7 ha7
                go_wp2_with (at_builtin; refine wpList_append_int rfl _ _ rfl w.heap.size _ (G.map (·.2)) rfl (HC7.out.alloc _) W7.heap.size L[k].2.2 rfl (heap_alloc_new W7 _) hlG2 (Nat.le_trans hWz7 (below_lt1 W7 _)) ?_)
                intro vc1 W8 hc8 hgr8 hblk8
                have HAP := Lib.hid (apart2_grown HAPT.out HBL7.out hblk8 (fun q hq => Nat.lt_succ_of_lt (HCL.out q hq)) (fun q hq => Nat.lt_succ_of_lt (World.ownsRow.lt HI7.out q hq).2))
                have hne8 : va1.ownBlock = none ∨ va1.ownBlock ≠ Value.ownBlock _ := apart2_first HAPT.out HBL7.out (fun q hq => Nat.lt_succ_of_lt (HCL.out q hq))
                have HA8 := Lib.hid (show At w W8 bp bs p t A3 cap3 from ⟨(HBW.out.alloc hWz7 _).grown hgr8 (Nat.le_trans hWz7 (below_lt1 W7 _)) (fun q hq => (World.ownsRow.lt HC7.out q hq).1), (HP7.out.alloc _).grown (HC7.out.alloc _) (by decide) hgr8, (HSB7.out.alloc _).grown (HC7.out.alloc _) (by decide) hgr8, (HL7.out.alloc _).grown (HC7.out.alloc _) hgr8⟩)
                have HI8 := Lib.hid (Ints.grownOther (HI7.out.alloc _) hgr8 hne8)
                have HC8 := Lib.hid hc8
                clear hc8 hgr8 hblk8 hne8
                have HRN := Lib.hid (show Ok p t ∧ RemE p t (G ++ [(t.tm, L[k].2.2)]) ∧ (∀ e ∈ G ++ [(t.tm, L[k].2.2)], 1 ≤ e.2 ∧ e.2 ≤ 1048576) ∧ (∀ e ∈ G ++ [(t.tm, L[k].2.2)], 0 ≤ e.1) ∧ (G ++ [(t.tm, L[k].2.2)]).length ≤ k + 1 ∧ t.log.length ≤ k + 1 ∧ t.held = 0 from HNX.out)
                go_wp2_with fail
                go_roundg (gk - 1)
                case rel => exact ⟨k + 1, t, A3, cap3, G ++ [(t.tm, L[k].2.2)], by omega, by have := HG.out; omega, by go_num, HRN.out, HA8.out, by rw [List.map_append]; exact HI8.out, by rw [List.map_append]; exact HC8.out, HAP.out⟩
                case measure => have := HG.out; omega
              · have his : is = false := by have := HIS.out; rw [HM.out] at this; rw [this]; simp [hd]
                subst his
                have g1 : decide (1 ≤ L[k].2.2) = true := by simp; omega
                have g2 : decide (L[k].2.2 ≤ p.limit - usedl p.period m G) = false := by simp; omega
                have BP5 := Lib.hid (BP4.out.drewN n0)
                have BS5 := Lib.hid (BS4.out.drewN n0)
                have BA5 := Lib.hid (BA4.out.drewN n0)
                have BT5 := Lib.hid (BT4.out.drewN n0)
                have IA5 := Lib.hid (Ints.keep IA4.out (below_drewN (Below.refl _ _) n0))
                have IC5 := Lib.hid (Ints.keep IC4.out (below_drewN (Below.refl _ _) n0))
                have HB5 := Lib.hid (below_drewN HB4.out n0)
                have HS5 := Lib.hid (Sl.keep HS4.out (below_drewN (Below.refl _ _) n0))
                clear w4p2 hc1 hd
                generalize W4.drewN n0 = W5 at BP5 BS5 BA5 BT5 IA5 IC5 HB5 HS5 ⊢
                have k0 : W5.cell? ⟨bp, 0, none⟩ = some (.int .i64 p.kind) := BP5.out.cell 0
                have k1 : W5.cell? ⟨bp, 1, none⟩ = some (.int .i64 p.limit) := BP5.out.cell 1
                have k2 : W5.cell? ⟨bp, 2, none⟩ = some (.int .i64 p.period) := BP5.out.cell 2
                have k3 : W5.cell? ⟨bp, 3, none⟩ = some (.int .i64 p.burst) := BP5.out.cell 3
                have k4 : W5.cell? ⟨bp, 4, none⟩ = some (.int .i64 p.cap) := BP5.out.cell 4
                have k5 : W5.cell? ⟨bp, 5, none⟩ = some (.bool p.opn) := BP5.out.cell 5
                have ks0 : W5.cell? ⟨bs, 0, none⟩ = some (.int .i64 (s).tm) := BS5.out.cell 0
                have ks1 : W5.cell? ⟨bs, 1, none⟩ = some (.int .i64 (s).level) := BS5.out.cell 1
                have ks2 : W5.cell? ⟨bs, 2, none⟩ = some (.int .i64 (s).held) := BS5.out.cell 2
                have ks3 : W5.cell? ⟨bs, 3, none⟩ = some (.slice A' (s).log.length cap') := BS5.out.cell 3
                have kf0 := BS5.out.free 0
                have kf1 := BS5.out.free 1
                have kf2 := BS5.out.free 2
                have kf3 := BS5.out.free 3
                have ka0 : W5.cell? ⟨wr.heap.size, 0, none⟩ = some (.int .i64 1) := BA5.out.cell 0
                have ka1 : W5.cell? ⟨wr.heap.size, 1, none⟩ = some (.int .i64 L[k].2.1) := BA5.out.cell 1
                have ka2 : W5.cell? ⟨wr.heap.size, 2, none⟩ = some (.int .i64 L[k].2.2) := BA5.out.cell 2
                have kt0 : W5.cell? ⟨bt, 0, none⟩ = some (.int .i64 t.tm) := BT5.out.cell 0
                have kt1 : W5.cell? ⟨bt, 1, none⟩ = some (.int .i64 t.level) := BT5.out.cell 1
                have kt2 : W5.cell? ⟨bt, 2, none⟩ = some (.int .i64 t.held) := BT5.out.cell 2
                have kt3 : W5.cell? ⟨bt, 3, none⟩ = some (.slice A3 t.log.length cap3) := BT5.out.cell 3
                have zt5 := BT5.out.lt
                have za5 := BA5.out.lt
                have WF := Lib.hid (show Below w.heap.size w ((((W5.setCell ⟨bs, 0, none⟩ (.int .i64 t.tm)).setCell ⟨bs, 1, none⟩ (.int .i64 t.level)).setCell ⟨bs, 2, none⟩ (.int .i64 t.held)).setCell ⟨bs, 3, none⟩ (.slice A3 t.log.length cap3)) from below_set4 HB5.out hzbs _ _ _ _)
                have WP := Lib.hid (BP5.out.far4 (Nat.ne_of_lt hbps) (.int .i64 t.tm) (.int .i64 t.level) (.int .i64 t.held) (.slice A3 t.log.length cap3))
                have WS := Lib.hid (BS5.out.set4 (.int .i64 t.tm) (.int .i64 t.level) (.int .i64 t.held) (.slice A3 t.log.length cap3))
                have WA := Lib.hid (BA5.out.far4 zn2 (.int .i64 t.tm) (.int .i64 t.level) (.int .i64 t.held) (.slice A3 t.log.length cap3))
                have WL := Lib.hid (HS5.out.far4 BS5.out (.int .i64 t.tm) (.int .i64 t.level) (.int .i64 t.held) (.slice A3 t.log.length cap3))
                have WI := Lib.hid (IA5.out.far4 BS5.out (.int .i64 t.tm) (.int .i64 t.level) (.int .i64 t.held) (.slice A3 t.log.length cap3))
                have WC := Lib.hid (IC5.out.far4 BS5.out (.int .i64 t.tm) (.int .i64 t.level) (.int .i64 t.held) (.slice A3 t.log.length cap3))
                have HTS := Lib.hid (show t = s by have h := rem_not HR.out.1 (n := L[k].2.1) (c := L[k].2.2) (by rw [HACT.out]); rw [HACT.out] at h; exact h)
                go_wp2_with fail
                go_roundg (gk - 1)
                case rel => exact ⟨k + 1, t, A3, cap3, G, by omega, by have := HG.out; omega, by go_num, (by rw [HTS.out]; exact ⟨HR.out.1, HR.out.2.1, HR.out.2.2.1, HR.out.2.2.2.1, Nat.le_succ_of_le HR.out.2.2.2.2.1, Nat.le_succ_of_le HR.out.2.2.2.2.2.1, HR.out.2.2.2.2.2.2⟩), ⟨WF.out, WP.out, WS.out, WL.out⟩, WI.out, WC.out, HAPT.out⟩
                case measure => have := HG.out; omega
            · have his : is = false := by
                cases is with
                | false => rfl
                | true =>
                  exfalso
                  by_cases hw : wi L[k].2.2 1 (grt p (adv p s L[k].2.1) 1) = true
                  · exact hc1 (wi_yes hw).1
                  · have h := HACT.out; rw [act_no HR.out.1 hw] at h; exact absurd (congrArg Prod.snd h) (by simp)
              subst his
              have g1 : decide (1 ≤ L[k].2.2) = false := by simp; omega
              have BP5 := Lib.hid (BP4.out.drewN n0)
              have BS5 := Lib.hid (BS4.out.drewN n0)
              have BA5 := Lib.hid (BA4.out.drewN n0)
              have BT5 := Lib.hid (BT4.out.drewN n0)
              have IA5 := Lib.hid (Ints.keep IA4.out (below_drewN (Below.refl _ _) n0))
              have IC5 := Lib.hid (Ints.keep IC4.out (below_drewN (Below.refl _ _) n0))
              have HB5 := Lib.hid (below_drewN HB4.out n0)
              have HS5 := Lib.hid (Sl.keep HS4.out (below_drewN (Below.refl _ _) n0))
              clear w4p2 hc1
              generalize W4.drewN n0 = W5 at BP5 BS5 BA5 BT5 IA5 IC5 HB5 HS5 ⊢
              have k0 : W5.cell? ⟨bp, 0, none⟩ = some (.int .i64 p.kind) := BP5.out.cell 0
              have k1 : W5.cell? ⟨bp, 1, none⟩ = some (.int .i64 p.limit) := BP5.out.cell 1
              have k2 : W5.cell? ⟨bp, 2, none⟩ = some (.int .i64 p.period) := BP5.out.cell 2
              have k3 : W5.cell? ⟨bp, 3, none⟩ = some (.int .i64 p.burst) := BP5.out.cell 3
              have k4 : W5.cell? ⟨bp, 4, none⟩ = some (.int .i64 p.cap) := BP5.out.cell 4
              have k5 : W5.cell? ⟨bp, 5, none⟩ = some (.bool p.opn) := BP5.out.cell 5
              have ks0 : W5.cell? ⟨bs, 0, none⟩ = some (.int .i64 (s).tm) := BS5.out.cell 0
              have ks1 : W5.cell? ⟨bs, 1, none⟩ = some (.int .i64 (s).level) := BS5.out.cell 1
              have ks2 : W5.cell? ⟨bs, 2, none⟩ = some (.int .i64 (s).held) := BS5.out.cell 2
              have ks3 : W5.cell? ⟨bs, 3, none⟩ = some (.slice A' (s).log.length cap') := BS5.out.cell 3
              have kf0 := BS5.out.free 0
              have kf1 := BS5.out.free 1
              have kf2 := BS5.out.free 2
              have kf3 := BS5.out.free 3
              have ka0 : W5.cell? ⟨wr.heap.size, 0, none⟩ = some (.int .i64 1) := BA5.out.cell 0
              have ka1 : W5.cell? ⟨wr.heap.size, 1, none⟩ = some (.int .i64 L[k].2.1) := BA5.out.cell 1
              have ka2 : W5.cell? ⟨wr.heap.size, 2, none⟩ = some (.int .i64 L[k].2.2) := BA5.out.cell 2
              have kt0 : W5.cell? ⟨bt, 0, none⟩ = some (.int .i64 t.tm) := BT5.out.cell 0
              have kt1 : W5.cell? ⟨bt, 1, none⟩ = some (.int .i64 t.level) := BT5.out.cell 1
              have kt2 : W5.cell? ⟨bt, 2, none⟩ = some (.int .i64 t.held) := BT5.out.cell 2
              have kt3 : W5.cell? ⟨bt, 3, none⟩ = some (.slice A3 t.log.length cap3) := BT5.out.cell 3
              have zt5 := BT5.out.lt
              have za5 := BA5.out.lt
              have WF := Lib.hid (show Below w.heap.size w ((((W5.setCell ⟨bs, 0, none⟩ (.int .i64 t.tm)).setCell ⟨bs, 1, none⟩ (.int .i64 t.level)).setCell ⟨bs, 2, none⟩ (.int .i64 t.held)).setCell ⟨bs, 3, none⟩ (.slice A3 t.log.length cap3)) from below_set4 HB5.out hzbs _ _ _ _)
              have WP := Lib.hid (BP5.out.far4 (Nat.ne_of_lt hbps) (.int .i64 t.tm) (.int .i64 t.level) (.int .i64 t.held) (.slice A3 t.log.length cap3))
              have WS := Lib.hid (BS5.out.set4 (.int .i64 t.tm) (.int .i64 t.level) (.int .i64 t.held) (.slice A3 t.log.length cap3))
              have WA := Lib.hid (BA5.out.far4 zn2 (.int .i64 t.tm) (.int .i64 t.level) (.int .i64 t.held) (.slice A3 t.log.length cap3))
              have WL := Lib.hid (HS5.out.far4 BS5.out (.int .i64 t.tm) (.int .i64 t.level) (.int .i64 t.held) (.slice A3 t.log.length cap3))
              have WI := Lib.hid (IA5.out.far4 BS5.out (.int .i64 t.tm) (.int .i64 t.level) (.int .i64 t.held) (.slice A3 t.log.length cap3))
              have WC := Lib.hid (IC5.out.far4 BS5.out (.int .i64 t.tm) (.int .i64 t.level) (.int .i64 t.held) (.slice A3 t.log.length cap3))
              have HTS := Lib.hid (show t = s by have h := rem_not HR.out.1 (n := L[k].2.1) (c := L[k].2.2) (by rw [HACT.out]); rw [HACT.out] at h; exact h)
              go_wp2_with fail
              go_roundg (gk - 1)
              case rel => exact ⟨k + 1, t, A3, cap3, G, by omega, by have := HG.out; omega, by go_num, (by rw [HTS.out]; exact ⟨HR.out.1, HR.out.2.1, HR.out.2.2.1, HR.out.2.2.2.1, Nat.le_succ_of_le HR.out.2.2.2.2.1, Nat.le_succ_of_le HR.out.2.2.2.2.2.1, HR.out.2.2.2.2.2.2⟩), ⟨WF.out, WP.out, WS.out, WL.out⟩, WI.out, WC.out, HAPT.out⟩
              case measure => have := HG.out; omega
      · have hkl : k = L.length := by omega
        clear hkl
        go_wp2_with fail
        refine (known_calls _).mono ?_
        rintro e w9 ⟨rfl, hb9⟩
        have HB9 := Lib.hid (HBr.out.trans (hb9.mono hz0))
        clear hb9
        go_wp2_with fail
        go_ret
        exact ⟨rfl, HB9.out⟩
  · go_enter Try.func8, Try.ntmps8
    go_wp2_with fail
    refine (small_no hs A cap _).mono ?_
    rintro e w1 ⟨rfl, rfl⟩
    go_wp2_with fail
    refine (known_calls _).mono ?_
    rintro e w1 ⟨rfl, hb1⟩
    have HB1 := Lib.hid hb1
    clear hb1
    go_wp2_with fail
    go_ret
    exact ⟨rfl, HB1.out⟩

end Wn
end Go.Proofs.Ytljaemiggeeghaa
