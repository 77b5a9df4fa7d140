/-
  The walk of the law CounterEnvelope.
-/
import Derived.Test.YtikfjdpkjifcdaaCtrKnown
import Derived.Test.YtikfjdpkjifcdaaCtrEnvM
import Derived.Deep.DrawnRows
namespace Go.Proofs.Ytikfjdpkjifcdaa
open Go.RowKit
attribute [local go_sem ↓] Go.wp_at_zero Go.wp_at_succ
namespace Wn

theorem apart_swap {a c : Option Nat} (h : a = none ∨ a ≠ c) : c = none ∨ c ≠ a := by
  rcases h with rfl | h
  · cases c <;> simp
  · exact .inr (Ne.symm h)
theorem apart_first {a0 a1 c0 : Option Nat} {n : Nat} (h0 : a0 = none ∨ a0 ≠ c0) (h1 : a1 = a0 ∨ a1 = some n) (hc : ∀ q, c0 = some q → q < n) : a1 = none ∨ a1 ≠ c0 := by
  rcases h1 with rfl | rfl
  · exact h0
  · exact .inr fun e => by have := hc n e.symm; omega
theorem apart_grown {a0 a1 c0 c1 : Option Nat} {n m : Nat} (h0 : a0 = none ∨ a0 ≠ c0) (h1 : a1 = a0 ∨ a1 = some n) (h2 : c1 = c0 ∨ c1 = some m) (hc : ∀ q, c0 = some q → q < n) (ha : ∀ q, a1 = some q → q < m) : a1 = none ∨ a1 ≠ c1 := by
  rcases h2 with rfl | rfl
  · exact apart_first h0 h1 hc
  · exact .inr fun e => by have := ha m e; omega

set_option maxHeartbeats 32000000 in
set_option maxRecDepth 100000 in
theorem envelope_law (limit period nn : Int) (h1 : 0 ≤ limit ∧ limit < 65536) (h2 : 0 ≤ period ∧ period < 65536) (A : Option Addr) (cap : Nat) (L : List (Int × Int × Int)) (w : World) (hA : Acts w A L) :
    Calls Try.prog 7 #[.int .u16 limit, .int .u16 period, .int .u16 nn, .slice A L.length cap] w fun e w' => e = .returned (.bool true) ∧ Below w.heap.size w w' := by
  have HA := Lib.hid hA
  clear hA
  by_cases hs : L.length ≤ 60
  · obtain ⟨p, hp⟩ : ∃ p, ofP limit period = p := ⟨_, rfl⟩
    obtain ⟨s0, hs0⟩ : ∃ s0, new p 0 = s0 := ⟨_, rfl⟩
    have HP := Lib.hid hp
    have HS0 := Lib.hid hs0
    have HK0 := Lib.hid (show Ok p s0 by rw [← hs0]; exact ok_new (by rw [← hp]; exact chk_ofP h1 h2) 0)
    have HL0 := Lib.hid (show s0.log = [] by rw [← hs0]; exact new_log p 0)
    clear hp hs0
    go_enter Try.func7, Try.ntmps7
    go_wp2_with fail
    refine (small_yes hs A cap _).mono ?_
    rintro e w1 ⟨rfl, rfl⟩
    go_wp2_with fail
    refine (of_at HP.out h1 h2 _).mono ?_
    rintro e w1 ⟨rfl, hb1⟩
    have HB1 := Lib.hid hb1
    have z1 := hb1.size
    clear hb1
    go_wp2_with fail
    refine (new_at HS0.out _).mono ?_
    rintro e w2 ⟨rfl, hb2⟩
    have HBP := Lib.hid ((Box.new w1 23 (pcells p)).keep hb2)
    have HB2 := Lib.hid ((HB1.out.alloc z1 _).trans (hb2.mono (Nat.le_trans z1 (below_lt1 w1 _))))
    have z2 : w.heap.size ≤ w2.heap.size := HB2.out.size
    have hbp : w1.heap.size < w2.heap.size := HBP.out.lt
    have HW1 := Lib.hid hb2
    clear hb2
    obtain ⟨bp, ebp⟩ : ∃ b, w1.heap.size = b := ⟨_, rfl⟩
    obtain ⟨bs, ebs⟩ : ∃ b, w2.heap.size = b := ⟨_, rfl⟩
    have HBP := Lib.hid (show Box w2 bp 23 (pcells p) by rw [← ebp]; exact HBP.out)
    go_wp2_with fail
    have hzbs : w.heap.size ≤ bs := by rw [← ebs]; exact z2
    have hbps : bp < bs := by rw [← ebp, ← ebs]; exact hbp
    go_loopg [11, 12, 13] L.length (fun g va vc i wr => ∃ (k : Nat) (s : St) (A' : Option Addr) (cap' : Nat) (G : List (Int × Int)), k ≤ L.length ∧ g = L.length - k ∧ i = .int .i64 k ∧ Hid (Ok p s ∧ Rem p s G ∧ Env p G ∧ G.length ≤ k) ∧ Hid (At w wr bp bs p s A' cap') ∧ Hid (Ints wr w.heap.size va (G.map (·.1)) ∧ Ints wr w.heap.size vc (G.map (·.2)) ∧ (va.ownBlock = none ∨ va.ownBlock ≠ vc.ownBlock)))
    case atStart => exact ⟨0, s0, none, 0, [], Nat.zero_le _, rfl, rfl, ⟨HK0.out, (by rw [← HS0.out]; exact rem_new p 0), env_nil (by have := HK0.out.lim; omega), Nat.zero_le _⟩, ⟨HB2.out.alloc z2 _, HBP.out.alloc _, (by rw [HL0.out, ← ebs]; exact Box.new _ _ _), (by rw [HL0.out]; exact Sl.nil _ _)⟩, Ints.nil _ _, Ints.nil _ _, .inl rfl⟩
    case round =>
      obtain ⟨k, s, A', cap', G, hk, hg, rfl, HR, HT, HI⟩ := hrel
      have HG := Lib.hid hg
      obtain ⟨hBr, rp, rs, hSl⟩ := HT.out
      have RP := Lib.hid rp
      have RS := Lib.hid rs
      have HBr := Lib.hid hBr
      have hz0 : w.heap.size ≤ wr.heap.size := hBr.size
      have HAr := Lib.hid (HA.out.keep hBr)
      have HSl := Lib.hid hSl
      have HT := Lib.hid HT
      clear hg hBr hSl
      have p0 : wr.cell? ⟨bp, 0, none⟩ = some (.int .i64 p.kind) := rp.cell 0
      have p1 : wr.cell? ⟨bp, 1, none⟩ = some (.int .i64 p.limit) := rp.cell 1
      have p2 : wr.cell? ⟨bp, 2, none⟩ = some (.int .i64 p.period) := rp.cell 2
      have p3 : wr.cell? ⟨bp, 3, none⟩ = some (.int .i64 p.burst) := rp.cell 3
      have p4 : wr.cell? ⟨bp, 4, none⟩ = some (.int .i64 p.cap) := rp.cell 4
      have p5 : wr.cell? ⟨bp, 5, none⟩ = some (.bool p.opn) := rp.cell 5
      have ts0 : wr.cell? ⟨bs, 0, none⟩ = some (.int .i64 (s).tm) := rs.cell 0
      have ts1 : wr.cell? ⟨bs, 1, none⟩ = some (.int .i64 (s).level) := rs.cell 1
      have ts2 : wr.cell? ⟨bs, 2, none⟩ = some (.int .i64 (s).held) := rs.cell 2
      have ts3 : wr.cell? ⟨bs, 3, none⟩ = some (.slice A' (s).log.length cap') := rs.cell 3
      have zp := rp.lt
      have zs := rs.lt
      clear rp rs
      by_cases hlt : k < L.length
      · obtain ⟨a, rfl, c1, c2, c3⟩ := HAr.out.at_ hlt
        have zn1 : ¬ (wr.heap.size = bp) := by omega
        have zn2 : ¬ (wr.heap.size = bs) := by omega
        have zn3 : ¬ (wr.heap.size = (a.add (k * 3)).block) := fun h => by have := World.block_lt_of_cell? wr _ c1; omega
        have i1 : (k : Int) < (L.length : Int) := by omega
        go_wp2_with fail
        obtain ⟨t, is, hact⟩ : ∃ t is, act p s 1 L[k].2.1 L[k].2.2 = (t, is) := ⟨_, _, rfl⟩
        have HACT := Lib.hid hact
        clear hact
        refine (do_is HACT.out 0 A' cap' _ (HSl.out.alloc _)).mono ?_
        rintro e w3 ⟨A3, cap3, rfl, hS3, hb3⟩
        have rp3 := Box.keep (Box.alloc RP.out _) hb3
        have rs3 := Box.keep (Box.alloc RS.out _) hb3
        have ra3 := Box.keep (Box.new wr 38 (acells 1 L[k].2.1 L[k].2.2)) hb3
        have ia3 := Ints.keep (Ints.alloc HI.out.1 _) hb3
        have ic3 := Ints.keep (Ints.alloc HI.out.2.1 _) hb3
        have hB3 := (HBr.out.alloc hz0 _).trans (hb3.mono (Nat.le_trans hz0 (below_lt1 wr _)))
        have tu0 : w3.cell? ⟨bs, 0, none⟩ = some (.int .i64 (s).tm) := rs3.cell 0
        have tu1 : w3.cell? ⟨bs, 1, none⟩ = some (.int .i64 (s).level) := rs3.cell 1
        have tu2 : w3.cell? ⟨bs, 2, none⟩ = some (.int .i64 (s).held) := rs3.cell 2
        have tu3 : w3.cell? ⟨bs, 3, none⟩ = some (.slice A' (s).log.length cap') := rs3.cell 3
        have tf0 := rs3.free 0
        have tf1 := rs3.free 1
        have tf2 := rs3.free 2
        have tf3 := rs3.free 3
        have zs3 := rs3.lt
        have za3 := ra3.lt
        have RP3 := Lib.hid rp3
        have RS3 := Lib.hid rs3
        have RA3 := Lib.hid ra3
        have IA3 := Lib.hid ia3
        have IC3 := Lib.hid ic3
        have HB3 := Lib.hid hB3
        have HS3 := Lib.hid hS3
        clear rp3 rs3 ra3 ia3 ic3 hB3 hS3 hb3 p0 p1 p2 p3 p4 p5 ts0 ts1 ts2 ts3 c1 c2 c3
        have hok := HR.out.1
        have HT1 := Lib.hid (show Ok p t by have := act_ok hok 1 L[k].2.1 L[k].2.2; rw [HACT.out] at this; exact this)
        have W5f : Below w.heap.size w (((((w3.setCell ⟨bs, 0, none⟩ (.int .i64 t.tm)).setCell ⟨bs, 1, none⟩ (.int .i64 t.level)).setCell ⟨bs, 2, none⟩ (.int .i64 t.held)).setCell ⟨bs, 3, none⟩ (.slice A3 t.log.length cap3)).alloc (.cells #[.int .i64 t.tm, .int .i64 t.level, .int .i64 t.held, .slice A3 t.log.length cap3] 32)) := (below_set4 HB3.out hzbs _ _ _ _).alloc (below_set4 HB3.out hzbs _ _ _ _).size _
        have W5p := (RP3.out.far4 (Nat.ne_of_lt hbps) (.int .i64 t.tm) (.int .i64 t.level) (.int .i64 t.held) (.slice A3 t.log.length cap3)).alloc (.cells #[.int .i64 t.tm, .int .i64 t.level, .int .i64 t.held, .slice A3 t.log.length cap3] 32)
        have W5s := (RS3.out.set4 (.int .i64 t.tm) (.int .i64 t.level) (.int .i64 t.held) (.slice A3 t.log.length cap3)).alloc (.cells #[.int .i64 t.tm, .int .i64 t.level, .int .i64 t.held, .slice A3 t.log.length cap3] 32)
        have W5a := (RA3.out.far4 zn2 (.int .i64 t.tm) (.int .i64 t.level) (.int .i64 t.held) (.slice A3 t.log.length cap3)).alloc (.cells #[.int .i64 t.tm, .int .i64 t.level, .int .i64 t.held, .slice A3 t.log.length cap3] 32)
        have W5l := ((HS3.out.mono (Nat.zero_le _)).far4 RS3.out (.int .i64 t.tm) (.int .i64 t.level) (.int .i64 t.held) (.slice A3 t.log.length cap3)).alloc (.cells #[.int .i64 t.tm, .int .i64 t.level, .int .i64 t.held, .slice A3 t.log.length cap3] 32)
        have W5i := (IA3.out.far4 RS3.out (.int .i64 t.tm) (.int .i64 t.level) (.int .i64 t.held) (.slice A3 t.log.length cap3)).alloc (.cells #[.int .i64 t.tm, .int .i64 t.level, .int .i64 t.held, .slice A3 t.log.length cap3] 32)
        have W5c := (IC3.out.far4 RS3.out (.int .i64 t.tm) (.int .i64 t.level) (.int .i64 t.held) (.slice A3 t.log.length cap3)).alloc (.cells #[.int .i64 t.tm, .int .i64 t.level, .int .i64 t.held, .slice A3 t.log.length cap3] 32)
        have WF := Lib.hid W5f
        have WP := Lib.hid W5p
        have WS := Lib.hid W5s
        have WA := Lib.hid W5a
        have WL := Lib.hid W5l
        have WI := Lib.hid W5i
        have WC := Lib.hid W5c
        clear W5f W5p W5s W5a W5l W5i W5c hok
        cases is with
        | false =>
          have hts : t = s := by have h := rem_not HR.out.1 (n := L[k].2.1) (c := L[k].2.2) (by rw [HACT.out]); rw [HACT.out] at h; exact h
          have HTS := Lib.hid hts
          clear hts
          go_wp2_with fail
          go_roundg (gk - 1)
          case rel => exact ⟨k + 1, t, A3, cap3, G, by omega, by have := HG.out; omega, by go_num, (by rw [HTS.out]; exact ⟨HR.out.1, HR.out.2.1, HR.out.2.2.1, Nat.le_succ_of_le HR.out.2.2.2⟩), ⟨WF.out, WP.out, WS.out, WL.out⟩, WI.out, WC.out, HI.out.2.2⟩
          case measure => have := HG.out; omega
        | true =>
          have hgl := HR.out.2.2.2
          have hrt := rem_take HR.out.1 HR.out.2.1 (n := L[k].2.1) (c := L[k].2.2) (by rw [HACT.out])
          rw [HACT.out] at hrt
          have hc2 : L[k].2.2 ≤ 1048576 := by
            by_cases hw : wi L[k].2.2 1 (grt p (adv p s L[k].2.1) 1) = true
            · have h5 := (wi_yes hw).2
              have h6 := grt_le (HR.out.1.adv L[k].2.1) 1
              have h7 := HR.out.1.lim
              omega
            · have h := HACT.out; rw [act_no HR.out.1 hw] at h; exact absurd (congrArg Prod.snd h) (by simp)
          have HRN := Lib.hid (show Ok p t ∧ Rem p t (G ++ [(t.tm, L[k].2.2)]) ∧ Env p (G ++ [(t.tm, L[k].2.2)]) ∧ (G ++ [(t.tm, L[k].2.2)]).length ≤ k + 1 from ⟨HT1.out, hrt.1, env_snoc HT1.out HR.out.2.2.1 hrt.1 hrt.2 hc2, by simp; omega⟩)
          clear hrt hc2
          go_upto_region 15 with (fail)
          generalize (((((w3.setCell ⟨bs, 0, none⟩ (.int .i64 t.tm)).setCell ⟨bs, 1, none⟩ (.int .i64 t.level)).setCell ⟨bs, 2, none⟩ (.int .i64 t.held)).setCell ⟨bs, 3, none⟩ (.slice A3 t.log.length cap3)).alloc (.cells #[.int .i64 t.tm, .int .i64 t.level, .int .i64 t.held, .slice A3 t.log.length cap3] 32)) = W5 at WF WP WS WA WL WI WC ⊢
          have y0 : W5.cell? ⟨bs, 0, none⟩ = some (.int .i64 t.tm) := WS.out.cell 0
          have hWz : w.heap.size ≤ W5.heap.size := WF.out.size
          have hlG : (G.map (·.1)).length ≤ 1000 := by simp; omega
          have hlG2 : (G.map (·.2)).length ≤ 1000 := by simp; omega
          go_wp2_with (at_builtin; refine wpList_append_int rfl _ _ rfl w.heap.size _ (G.map (·.1)) rfl (WI.out.alloc _) W5.heap.size t.tm rfl (heap_alloc_new W5 _) hlG (Nat.le_trans hWz (below_lt1 W5 _)) ?_)
          intro va1 W6 hi6 hgr6 hblk6
          have HBW := Lib.hid ((WF.out.alloc hWz _).grown hgr6 (Nat.le_trans hWz (below_lt1 W5 _)) (fun q hq => (World.ownsRow.lt WI.out q hq).1))
          have HP6 := Lib.hid ((WP.out.alloc _).grown (WI.out.alloc _) (by decide) hgr6)
          have HSB6 := Lib.hid ((WS.out.alloc _).grown (WI.out.alloc _) (by decide) hgr6)
          have ha6 := (WA.out.alloc _).grown (WI.out.alloc _) (by decide) hgr6
          have HL6 := Lib.hid ((WL.out.alloc _).grown (WI.out.alloc _) hgr6)
          have HC6 := Lib.hid (Ints.grownOther (WC.out.alloc _) hgr6 (apart_swap HI.out.2.2))
          have HI6 := Lib.hid hi6
          have HBL6 := Lib.hid hblk6
          have HCL := Lib.hid (fun q hq => (World.ownsRow.lt WC.out q hq).2)
          have y2 : W6.cell? ⟨wr.heap.size, 2, none⟩ = some (.int .i64 L[k].2.2) := ha6.cell 2
          have hWz6 : w.heap.size ≤ W6.heap.size := HBW.out.size
          clear hi6 hgr6 hblk6 ha6
          go_wp2_with (at_builtin; refine wpList_append_int rfl _ _ rfl w.heap.size _ (G.map (·.2)) rfl (HC6.out.alloc _) W6.heap.size L[k].2.2 rfl (heap_alloc_new W6 _) hlG2 (Nat.le_trans hWz6 (below_lt1 W6 _)) ?_)
          intro vc1 W7 hc7 hgr7 hblk7
          have HAP := Lib.hid (apart_grown HI.out.2.2 HBL6.out hblk7 (fun q hq => Nat.lt_succ_of_lt (HCL.out q hq)) (fun q hq => Nat.lt_succ_of_lt (World.ownsRow.lt HI6.out q hq).2))
          have hne7 : va1.ownBlock = none ∨ va1.ownBlock ≠ Value.ownBlock _ := apart_first HI.out.2.2 HBL6.out (fun q hq => Nat.lt_succ_of_lt (HCL.out q hq))
          have HA7 := Lib.hid (show At w W7 bp bs p t A3 cap3 from ⟨(HBW.out.alloc hWz6 _).grown hgr7 (Nat.le_trans hWz6 (below_lt1 W6 _)) (fun q hq => (World.ownsRow.lt HC6.out q hq).1), (HP6.out.alloc _).grown (HC6.out.alloc _) (by decide) hgr7, (HSB6.out.alloc _).grown (HC6.out.alloc _) (by decide) hgr7, (HL6.out.alloc _).grown (HC6.out.alloc _) hgr7⟩)
          have HI7 := Lib.hid (Ints.grownOther (HI6.out.alloc _) hgr7 hne7)
          have HC7 := Lib.hid hc7
          clear hc7 hgr7 hblk7 hne7
          go_wp2_with fail
          go_roundg (gk - 1)
          case rel => exact ⟨k + 1, t, A3, cap3, G ++ [(t.tm, L[k].2.2)], by omega, by have := HG.out; omega, by go_num, HRN.out, HA7.out, by rw [List.map_append]; exact HI7.out, by rw [List.map_append]; exact HC7.out, HAP.out⟩
          case measure => have := HG.out; omega
      · have hkl : k = L.length := by omega
        clear hkl
        obtain ⟨VA, ca, hve, hva⟩ := HI.out.1.view
        obtain ⟨VC, cc, hve2, hvc⟩ := HI.out.2.1.view
        rw [List.length_map] at hve hve2
        subst hve hve2
        have hva' : ∀ i (hi : i < G.length), ∃ a : Addr, VA = some a ∧ wr.cell? (a.add i) = some (.int .i64 G[i].1) := fun i hi => by
          obtain ⟨a, e, h⟩ := hva i (by simpa using hi); exact ⟨a, e, by simpa using h⟩
        have hvc' : ∀ i (hi : i < G.length), ∃ a : Addr, VC = some a ∧ wr.cell? (a.add i) = some (.int .i64 G[i].2) := fun i hi => by
          obtain ⟨a, e, h⟩ := hvc i (by simpa using hi); exact ⟨a, e, by simpa using h⟩
        have HVA := Lib.hid hva'
        have HVC := Lib.hid hvc'
        have HE := Lib.hid HR.out.2.2.1
        have hGl : G.length ≤ 60 := by have := HR.out.2.2.2; omega
        have HTM := Lib.hid HR.out.2.1.2
        have htm1 := HR.out.1.tm1
        have hlm := HR.out.1.lim
        have hpr := HR.out.1.per
        clear hva hvc hva' hvc'
        go_wp2_with fail
        go_loopw [17] (fun i wx => ∃ i0 n : Nat, i0 ≤ G.length ∧ i = .int .i64 i0 ∧ wx = wr.drewN n) (fun i _ => G.length - (intOf i).toNat)
        case atStart => exact ⟨0, 0, Nat.zero_le _, rfl, rfl⟩
        case round =>
          obtain ⟨i0, n0, hi0, rfl, rfl⟩ := hrel
          by_cases hil : i0 < G.length
          · obtain ⟨aa, rfl, ci⟩ := HVA.out i0 hil
            go_wp2_with fail
            go_loopg [18, 19] (G.length - i0) (fun g sm kk wx => ∃ j n : Nat, i0 ≤ j ∧ j ≤ G.length ∧ g = G.length - j ∧ kk = .int .i64 j ∧ sm = .int .i64 (tot ((G.take j).drop i0)) ∧ wx = wr.drewN n)
            case atStart => exact ⟨i0, n0, Nat.le_refl _, by omega, rfl, rfl, val_int (by rw [List.drop_eq_nil_of_le (by rw [List.length_take]; omega)]; rfl), rfl⟩
            case round =>
              obtain ⟨j, n1, hij, hjg, hgk, rfl, rfl, rfl⟩ := hrel
              have HGK := Lib.hid hgk
              clear hgk
              by_cases hjl : j < G.length
              · obtain ⟨ab, hab, cj⟩ := HVA.out j hjl
                injection hab with hab
                subst hab
                obtain ⟨ac, rfl, cjc⟩ := HVC.out j hjl
                have bj := HE.out.cost _ (List.getElem_mem hjl)
                have tj := HTM.out _ (List.getElem_mem hjl)
                have ti := HTM.out _ (List.getElem_mem hil)
                have lj := HE.out.low _ (List.getElem_mem hjl)
                have li := HE.out.low _ (List.getElem_mem hil)
                have bt := tot_bounds (l := (G.take j).drop i0) (fun e he => HE.out.cost e (List.mem_of_mem_take (List.mem_of_mem_drop he)))
                have bl : (((G.take j).drop i0).length : Int) ≤ 60 := by rw [List.length_drop, List.length_take]; omega
                have TS := Lib.hid (tot_span G hij hjl)
                have ii : (i0 : Int) < (G.length : Int) := by omega
                have jj : (j : Int) < (G.length : Int) := by omega
                have hq0 : ∀ h : G[j].1 / p.period = G[i0].1 / p.period, tot ((G.take j).drop i0) + G[j].2 ≤ p.limit := fun h => by have := env_same hpr.1 HE.out hjl hij h; rw [TS.out] at this; exact this
                have hq1 : ∀ h : G[j].1 - G[i0].1 < p.period, tot ((G.take j).drop i0) + G[j].2 ≤ 2 * p.limit := fun h => by have := env_twice hpr.1 HE.out hjl hij h; rw [TS.out] at this; exact this
                have HQ0 := Lib.hid hq0
                have HQ1 := Lib.hid hq1
                clear hq0 hq1
                by_cases hq : G[j].1 / p.period = G[i0].1 / p.period
                · have hs1 := HQ0.out hq
                  have hqb : (G[j].1 / p.period == G[i0].1 / p.period) = true := by simpa using hq
                  clear hq
                  have hl1 : decide (p.limit < tot ((G.take j).drop i0) + G[j].2) = false := by simp; omega
                  have hl2 : decide (2 * p.limit < tot ((G.take j).drop i0) + G[j].2) = false := by simp; omega
                  by_cases hper : G[j].1 - G[i0].1 < p.period
                  · skip
                    go_wp2_with fail
                    go_quiet (fail)
                    go_wp2_with fail
                    go_roundg (gk - 1)
                    case rel => exact ⟨j + 1, n1 + nq, by omega, by omega, by have := HGK.out; omega, by go_num, val_int TS.out.symm, rfl⟩
                    case measure => have := HGK.out; omega
                  · have hpf : decide (G[j].1 - G[i0].1 < p.period) = false := by simp; omega
                    go_wp2_with fail
                    go_quiet (fail)
                    go_wp2_with fail
                    go_roundg (gk - 1)
                    case rel => exact ⟨j + 1, n1 + nq, by omega, by omega, by have := HGK.out; omega, by go_num, val_int TS.out.symm, rfl⟩
                    case measure => have := HGK.out; omega
                · have hqb : (G[j].1 / p.period == G[i0].1 / p.period) = false := by simpa using hq
                  clear hq
                  by_cases hper : G[j].1 - G[i0].1 < p.period
                  · have hs2 := HQ1.out hper
                    have hl2 : decide (2 * p.limit < tot ((G.take j).drop i0) + G[j].2) = false := by simp; omega
                    go_wp2_with fail
                    go_quiet (fail)
                    go_wp2_with fail
                    go_roundg (gk - 1)
                    case rel => exact ⟨j + 1, n1 + nq, by omega, by omega, by have := HGK.out; omega, by go_num, val_int TS.out.symm, rfl⟩
                    case measure => have := HGK.out; omega
                  · have hpf : decide (G[j].1 - G[i0].1 < p.period) = false := by simp; omega
                    go_wp2_with fail
                    go_quiet (fail)
                    go_wp2_with fail
                    go_roundg (gk - 1)
                    case rel => exact ⟨j + 1, n1 + nq, by omega, by omega, by have := HGK.out; omega, by go_num, val_int TS.out.symm, rfl⟩
                    case measure => have := HGK.out; omega
              · go_wp2_with fail
                go_roundw
                case rel => exact ⟨i0 + 1, n1, by omega, by go_num, rfl⟩
                case measure => simp [intOf]; omega
          · go_wp2_with fail
            refine (known_calls _).mono ?_
            rintro e w9 ⟨rfl, hb9⟩
            have HB9 := Lib.hid ((below_drewN HBr.out n0).trans (hb9.mono hz0))
            clear hb9
            go_wp2_with fail
            go_ret
            exact ⟨rfl, HB9.out⟩
  · go_enter Try.func7, Try.ntmps7
    go_wp2_with fail
    refine (small_no hs A cap _).mono ?_
    rintro e w1 ⟨rfl, rfl⟩
    go_wp2_with fail
    refine (known_calls _).mono ?_
    rintro e w1 ⟨rfl, hb1⟩
    have HB1 := Lib.hid hb1
    clear hb1
    go_wp2_with fail
    go_ret
    exact ⟨rfl, HB1.out⟩

end Wn
end Go.Proofs.Ytikfjdpkjifcdaa
