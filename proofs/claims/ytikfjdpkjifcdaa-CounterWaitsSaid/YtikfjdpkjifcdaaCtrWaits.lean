/-
  The walk of the law CounterWaits.
-/
import Derived.Test.YtikfjdpkjifcdaaCtrKnown
import Derived.Test.YtikfjdpkjifcdaaCtrMore
import Derived.Deep.DrawnRows
namespace Go.Proofs.Ytikfjdpkjifcdaa
open Go.RowKit
attribute [local go_sem ↓] Go.wp_at_zero Go.wp_at_succ
namespace Wn

set_option maxHeartbeats 32000000 in
set_option maxRecDepth 100000 in
theorem waits_law (limit period : Int) (h1 : 0 ≤ limit ∧ limit < 65536) (h2 : 0 ≤ period ∧ period < 65536) (A : Option Addr) (cap : Nat) (L : List (Int × Int × Int)) (a b : Int) (ha : 0 ≤ a ∧ a < 4294967296) (hb : 0 ≤ b ∧ b < 4294967296) (w : World) (hA : Acts w A L) :
    Calls Try.prog 8 #[.int .u16 limit, .int .u16 period, .slice A L.length cap, .int .u32 a, .int .u32 b] w fun e w' => e = .returned (.bool true) ∧ Below w.heap.size w w' := by
  have HA := Lib.hid hA
  clear hA
  by_cases hs : L.length ≤ 60
  · obtain ⟨p, hp⟩ : ∃ p, ofP limit period = p := ⟨_, rfl⟩
    obtain ⟨s0, hs0⟩ : ∃ s0, new p 0 = s0 := ⟨_, rfl⟩
    have HP := Lib.hid hp
    have HS0 := Lib.hid hs0
    have HK0 := Lib.hid (show Ok p s0 by rw [← hs0]; exact ok_new (by rw [← hp]; exact chk_ofP h1 h2) 0)
    have HL0 := Lib.hid (show s0.log = [] by rw [← hs0]; exact new_log p 0)
    clear hp hs0
    go_enter Try.func8, Try.ntmps8
    go_wp2_with fail
    refine (small_yes hs A cap _).mono ?_
    rintro e w1 ⟨rfl, rfl⟩
    go_wp2_with fail
    refine (of_at HP.out h1 h2 _).mono ?_
    rintro e w1 ⟨rfl, hb1⟩
    have HB1 := Lib.hid hb1
    have z1 := hb1.size
    clear hb1
    go_wp2_with fail
    refine (new_at HS0.out _).mono ?_
    rintro e w2 ⟨rfl, hb2⟩
    have HBP := Lib.hid ((Box.new w1 23 (pcells p)).keep hb2)
    have HB2 := Lib.hid ((HB1.out.alloc z1 _).trans (hb2.mono (Nat.le_trans z1 (below_lt1 w1 _))))
    have z2 : w.heap.size ≤ w2.heap.size := HB2.out.size
    have hbp : w1.heap.size < w2.heap.size := HBP.out.lt
    have HW1 := Lib.hid hb2
    clear hb2
    obtain ⟨bp, ebp⟩ : ∃ b, w1.heap.size = b := ⟨_, rfl⟩
    obtain ⟨bs, ebs⟩ : ∃ b, w2.heap.size = b := ⟨_, rfl⟩
    have HBP := Lib.hid (show Box w2 bp 23 (pcells p) by rw [← ebp]; exact HBP.out)
    go_wp2_with fail
    have hzbs : w.heap.size ≤ bs := by rw [← ebs]; exact z2
    have hbps : bp < bs := by rw [← ebp, ← ebs]; exact hbp
    go_loopg [13] L.length (fun g i wr => ∃ (k : Nat) (s : St) (A' : Option Addr) (cap' : Nat), k ≤ L.length ∧ g = L.length - k ∧ i = .int .i64 k ∧ Hid (s = run p s0 (L.take k)) ∧ Hid (At w wr bp bs p s A' cap'))
    case atStart => exact ⟨0, s0, none, 0, Nat.zero_le _, rfl, rfl, rfl, HB2.out.alloc z2 _, HBP.out.alloc _, (by rw [HL0.out, ← ebs]; exact Box.new _ _ _), (by rw [HL0.out]; exact Sl.nil _ _)⟩
    case round =>
      obtain ⟨k, s, A', cap', hk, hg, rfl, HR, HT⟩ := hrel
      have HG := Lib.hid hg
      obtain ⟨hBr, rp, rs, hSl⟩ := HT.out
      have RP := Lib.hid rp
      have RS := Lib.hid rs
      have HBr := Lib.hid hBr
      have hz0 : w.heap.size ≤ wr.heap.size := hBr.size
      have HAr := Lib.hid (HA.out.keep hBr)
      have HSl := Lib.hid hSl
      have HT := Lib.hid HT
      clear hg hBr hSl
      have p0 : wr.cell? ⟨bp, 0, none⟩ = some (.int .i64 p.kind) := rp.cell 0
      have p1 : wr.cell? ⟨bp, 1, none⟩ = some (.int .i64 p.limit) := rp.cell 1
      have p2 : wr.cell? ⟨bp, 2, none⟩ = some (.int .i64 p.period) := rp.cell 2
      have p3 : wr.cell? ⟨bp, 3, none⟩ = some (.int .i64 p.burst) := rp.cell 3
      have p4 : wr.cell? ⟨bp, 4, none⟩ = some (.int .i64 p.cap) := rp.cell 4
      have p5 : wr.cell? ⟨bp, 5, none⟩ = some (.bool p.opn) := rp.cell 5
      have ts0 : wr.cell? ⟨bs, 0, none⟩ = some (.int .i64 (s).tm) := rs.cell 0
      have ts1 : wr.cell? ⟨bs, 1, none⟩ = some (.int .i64 (s).level) := rs.cell 1
      have ts2 : wr.cell? ⟨bs, 2, none⟩ = some (.int .i64 (s).held) := rs.cell 2
      have ts3 : wr.cell? ⟨bs, 3, none⟩ = some (.slice A' (s).log.length cap') := rs.cell 3
      have zp := rp.lt
      have zs := rs.lt
      clear rp rs
      by_cases hlt : k < L.length
      · obtain ⟨a, rfl, c1, c2, c3⟩ := HAr.out.at_ hlt
        have zn1 : ¬ (wr.heap.size = bp) := by omega
        have zn2 : ¬ (wr.heap.size = bs) := by omega
        have zn3 : ¬ (wr.heap.size = (a.add (k * 3)).block) := fun h => by have := World.block_lt_of_cell? wr _ c1; omega
        have i1 : (k : Int) < (L.length : Int) := by omega
        go_wp2_with fail
        go_cut [14] (fun s16 w4 => ∃ (b : Nat) (A4 : Option Addr) (cap4 : Nat), s16 = .pointer (some ⟨b, 0, none⟩) ∧ Hid (At w w4 bp b p (act p s L[k].1 L[k].2.1 L[k].2.2).1 A4 cap4 ∧ Box w4 bs 32 (scells (s).tm (s).level (s).held (.slice A' (s).log.length cap')) ∧ b ≠ bs ∧ b ≠ bp))
        case first =>
          go_region_held3 (fun w' => w'.cell? ⟨bp, 0, none⟩ = some (.int .i64 p.kind) ∧ w'.cell? ⟨bp, 1, none⟩ = some (.int .i64 p.limit) ∧ w'.cell? ⟨bp, 2, none⟩ = some (.int .i64 p.period) ∧ w'.cell? ⟨bp, 3, none⟩ = some (.int .i64 p.burst) ∧ w'.cell? ⟨bp, 4, none⟩ = some (.int .i64 p.cap) ∧ w'.cell? ⟨bp, 5, none⟩ = some (.bool p.opn) ∧ w'.cell? ⟨bs, 0, none⟩ = some (.int .i64 (s).tm) ∧ w'.cell? ⟨bs, 1, none⟩ = some (.int .i64 (s).level) ∧ w'.cell? ⟨bs, 2, none⟩ = some (.int .i64 (s).held) ∧ w'.cell? ⟨bs, 3, none⟩ = some (.slice A' (s).log.length cap') ∧ w'.cell? (a.add (k * 3)) = some (.int .i64 L[k].1) ∧ w'.cell? ⟨(a.add (k * 3)).block, (a.add (k * 3)).off + 1, none⟩ = some (.int .i64 L[k].2.1) ∧ w'.cell? ⟨(a.add (k * 3)).block, (a.add (k * 3)).off + 2, none⟩ = some (.int .i64 L[k].2.2)) (go_keep) (first | (go_at_call 17; refine (do_sl p s 0 A' cap' L[k].1 L[k].2.1 L[k].2.2 _ ?_).mono ?_; (first | exact HSl.out.keep (Below.refl _ _).drew | exact (HSl.out.alloc _).keep (Below.refl _ _).drew); rintro e w3 ⟨A3, cap3, rfl, hS3, hb3⟩; (first | (have rp3 := Box.keep (Box.drew RP.out) hb3; have rs3 := Box.keep (Box.drew RS.out) hb3; have ha3 := Acts.keep (HAr.out) (Below.trans (Below.refl _ _).drew hb3); have hB3 := HBr.out.trans ((Below.refl _ _).drew.trans (hb3.mono hz0))) | (have rp3 := Box.keep (Box.drew (Box.alloc RP.out _)) hb3; have rs3 := Box.keep (Box.drew (Box.alloc RS.out _)) hb3; have rz3 := Box.keep (Box.drew (Box.new wr 32 (scells 0 0 0 (.slice none 0 0)))) hb3; have ha3 := Acts.keep (HAr.out.alloc _) (Below.trans (Below.refl _ _).drew hb3); have hB3 := (HBr.out.alloc hz0 _).trans ((Below.refl _ _).drew.trans (hb3.mono (Nat.le_trans hz0 (below_lt1 wr _)))); have x0 : w3.cell? ⟨wr.heap.size, 0, none⟩ = some (.int .i64 0) := rz3.cell 0; have x1 : w3.cell? ⟨wr.heap.size, 1, none⟩ = some (.int .i64 0) := rz3.cell 1; have x2 : w3.cell? ⟨wr.heap.size, 2, none⟩ = some (.int .i64 0) := rz3.cell 2; have x3 : w3.cell? ⟨wr.heap.size, 3, none⟩ = some (.slice none 0 0) := rz3.cell 3; have xf0 := rz3.free 0; have xf1 := rz3.free 1; have xf2 := rz3.free 2; have xf3 := rz3.free 3)); obtain ⟨a3, ha3e, y1, y2, y3⟩ := ha3.at_ hlt; injection ha3e with ha3e; subst ha3e; have f0 : w3.cell? ⟨bp, 0, none⟩ = some (.int .i64 p.kind) := rp3.cell 0; have f1 : w3.cell? ⟨bp, 1, none⟩ = some (.int .i64 p.limit) := rp3.cell 1; have f2 : w3.cell? ⟨bp, 2, none⟩ = some (.int .i64 p.period) := rp3.cell 2; have f3 : w3.cell? ⟨bp, 3, none⟩ = some (.int .i64 p.burst) := rp3.cell 3; have f4 : w3.cell? ⟨bp, 4, none⟩ = some (.int .i64 p.cap) := rp3.cell 4; have f5 : w3.cell? ⟨bp, 5, none⟩ = some (.bool p.opn) := rp3.cell 5; have g0 : w3.cell? ⟨bs, 0, none⟩ = some (.int .i64 (s).tm) := rs3.cell 0; have g1 : w3.cell? ⟨bs, 1, none⟩ = some (.int .i64 (s).level) := rs3.cell 1; have g2 : w3.cell? ⟨bs, 2, none⟩ = some (.int .i64 (s).held) := rs3.cell 2; have g3 : w3.cell? ⟨bs, 3, none⟩ = some (.slice A' (s).log.length cap') := rs3.cell 3))
          all_goals (go_wp2_with fail; go_meet)
          case rel => exact ⟨_, A3, cap3, rfl, ⟨hB3.alloc hB3.size _, rp3.alloc _, Box.new _ _ _, (hS3.mono (Nat.zero_le _)).alloc _⟩, rs3.alloc _, Nat.ne_of_gt rs3.lt, Nat.ne_of_gt rp3.lt⟩
          case rel => exact ⟨_, A3, cap3, rfl, ⟨below_set4 hB3 hz0 _ _ _ _, rp3.far4 (Ne.symm zn1) _ _ _ _, rz3.set4 _ _ _ _, (hS3.mono (Nat.zero_le _)).far4 rz3 _ _ _ _⟩, rs3.far4 (Ne.symm zn2) _ _ _ _, zn2, zn1⟩
        case rest =>
          obtain ⟨b, A4, cap4, rfl, hcut⟩ := hcut
          obtain ⟨⟨hB4, rp4, rt4, hS4⟩, rs4, nb, nb2⟩ := hcut.out
          have tt0 : wc.cell? ⟨b, 0, none⟩ = some (.int .i64 ((act p s L[k].1 L[k].2.1 L[k].2.2).1).tm) := rt4.cell 0
          have tt1 : wc.cell? ⟨b, 1, none⟩ = some (.int .i64 ((act p s L[k].1 L[k].2.1 L[k].2.2).1).level) := rt4.cell 1
          have tt2 : wc.cell? ⟨b, 2, none⟩ = some (.int .i64 ((act p s L[k].1 L[k].2.1 L[k].2.2).1).held) := rt4.cell 2
          have tt3 : wc.cell? ⟨b, 3, none⟩ = some (.slice A4 ((act p s L[k].1 L[k].2.1 L[k].2.2).1).log.length cap4) := rt4.cell 3
          have tu0 : wc.cell? ⟨bs, 0, none⟩ = some (.int .i64 (s).tm) := rs4.cell 0
          have tu1 : wc.cell? ⟨bs, 1, none⟩ = some (.int .i64 (s).level) := rs4.cell 1
          have tu2 : wc.cell? ⟨bs, 2, none⟩ = some (.int .i64 (s).held) := rs4.cell 2
          have tu3 : wc.cell? ⟨bs, 3, none⟩ = some (.slice A' (s).log.length cap') := rs4.cell 3
          have tf0 := rs4.free 0
          have tf1 := rs4.free 1
          have tf2 := rs4.free 2
          have tf3 := rs4.free 3
          have HB4 := Lib.hid hB4
          have RP4 := Lib.hid rp4
          have RS4 := Lib.hid rs4
          have HS4 := Lib.hid hS4
          clear hcut hB4 rp4 rt4 hS4 rs4
          go_wp2_with fail
          go_roundg (gk - 1)
          case rel => exact ⟨k + 1, _, A4, cap4, by omega, by have := HG.out; omega, by go_num, (by show _ = _; rw [run_take _ _ _ _ hlt, ← show s = _ from HR.out]), ⟨below_set4 HB4.out hzbs _ _ _ _, RP4.out.far4 (Nat.ne_of_lt hbps) _ _ _ _, RS4.out.set4 _ _ _ _, HS4.out.far4 RS4.out _ _ _ _⟩⟩
          case measure => have := HG.out; omega
      · have hkl : k = L.length := by omega
        have HR := Lib.hid (show s = run p s0 L by rw [show s = _ from HR.out, hkl, List.take_length])
        have HK := Lib.hid (show Ok p s by rw [show s = _ from HR.out]; exact run_ok HK0.out L)
        clear hkl
        have kt0 := HK.out.tm0
        have kt1 := HK.out.tm1
        by_cases ht : s.tm ≤ 4503599627370496
        · obtain ⟨u, v, rx, ry, e1, e2, e3, e4, eu, ev, e5, e6, hxy, e7, e8, nu, nv⟩ := waits_spec HK.out ht ha hb
          have q1 : (u.tm != s.tm + a) = false := by simp [eu]
          have q2 : (v.tm != s.tm + a + b) = false := by simp [ev]
          have E1 := Lib.hid e1
          have E2 := Lib.hid e2
          have E3 := Lib.hid e3
          have E4 := Lib.hid e4
          have E5 := Lib.hid e5
          have E6 := Lib.hid e6
          have E7 := Lib.hid e7
          have E8 := Lib.hid e8
          clear e1 e2 e3 e4 eu ev e5 e6 e7 e8
          go_wp2_with fail
          refine (adv_is E1.out 0 A' cap' _ HSl.out).mono ?_
          rintro e v1 ⟨A1, cap1, rfl, hs1, hb1⟩
          have rp1 := Box.keep RP.out hb1
          have rs1 := Box.keep RS.out hb1
          have ls1 := Sl.keep HSl.out hb1
          have hB1 := HBr.out.trans (hb1.mono HBr.out.size)
          have cp1_0 : v1.cell? ⟨bp, 0, none⟩ = some (.int .i64 p.kind) := rp1.cell 0
          have cp1_1 : v1.cell? ⟨bp, 1, none⟩ = some (.int .i64 p.limit) := rp1.cell 1
          have cp1_2 : v1.cell? ⟨bp, 2, none⟩ = some (.int .i64 p.period) := rp1.cell 2
          have cp1_3 : v1.cell? ⟨bp, 3, none⟩ = some (.int .i64 p.burst) := rp1.cell 3
          have cp1_4 : v1.cell? ⟨bp, 4, none⟩ = some (.int .i64 p.cap) := rp1.cell 4
          have cp1_5 : v1.cell? ⟨bp, 5, none⟩ = some (.bool p.opn) := rp1.cell 5
          have zp1 := rp1.lt
          have cs1_0 : v1.cell? ⟨bs, 0, none⟩ = some (.int .i64 (s).tm) := rs1.cell 0
          have cs1_1 : v1.cell? ⟨bs, 1, none⟩ = some (.int .i64 (s).level) := rs1.cell 1
          have cs1_2 : v1.cell? ⟨bs, 2, none⟩ = some (.int .i64 (s).held) := rs1.cell 2
          have cs1_3 : v1.cell? ⟨bs, 3, none⟩ = some (.slice A' (s).log.length cap') := rs1.cell 3
          have zs1 := rs1.lt
          have Rp1 := Lib.hid rp1
          have Rs1 := Lib.hid rs1
          have Ls1 := Lib.hid ls1
          have HB1 := Lib.hid hB1
          clear rp1 rs1 ls1 hB1 hb1
          clear p0 p1 p2 p3 p4 p5 ts0 ts1 ts2 ts3 zp zs
          have HS1 := Lib.hid (hs1.mono (Nat.zero_le _))
          clear hs1
          go_wp2_with fail
          refine (adv_is E2.out 0 A' cap' _ (Ls1.out.alloc _)).mono ?_
          rintro e v2 ⟨A2, cap2, rfl, hs2, hb2⟩
          have rp2 := Box.keep (Rp1.out.alloc _) hb2
          have rs2 := Box.keep (Rs1.out.alloc _) hb2
          have ls2 := Sl.keep (Ls1.out.alloc _) hb2
          have ru2 := Box.keep (Box.new v1 _ _) hb2
          have lu2 := Sl.keep (HS1.out.alloc _) hb2
          have hB2 := (HB1.out.alloc HB1.out.size _).trans (hb2.mono (Nat.le_trans HB1.out.size (below_lt1 v1 _)))
          have cp2_0 : v2.cell? ⟨bp, 0, none⟩ = some (.int .i64 p.kind) := rp2.cell 0
          have cp2_1 : v2.cell? ⟨bp, 1, none⟩ = some (.int .i64 p.limit) := rp2.cell 1
          have cp2_2 : v2.cell? ⟨bp, 2, none⟩ = some (.int .i64 p.period) := rp2.cell 2
          have cp2_3 : v2.cell? ⟨bp, 3, none⟩ = some (.int .i64 p.burst) := rp2.cell 3
          have cp2_4 : v2.cell? ⟨bp, 4, none⟩ = some (.int .i64 p.cap) := rp2.cell 4
          have cp2_5 : v2.cell? ⟨bp, 5, none⟩ = some (.bool p.opn) := rp2.cell 5
          have zp2 := rp2.lt
          have cs2_0 : v2.cell? ⟨bs, 0, none⟩ = some (.int .i64 (s).tm) := rs2.cell 0
          have cs2_1 : v2.cell? ⟨bs, 1, none⟩ = some (.int .i64 (s).level) := rs2.cell 1
          have cs2_2 : v2.cell? ⟨bs, 2, none⟩ = some (.int .i64 (s).held) := rs2.cell 2
          have cs2_3 : v2.cell? ⟨bs, 3, none⟩ = some (.slice A' (s).log.length cap') := rs2.cell 3
          have zs2 := rs2.lt
          have cu2_0 : v2.cell? ⟨v1.heap.size, 0, none⟩ = some (.int .i64 (u).tm) := ru2.cell 0
          have cu2_1 : v2.cell? ⟨v1.heap.size, 1, none⟩ = some (.int .i64 (u).level) := ru2.cell 1
          have cu2_2 : v2.cell? ⟨v1.heap.size, 2, none⟩ = some (.int .i64 (u).held) := ru2.cell 2
          have cu2_3 : v2.cell? ⟨v1.heap.size, 3, none⟩ = some (.slice A1 (u).log.length cap1) := ru2.cell 3
          have zu2 := ru2.lt
          have Rp2 := Lib.hid rp2
          have Rs2 := Lib.hid rs2
          have Ls2 := Lib.hid ls2
          have Ru2 := Lib.hid ru2
          have Lu2 := Lib.hid lu2
          have HB2 := Lib.hid hB2
          clear rp2 rs2 ls2 ru2 lu2 hB2 hb2
          clear cp1_0 cp1_1 cp1_2 cp1_3 cp1_4 cp1_5 cs1_0 cs1_1 cs1_2 cs1_3
          have HS2 := Lib.hid (hs2.mono (Nat.zero_le _))
          clear hs2
          go_wp2_with fail
          have rp := Box.alloc Rp2.out (.cells (scells (v).tm (v).level (v).held (.slice A2 (v).log.length cap2)) 32)
          have rs := Box.alloc Rs2.out (.cells (scells (v).tm (v).level (v).held (.slice A2 (v).log.length cap2)) 32)
          have ru := Box.alloc Ru2.out (.cells (scells (v).tm (v).level (v).held (.slice A2 (v).log.length cap2)) 32)
          have rv : Box (v2.alloc (.cells (scells (v).tm (v).level (v).held (.slice A2 (v).log.length cap2)) 32)) v2.heap.size _ _ := Box.new v2 _ _
          have ls := Sl.alloc Ls2.out (.cells (scells (v).tm (v).level (v).held (.slice A2 (v).log.length cap2)) 32)
          have lu := Sl.alloc Lu2.out (.cells (scells (v).tm (v).level (v).held (.slice A2 (v).log.length cap2)) 32)
          have lv := Sl.alloc HS2.out (.cells (scells (v).tm (v).level (v).held (.slice A2 (v).log.length cap2)) 32)
          have hBc := (HB2.out).alloc HB2.out.size (.cells (scells (v).tm (v).level (v).held (.slice A2 (v).log.length cap2)) 32)
          go_region_held3 (fun w' => w'.cell? ⟨bp, 0, none⟩ = some (.int .i64 p.kind) ∧ w'.cell? ⟨bp, 1, none⟩ = some (.int .i64 p.limit) ∧ w'.cell? ⟨bp, 2, none⟩ = some (.int .i64 p.period) ∧ w'.cell? ⟨bp, 3, none⟩ = some (.int .i64 p.burst) ∧ w'.cell? ⟨bp, 4, none⟩ = some (.int .i64 p.cap) ∧ w'.cell? ⟨bp, 5, none⟩ = some (.bool p.opn) ∧ w'.cell? ⟨v1.heap.size, 0, none⟩ = some (.int .i64 (u).tm) ∧ w'.cell? ⟨v1.heap.size, 1, none⟩ = some (.int .i64 (u).level) ∧ w'.cell? ⟨v1.heap.size, 2, none⟩ = some (.int .i64 (u).held) ∧ w'.cell? ⟨v1.heap.size, 3, none⟩ = some (.slice A1 (u).log.length cap1) ∧ w'.cell? ⟨v2.heap.size, 0, none⟩ = some (.int .i64 (v).tm) ∧ w'.cell? ⟨v2.heap.size, 1, none⟩ = some (.int .i64 (v).level) ∧ w'.cell? ⟨v2.heap.size, 2, none⟩ = some (.int .i64 (v).held) ∧ w'.cell? ⟨v2.heap.size, 3, none⟩ = some (.slice A2 (v).log.length cap2)) (go_keep) (first | (go_at_call_of 25 (Value.int .i64 (s.tm + a + b)); refine (adv_is E3.out 0 A1 cap1 _ ?_).mono ?_; (first | exact lu | exact Sl.drew lu); rintro e w5 ⟨A5, cap5, rfl, l5, hb5⟩; (first | (have rp := Box.keep (Box.drew rp) hb5; have rs := Box.keep (Box.drew rs) hb5; have ru := Box.keep (Box.drew ru) hb5; have rv := Box.keep (Box.drew rv) hb5; have ls := Sl.keep (Sl.drew ls) hb5; have lu := Sl.keep (Sl.drew lu) hb5; have lv := Sl.keep (Sl.drew lv) hb5; have hBc := (Below.drew hBc).trans (hb5.mono (Below.drew hBc).size)) | (have rp := Box.keep rp hb5; have rs := Box.keep rs hb5; have ru := Box.keep ru hb5; have rv := Box.keep rv hb5; have ls := Sl.keep ls hb5; have lu := Sl.keep lu hb5; have lv := Sl.keep lv hb5; have hBc := hBc.trans (hb5.mono hBc.size))); have qp0 : w5.cell? ⟨bp, 0, none⟩ = some (.int .i64 p.kind) := rp.cell 0; have qp1 : w5.cell? ⟨bp, 1, none⟩ = some (.int .i64 p.limit) := rp.cell 1; have qp2 : w5.cell? ⟨bp, 2, none⟩ = some (.int .i64 p.period) := rp.cell 2; have qp3 : w5.cell? ⟨bp, 3, none⟩ = some (.int .i64 p.burst) := rp.cell 3; have qp4 : w5.cell? ⟨bp, 4, none⟩ = some (.int .i64 p.cap) := rp.cell 4; have qp5 : w5.cell? ⟨bp, 5, none⟩ = some (.bool p.opn) := rp.cell 5; have qu0 : w5.cell? ⟨v1.heap.size, 0, none⟩ = some (.int .i64 (u).tm) := ru.cell 0; have qu1 : w5.cell? ⟨v1.heap.size, 1, none⟩ = some (.int .i64 (u).level) := ru.cell 1; have qu2 : w5.cell? ⟨v1.heap.size, 2, none⟩ = some (.int .i64 (u).held) := ru.cell 2; have qu3 : w5.cell? ⟨v1.heap.size, 3, none⟩ = some (.slice A1 (u).log.length cap1) := ru.cell 3; have qv0 : w5.cell? ⟨v2.heap.size, 0, none⟩ = some (.int .i64 (v).tm) := rv.cell 0; have qv1 : w5.cell? ⟨v2.heap.size, 1, none⟩ = some (.int .i64 (v).level) := rv.cell 1; have qv2 : w5.cell? ⟨v2.heap.size, 2, none⟩ = some (.int .i64 (v).held) := rv.cell 2; have qv3 : w5.cell? ⟨v2.heap.size, 3, none⟩ = some (.slice A2 (v).log.length cap2) := rv.cell 3) | (go_at_call_of 25 (Value.int .i64 (s.tm + a)); refine (adv_is E4.out 0 A2 cap2 _ ?_).mono ?_; (first | exact lv | exact Sl.drew lv); rintro e w5 ⟨A5, cap5, rfl, l5, hb5⟩; (first | (have rp := Box.keep (Box.drew rp) hb5; have rs := Box.keep (Box.drew rs) hb5; have ru := Box.keep (Box.drew ru) hb5; have rv := Box.keep (Box.drew rv) hb5; have ls := Sl.keep (Sl.drew ls) hb5; have lu := Sl.keep (Sl.drew lu) hb5; have lv := Sl.keep (Sl.drew lv) hb5; have hBc := (Below.drew hBc).trans (hb5.mono (Below.drew hBc).size)) | (have rp := Box.keep rp hb5; have rs := Box.keep rs hb5; have ru := Box.keep ru hb5; have rv := Box.keep rv hb5; have ls := Sl.keep ls hb5; have lu := Sl.keep lu hb5; have lv := Sl.keep lv hb5; have hBc := hBc.trans (hb5.mono hBc.size))); have qp0 : w5.cell? ⟨bp, 0, none⟩ = some (.int .i64 p.kind) := rp.cell 0; have qp1 : w5.cell? ⟨bp, 1, none⟩ = some (.int .i64 p.limit) := rp.cell 1; have qp2 : w5.cell? ⟨bp, 2, none⟩ = some (.int .i64 p.period) := rp.cell 2; have qp3 : w5.cell? ⟨bp, 3, none⟩ = some (.int .i64 p.burst) := rp.cell 3; have qp4 : w5.cell? ⟨bp, 4, none⟩ = some (.int .i64 p.cap) := rp.cell 4; have qp5 : w5.cell? ⟨bp, 5, none⟩ = some (.bool p.opn) := rp.cell 5; have qu0 : w5.cell? ⟨v1.heap.size, 0, none⟩ = some (.int .i64 (u).tm) := ru.cell 0; have qu1 : w5.cell? ⟨v1.heap.size, 1, none⟩ = some (.int .i64 (u).level) := ru.cell 1; have qu2 : w5.cell? ⟨v1.heap.size, 2, none⟩ = some (.int .i64 (u).held) := ru.cell 2; have qu3 : w5.cell? ⟨v1.heap.size, 3, none⟩ = some (.slice A1 (u).log.length cap1) := ru.cell 3; have qv0 : w5.cell? ⟨v2.heap.size, 0, none⟩ = some (.int .i64 (v).tm) := rv.cell 0; have qv1 : w5.cell? ⟨v2.heap.size, 1, none⟩ = some (.int .i64 (v).level) := rv.cell 1; have qv2 : w5.cell? ⟨v2.heap.size, 2, none⟩ = some (.int .i64 (v).held) := rv.cell 2; have qv3 : w5.cell? ⟨v2.heap.size, 3, none⟩ = some (.slice A2 (v).log.length cap2) := rv.cell 3) | (go_at_call 19; refine (same_of (sameS_self v) l5.ents lv.ents (by omega)).mono ?_; rintro e w6 ⟨rfl, hb6⟩; (first | (have rp := Box.keep (Box.drew rp) hb6; have rs := Box.keep (Box.drew rs) hb6; have ru := Box.keep (Box.drew ru) hb6; have rv := Box.keep (Box.drew rv) hb6; have ls := Sl.keep (Sl.drew ls) hb6; have lu := Sl.keep (Sl.drew lu) hb6; have lv := Sl.keep (Sl.drew lv) hb6; have hBc := (Below.drew hBc).trans (hb6.mono (Below.drew hBc).size)) | (have rp := Box.keep rp hb6; have rs := Box.keep rs hb6; have ru := Box.keep ru hb6; have rv := Box.keep rv hb6; have ls := Sl.keep ls hb6; have lu := Sl.keep lu hb6; have lv := Sl.keep lv hb6; have hBc := hBc.trans (hb6.mono hBc.size))); have qp0 : w6.cell? ⟨bp, 0, none⟩ = some (.int .i64 p.kind) := rp.cell 0; have qp1 : w6.cell? ⟨bp, 1, none⟩ = some (.int .i64 p.limit) := rp.cell 1; have qp2 : w6.cell? ⟨bp, 2, none⟩ = some (.int .i64 p.period) := rp.cell 2; have qp3 : w6.cell? ⟨bp, 3, none⟩ = some (.int .i64 p.burst) := rp.cell 3; have qp4 : w6.cell? ⟨bp, 4, none⟩ = some (.int .i64 p.cap) := rp.cell 4; have qp5 : w6.cell? ⟨bp, 5, none⟩ = some (.bool p.opn) := rp.cell 5; have qu0 : w6.cell? ⟨v1.heap.size, 0, none⟩ = some (.int .i64 (u).tm) := ru.cell 0; have qu1 : w6.cell? ⟨v1.heap.size, 1, none⟩ = some (.int .i64 (u).level) := ru.cell 1; have qu2 : w6.cell? ⟨v1.heap.size, 2, none⟩ = some (.int .i64 (u).held) := ru.cell 2; have qu3 : w6.cell? ⟨v1.heap.size, 3, none⟩ = some (.slice A1 (u).log.length cap1) := ru.cell 3; have qv0 : w6.cell? ⟨v2.heap.size, 0, none⟩ = some (.int .i64 (v).tm) := rv.cell 0; have qv1 : w6.cell? ⟨v2.heap.size, 1, none⟩ = some (.int .i64 (v).level) := rv.cell 1; have qv2 : w6.cell? ⟨v2.heap.size, 2, none⟩ = some (.int .i64 (v).held) := rv.cell 2; have qv3 : w6.cell? ⟨v2.heap.size, 3, none⟩ = some (.slice A2 (v).log.length cap2) := rv.cell 3))
          have qs0 : w6.cell? ⟨bs, 0, none⟩ = some (.int .i64 (s).tm) := rs.cell 0
          have qs1 : w6.cell? ⟨bs, 1, none⟩ = some (.int .i64 (s).level) := rs.cell 1
          have qs2 : w6.cell? ⟨bs, 2, none⟩ = some (.int .i64 (s).held) := rs.cell 2
          have qs3 : w6.cell? ⟨bs, 3, none⟩ = some (.slice A' (s).log.length cap') := rs.cell 3
          go_wp2_with fail
          go_region_held3 (fun w' => w'.cell? ⟨bp, 0, none⟩ = some (.int .i64 p.kind) ∧ w'.cell? ⟨bp, 1, none⟩ = some (.int .i64 p.limit) ∧ w'.cell? ⟨bp, 2, none⟩ = some (.int .i64 p.period) ∧ w'.cell? ⟨bp, 3, none⟩ = some (.int .i64 p.burst) ∧ w'.cell? ⟨bp, 4, none⟩ = some (.int .i64 p.cap) ∧ w'.cell? ⟨bp, 5, none⟩ = some (.bool p.opn) ∧ w'.cell? ⟨bs, 0, none⟩ = some (.int .i64 (s).tm) ∧ w'.cell? ⟨bs, 1, none⟩ = some (.int .i64 (s).level) ∧ w'.cell? ⟨bs, 2, none⟩ = some (.int .i64 (s).held) ∧ w'.cell? ⟨bs, 3, none⟩ = some (.slice A' (s).log.length cap') ∧ w'.cell? ⟨v1.heap.size, 0, none⟩ = some (.int .i64 (u).tm) ∧ w'.cell? ⟨v1.heap.size, 1, none⟩ = some (.int .i64 (u).level) ∧ w'.cell? ⟨v1.heap.size, 2, none⟩ = some (.int .i64 (u).held) ∧ w'.cell? ⟨v1.heap.size, 3, none⟩ = some (.slice A1 (u).log.length cap1)) (go_keep) (first | (go_at_call_of 24 (Value.agg #[Value.int .i64 u.tm, Value.int .i64 u.level, Value.int .i64 u.held, Value.slice A1 u.log.length cap1]); refine (room_is E7.out 0 A1 cap1 _ ?_).mono ?_; (first | exact lu | exact Sl.drew lu); rintro e w7 ⟨rfl, hb7⟩; (first | (have rp := Box.keep (Box.drew rp) hb7; have rs := Box.keep (Box.drew rs) hb7; have ru := Box.keep (Box.drew ru) hb7; have rv := Box.keep (Box.drew rv) hb7; have ls := Sl.keep (Sl.drew ls) hb7; have lu := Sl.keep (Sl.drew lu) hb7; have lv := Sl.keep (Sl.drew lv) hb7; have hBc := (Below.drew hBc).trans (hb7.mono (Below.drew hBc).size)) | (have rp := Box.keep rp hb7; have rs := Box.keep rs hb7; have ru := Box.keep ru hb7; have rv := Box.keep rv hb7; have ls := Sl.keep ls hb7; have lu := Sl.keep lu hb7; have lv := Sl.keep lv hb7; have hBc := hBc.trans (hb7.mono hBc.size))); have qp0 : w7.cell? ⟨bp, 0, none⟩ = some (.int .i64 p.kind) := rp.cell 0; have qp1 : w7.cell? ⟨bp, 1, none⟩ = some (.int .i64 p.limit) := rp.cell 1; have qp2 : w7.cell? ⟨bp, 2, none⟩ = some (.int .i64 p.period) := rp.cell 2; have qp3 : w7.cell? ⟨bp, 3, none⟩ = some (.int .i64 p.burst) := rp.cell 3; have qp4 : w7.cell? ⟨bp, 4, none⟩ = some (.int .i64 p.cap) := rp.cell 4; have qp5 : w7.cell? ⟨bp, 5, none⟩ = some (.bool p.opn) := rp.cell 5; have qs0 : w7.cell? ⟨bs, 0, none⟩ = some (.int .i64 (s).tm) := rs.cell 0; have qs1 : w7.cell? ⟨bs, 1, none⟩ = some (.int .i64 (s).level) := rs.cell 1; have qs2 : w7.cell? ⟨bs, 2, none⟩ = some (.int .i64 (s).held) := rs.cell 2; have qs3 : w7.cell? ⟨bs, 3, none⟩ = some (.slice A' (s).log.length cap') := rs.cell 3; have qu0 : w7.cell? ⟨v1.heap.size, 0, none⟩ = some (.int .i64 (u).tm) := ru.cell 0; have qu1 : w7.cell? ⟨v1.heap.size, 1, none⟩ = some (.int .i64 (u).level) := ru.cell 1; have qu2 : w7.cell? ⟨v1.heap.size, 2, none⟩ = some (.int .i64 (u).held) := ru.cell 2; have qu3 : w7.cell? ⟨v1.heap.size, 3, none⟩ = some (.slice A1 (u).log.length cap1) := ru.cell 3) | (go_at_call_of 24 (Value.int .i64 (s.tm + a)); refine (room_is E6.out 0 A' cap' _ ?_).mono ?_; (first | exact ls | exact Sl.drew ls); rintro e w7 ⟨rfl, hb7⟩; (first | (have rp := Box.keep (Box.drew rp) hb7; have rs := Box.keep (Box.drew rs) hb7; have ru := Box.keep (Box.drew ru) hb7; have rv := Box.keep (Box.drew rv) hb7; have ls := Sl.keep (Sl.drew ls) hb7; have lu := Sl.keep (Sl.drew lu) hb7; have lv := Sl.keep (Sl.drew lv) hb7; have hBc := (Below.drew hBc).trans (hb7.mono (Below.drew hBc).size)) | (have rp := Box.keep rp hb7; have rs := Box.keep rs hb7; have ru := Box.keep ru hb7; have rv := Box.keep rv hb7; have ls := Sl.keep ls hb7; have lu := Sl.keep lu hb7; have lv := Sl.keep lv hb7; have hBc := hBc.trans (hb7.mono hBc.size))); have qp0 : w7.cell? ⟨bp, 0, none⟩ = some (.int .i64 p.kind) := rp.cell 0; have qp1 : w7.cell? ⟨bp, 1, none⟩ = some (.int .i64 p.limit) := rp.cell 1; have qp2 : w7.cell? ⟨bp, 2, none⟩ = some (.int .i64 p.period) := rp.cell 2; have qp3 : w7.cell? ⟨bp, 3, none⟩ = some (.int .i64 p.burst) := rp.cell 3; have qp4 : w7.cell? ⟨bp, 4, none⟩ = some (.int .i64 p.cap) := rp.cell 4; have qp5 : w7.cell? ⟨bp, 5, none⟩ = some (.bool p.opn) := rp.cell 5; have qs0 : w7.cell? ⟨bs, 0, none⟩ = some (.int .i64 (s).tm) := rs.cell 0; have qs1 : w7.cell? ⟨bs, 1, none⟩ = some (.int .i64 (s).level) := rs.cell 1; have qs2 : w7.cell? ⟨bs, 2, none⟩ = some (.int .i64 (s).held) := rs.cell 2; have qs3 : w7.cell? ⟨bs, 3, none⟩ = some (.slice A' (s).log.length cap') := rs.cell 3; have qu0 : w7.cell? ⟨v1.heap.size, 0, none⟩ = some (.int .i64 (u).tm) := ru.cell 0; have qu1 : w7.cell? ⟨v1.heap.size, 1, none⟩ = some (.int .i64 (u).level) := ru.cell 1; have qu2 : w7.cell? ⟨v1.heap.size, 2, none⟩ = some (.int .i64 (u).held) := ru.cell 2; have qu3 : w7.cell? ⟨v1.heap.size, 3, none⟩ = some (.slice A1 (u).log.length cap1) := ru.cell 3) | (go_at_call 24; refine (room_is E5.out 0 A' cap' _ ?_).mono ?_; (first | exact ls | exact Sl.drew ls); rintro e w7 ⟨rfl, hb7⟩; (first | (have rp := Box.keep (Box.drew rp) hb7; have rs := Box.keep (Box.drew rs) hb7; have ru := Box.keep (Box.drew ru) hb7; have rv := Box.keep (Box.drew rv) hb7; have ls := Sl.keep (Sl.drew ls) hb7; have lu := Sl.keep (Sl.drew lu) hb7; have lv := Sl.keep (Sl.drew lv) hb7; have hBc := (Below.drew hBc).trans (hb7.mono (Below.drew hBc).size)) | (have rp := Box.keep rp hb7; have rs := Box.keep rs hb7; have ru := Box.keep ru hb7; have rv := Box.keep rv hb7; have ls := Sl.keep ls hb7; have lu := Sl.keep lu hb7; have lv := Sl.keep lv hb7; have hBc := hBc.trans (hb7.mono hBc.size))); have qp0 : w7.cell? ⟨bp, 0, none⟩ = some (.int .i64 p.kind) := rp.cell 0; have qp1 : w7.cell? ⟨bp, 1, none⟩ = some (.int .i64 p.limit) := rp.cell 1; have qp2 : w7.cell? ⟨bp, 2, none⟩ = some (.int .i64 p.period) := rp.cell 2; have qp3 : w7.cell? ⟨bp, 3, none⟩ = some (.int .i64 p.burst) := rp.cell 3; have qp4 : w7.cell? ⟨bp, 4, none⟩ = some (.int .i64 p.cap) := rp.cell 4; have qp5 : w7.cell? ⟨bp, 5, none⟩ = some (.bool p.opn) := rp.cell 5; have qs0 : w7.cell? ⟨bs, 0, none⟩ = some (.int .i64 (s).tm) := rs.cell 0; have qs1 : w7.cell? ⟨bs, 1, none⟩ = some (.int .i64 (s).level) := rs.cell 1; have qs2 : w7.cell? ⟨bs, 2, none⟩ = some (.int .i64 (s).held) := rs.cell 2; have qs3 : w7.cell? ⟨bs, 3, none⟩ = some (.slice A' (s).log.length cap') := rs.cell 3; have qu0 : w7.cell? ⟨v1.heap.size, 0, none⟩ = some (.int .i64 (u).tm) := ru.cell 0; have qu1 : w7.cell? ⟨v1.heap.size, 1, none⟩ = some (.int .i64 (u).level) := ru.cell 1; have qu2 : w7.cell? ⟨v1.heap.size, 2, none⟩ = some (.int .i64 (u).held) := ru.cell 2; have qu3 : w7.cell? ⟨v1.heap.size, 3, none⟩ = some (.slice A1 (u).log.length cap1) := ru.cell 3) | (go_at_call 23; refine (right_is E8.out 0 A1 cap1 _ ?_).mono ?_; (first | exact lu | exact Sl.drew lu); rintro e w7 ⟨rfl, hb7⟩; (first | (have rp := Box.keep (Box.drew rp) hb7; have rs := Box.keep (Box.drew rs) hb7; have ru := Box.keep (Box.drew ru) hb7; have rv := Box.keep (Box.drew rv) hb7; have ls := Sl.keep (Sl.drew ls) hb7; have lu := Sl.keep (Sl.drew lu) hb7; have lv := Sl.keep (Sl.drew lv) hb7; have hBc := (Below.drew hBc).trans (hb7.mono (Below.drew hBc).size)) | (have rp := Box.keep rp hb7; have rs := Box.keep rs hb7; have ru := Box.keep ru hb7; have rv := Box.keep rv hb7; have ls := Sl.keep ls hb7; have lu := Sl.keep lu hb7; have lv := Sl.keep lv hb7; have hBc := hBc.trans (hb7.mono hBc.size))); have qp0 : w7.cell? ⟨bp, 0, none⟩ = some (.int .i64 p.kind) := rp.cell 0; have qp1 : w7.cell? ⟨bp, 1, none⟩ = some (.int .i64 p.limit) := rp.cell 1; have qp2 : w7.cell? ⟨bp, 2, none⟩ = some (.int .i64 p.period) := rp.cell 2; have qp3 : w7.cell? ⟨bp, 3, none⟩ = some (.int .i64 p.burst) := rp.cell 3; have qp4 : w7.cell? ⟨bp, 4, none⟩ = some (.int .i64 p.cap) := rp.cell 4; have qp5 : w7.cell? ⟨bp, 5, none⟩ = some (.bool p.opn) := rp.cell 5; have qs0 : w7.cell? ⟨bs, 0, none⟩ = some (.int .i64 (s).tm) := rs.cell 0; have qs1 : w7.cell? ⟨bs, 1, none⟩ = some (.int .i64 (s).level) := rs.cell 1; have qs2 : w7.cell? ⟨bs, 2, none⟩ = some (.int .i64 (s).held) := rs.cell 2; have qs3 : w7.cell? ⟨bs, 3, none⟩ = some (.slice A' (s).log.length cap') := rs.cell 3; have qu0 : w7.cell? ⟨v1.heap.size, 0, none⟩ = some (.int .i64 (u).tm) := ru.cell 0; have qu1 : w7.cell? ⟨v1.heap.size, 1, none⟩ = some (.int .i64 (u).level) := ru.cell 1; have qu2 : w7.cell? ⟨v1.heap.size, 2, none⟩ = some (.int .i64 (u).held) := ru.cell 2; have qu3 : w7.cell? ⟨v1.heap.size, 3, none⟩ = some (.slice A1 (u).log.length cap1) := ru.cell 3) | (go_at_call 11; refine (known_calls _).mono ?_; rintro e w7 ⟨rfl, hb7⟩; (first | (have rp := Box.keep (Box.drew rp) hb7; have rs := Box.keep (Box.drew rs) hb7; have ru := Box.keep (Box.drew ru) hb7; have rv := Box.keep (Box.drew rv) hb7; have ls := Sl.keep (Sl.drew ls) hb7; have lu := Sl.keep (Sl.drew lu) hb7; have lv := Sl.keep (Sl.drew lv) hb7; have hBc := (Below.drew hBc).trans (hb7.mono (Below.drew hBc).size)) | (have rp := Box.keep rp hb7; have rs := Box.keep rs hb7; have ru := Box.keep ru hb7; have rv := Box.keep rv hb7; have ls := Sl.keep ls hb7; have lu := Sl.keep lu hb7; have lv := Sl.keep lv hb7; have hBc := hBc.trans (hb7.mono hBc.size))); have qp0 : w7.cell? ⟨bp, 0, none⟩ = some (.int .i64 p.kind) := rp.cell 0; have qp1 : w7.cell? ⟨bp, 1, none⟩ = some (.int .i64 p.limit) := rp.cell 1; have qp2 : w7.cell? ⟨bp, 2, none⟩ = some (.int .i64 p.period) := rp.cell 2; have qp3 : w7.cell? ⟨bp, 3, none⟩ = some (.int .i64 p.burst) := rp.cell 3; have qp4 : w7.cell? ⟨bp, 4, none⟩ = some (.int .i64 p.cap) := rp.cell 4; have qp5 : w7.cell? ⟨bp, 5, none⟩ = some (.bool p.opn) := rp.cell 5; have qs0 : w7.cell? ⟨bs, 0, none⟩ = some (.int .i64 (s).tm) := rs.cell 0; have qs1 : w7.cell? ⟨bs, 1, none⟩ = some (.int .i64 (s).level) := rs.cell 1; have qs2 : w7.cell? ⟨bs, 2, none⟩ = some (.int .i64 (s).held) := rs.cell 2; have qs3 : w7.cell? ⟨bs, 3, none⟩ = some (.slice A' (s).log.length cap') := rs.cell 3; have qu0 : w7.cell? ⟨v1.heap.size, 0, none⟩ = some (.int .i64 (u).tm) := ru.cell 0; have qu1 : w7.cell? ⟨v1.heap.size, 1, none⟩ = some (.int .i64 (u).level) := ru.cell 1; have qu2 : w7.cell? ⟨v1.heap.size, 2, none⟩ = some (.int .i64 (u).held) := ru.cell 2; have qu3 : w7.cell? ⟨v1.heap.size, 3, none⟩ = some (.slice A1 (u).log.length cap1) := ru.cell 3))
          all_goals (go_wp2_with fail; go_ret; exact ⟨rfl, hBc⟩)
        · go_wp2_with fail
          refine (known_calls _).mono ?_
          rintro e v1 ⟨rfl, hb1⟩
          have hB1 := HBr.out.trans (hb1.mono HBr.out.size)
          have HB1 := Lib.hid hB1
          clear hB1 hb1
          clear p0 p1 p2 p3 p4 p5 ts0 ts1 ts2 ts3 zp zs
          go_wp2_with fail
          go_ret
          exact ⟨rfl, HB1.out⟩
  · go_enter Try.func8, Try.ntmps8
    go_wp2_with fail
    refine (small_no hs A cap _).mono ?_
    rintro e w1 ⟨rfl, rfl⟩
    go_wp2_with fail
    refine (known_calls _).mono ?_
    rintro e w1 ⟨rfl, hb1⟩
    have HB1 := Lib.hid hb1
    clear hb1
    go_wp2_with fail
    go_ret
    exact ⟨rfl, HB1.out⟩

end Wn
end Go.Proofs.Ytikfjdpkjifcdaa
