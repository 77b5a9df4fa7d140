/-
  The walk of the law CounterHalves.
-/
import Derived.Test.YtikfjdpkjifcdaaCtrKnown
import Derived.Deep.DrawnRows
namespace Go.Proofs.Ytikfjdpkjifcdaa
open Go.RowKit
attribute [local go_sem ↓] Go.wp_at_zero Go.wp_at_succ
namespace Wn

set_option maxHeartbeats 16000000 in
set_option maxRecDepth 100000 in
theorem halves_law (limit period : Int) (h1 : 0 ≤ limit ∧ limit < 65536) (h2 : 0 ≤ period ∧ period < 65536) (A : Option Addr) (cap : Nat) (L : List (Int × Int × Int)) (x y : Int) (hx : 0 ≤ x ∧ x < 256) (hy : 0 ≤ y ∧ y < 256) (w : World) (hA : Acts w A L) :
    Calls Try.prog 9 #[.int .u16 limit, .int .u16 period, .slice A L.length cap, .int .u8 x, .int .u8 y] w fun e w' => e = .returned (.bool true) ∧ Below w.heap.size w w' := by
  have HA := Lib.hid hA
  clear hA
  by_cases hs : L.length ≤ 60
  · obtain ⟨p, hp⟩ : ∃ p, ofP limit period = p := ⟨_, rfl⟩
    obtain ⟨s0, hs0⟩ : ∃ s0, new p 0 = s0 := ⟨_, rfl⟩
    have HP := Lib.hid hp
    have HS0 := Lib.hid hs0
    have HK0 := Lib.hid (show Ok p s0 by rw [← hs0]; exact ok_new (by rw [← hp]; exact chk_ofP h1 h2) 0)
    have HL0 := Lib.hid (show s0.log = [] by rw [← hs0]; exact new_log p 0)
    clear hp hs0
    go_enter Try.func9, Try.ntmps9
    go_wp2_with fail
    refine (small_yes hs A cap _).mono ?_
    rintro e w1 ⟨rfl, rfl⟩
    go_wp2_with fail
    refine (of_at HP.out h1 h2 _).mono ?_
    rintro e w1 ⟨rfl, hb1⟩
    have HB1 := Lib.hid hb1
    have z1 := hb1.size
    clear hb1
    go_wp2_with fail
    refine (new_at HS0.out _).mono ?_
    rintro e w2 ⟨rfl, hb2⟩
    have HBP := Lib.hid ((Box.new w1 23 (pcells p)).keep hb2)
    have HB2 := Lib.hid ((HB1.out.alloc z1 _).trans (hb2.mono (Nat.le_trans z1 (below_lt1 w1 _))))
    have z2 : w.heap.size ≤ w2.heap.size := HB2.out.size
    have hbp : w1.heap.size < w2.heap.size := HBP.out.lt
    have HW1 := Lib.hid hb2
    clear hb2
    obtain ⟨bp, ebp⟩ : ∃ b, w1.heap.size = b := ⟨_, rfl⟩
    obtain ⟨bs, ebs⟩ : ∃ b, w2.heap.size = b := ⟨_, rfl⟩
    have HBP := Lib.hid (show Box w2 bp 23 (pcells p) by rw [← ebp]; exact HBP.out)
    go_wp2_with fail
    have hzbs : w.heap.size ≤ bs := by rw [← ebs]; exact z2
    have hbps : bp < bs := by rw [← ebp, ← ebs]; exact hbp
    go_loopg [13] L.length (fun g i wr => ∃ (k : Nat) (s : St) (A' : Option Addr) (cap' : Nat), k ≤ L.length ∧ g = L.length - k ∧ i = .int .i64 k ∧ Hid (s = run p s0 (L.take k)) ∧ Hid (At w wr bp bs p s A' cap'))
    case atStart => exact ⟨0, s0, none, 0, Nat.zero_le _, rfl, rfl, rfl, HB2.out.alloc z2 _, HBP.out.alloc _, (by rw [HL0.out, ← ebs]; exact Box.new _ _ _), (by rw [HL0.out]; exact Sl.nil _ _)⟩
    case round =>
      obtain ⟨k, s, A', cap', hk, hg, rfl, HR, HT⟩ := hrel
      have HG := Lib.hid hg
      obtain ⟨hBr, rp, rs, hSl⟩ := HT.out
      have RP := Lib.hid rp
      have RS := Lib.hid rs
      have HBr := Lib.hid hBr
      have hz0 : w.heap.size ≤ wr.heap.size := hBr.size
      have HAr := Lib.hid (HA.out.keep hBr)
      have HSl := Lib.hid hSl
      have HT := Lib.hid HT
      clear hg hBr hSl
      have p0 : wr.cell? ⟨bp, 0, none⟩ = some (.int .i64 p.kind) := rp.cell 0
      have p1 : wr.cell? ⟨bp, 1, none⟩ = some (.int .i64 p.limit) := rp.cell 1
      have p2 : wr.cell? ⟨bp, 2, none⟩ = some (.int .i64 p.period) := rp.cell 2
      have p3 : wr.cell? ⟨bp, 3, none⟩ = some (.int .i64 p.burst) := rp.cell 3
      have p4 : wr.cell? ⟨bp, 4, none⟩ = some (.int .i64 p.cap) := rp.cell 4
      have p5 : wr.cell? ⟨bp, 5, none⟩ = some (.bool p.opn) := rp.cell 5
      have ts0 : wr.cell? ⟨bs, 0, none⟩ = some (.int .i64 (s).tm) := rs.cell 0
      have ts1 : wr.cell? ⟨bs, 1, none⟩ = some (.int .i64 (s).level) := rs.cell 1
      have ts2 : wr.cell? ⟨bs, 2, none⟩ = some (.int .i64 (s).held) := rs.cell 2
      have ts3 : wr.cell? ⟨bs, 3, none⟩ = some (.slice A' (s).log.length cap') := rs.cell 3
      have zp := rp.lt
      have zs := rs.lt
      clear rp rs
      by_cases hlt : k < L.length
      · obtain ⟨a, rfl, c1, c2, c3⟩ := HAr.out.at_ hlt
        have zn1 : ¬ (wr.heap.size = bp) := by omega
        have zn2 : ¬ (wr.heap.size = bs) := by omega
        have zn3 : ¬ (wr.heap.size = (a.add (k * 3)).block) := fun h => by have := World.block_lt_of_cell? wr _ c1; omega
        have i1 : (k : Int) < (L.length : Int) := by omega
        go_wp2_with fail
        go_cut [14] (fun s16 w4 => ∃ (b : Nat) (A4 : Option Addr) (cap4 : Nat), s16 = .pointer (some ⟨b, 0, none⟩) ∧ Hid (At w w4 bp b p (act p s L[k].1 L[k].2.1 L[k].2.2).1 A4 cap4 ∧ Box w4 bs 32 (scells (s).tm (s).level (s).held (.slice A' (s).log.length cap')) ∧ b ≠ bs ∧ b ≠ bp))
        case first =>
          go_region_held3 (fun w' => w'.cell? ⟨bp, 0, none⟩ = some (.int .i64 p.kind) ∧ w'.cell? ⟨bp, 1, none⟩ = some (.int .i64 p.limit) ∧ w'.cell? ⟨bp, 2, none⟩ = some (.int .i64 p.period) ∧ w'.cell? ⟨bp, 3, none⟩ = some (.int .i64 p.burst) ∧ w'.cell? ⟨bp, 4, none⟩ = some (.int .i64 p.cap) ∧ w'.cell? ⟨bp, 5, none⟩ = some (.bool p.opn) ∧ w'.cell? ⟨bs, 0, none⟩ = some (.int .i64 (s).tm) ∧ w'.cell? ⟨bs, 1, none⟩ = some (.int .i64 (s).level) ∧ w'.cell? ⟨bs, 2, none⟩ = some (.int .i64 (s).held) ∧ w'.cell? ⟨bs, 3, none⟩ = some (.slice A' (s).log.length cap') ∧ w'.cell? (a.add (k * 3)) = some (.int .i64 L[k].1) ∧ w'.cell? ⟨(a.add (k * 3)).block, (a.add (k * 3)).off + 1, none⟩ = some (.int .i64 L[k].2.1) ∧ w'.cell? ⟨(a.add (k * 3)).block, (a.add (k * 3)).off + 2, none⟩ = some (.int .i64 L[k].2.2)) (go_keep) (first | (go_at_call 17; refine (do_sl p s 0 A' cap' L[k].1 L[k].2.1 L[k].2.2 _ ?_).mono ?_; (first | exact HSl.out.keep (Below.refl _ _).drew | exact (HSl.out.alloc _).keep (Below.refl _ _).drew); rintro e w3 ⟨A3, cap3, rfl, hS3, hb3⟩; (first | (have rp3 := Box.keep (Box.drew RP.out) hb3; have rs3 := Box.keep (Box.drew RS.out) hb3; have ha3 := Acts.keep (HAr.out) (Below.trans (Below.refl _ _).drew hb3); have hB3 := HBr.out.trans ((Below.refl _ _).drew.trans (hb3.mono hz0))) | (have rp3 := Box.keep (Box.drew (Box.alloc RP.out _)) hb3; have rs3 := Box.keep (Box.drew (Box.alloc RS.out _)) hb3; have rz3 := Box.keep (Box.drew (Box.new wr 32 (scells 0 0 0 (.slice none 0 0)))) hb3; have ha3 := Acts.keep (HAr.out.alloc _) (Below.trans (Below.refl _ _).drew hb3); have hB3 := (HBr.out.alloc hz0 _).trans ((Below.refl _ _).drew.trans (hb3.mono (Nat.le_trans hz0 (below_lt1 wr _)))); have x0 : w3.cell? ⟨wr.heap.size, 0, none⟩ = some (.int .i64 0) := rz3.cell 0; have x1 : w3.cell? ⟨wr.heap.size, 1, none⟩ = some (.int .i64 0) := rz3.cell 1; have x2 : w3.cell? ⟨wr.heap.size, 2, none⟩ = some (.int .i64 0) := rz3.cell 2; have x3 : w3.cell? ⟨wr.heap.size, 3, none⟩ = some (.slice none 0 0) := rz3.cell 3; have xf0 := rz3.free 0; have xf1 := rz3.free 1; have xf2 := rz3.free 2; have xf3 := rz3.free 3)); obtain ⟨a3, ha3e, y1, y2, y3⟩ := ha3.at_ hlt; injection ha3e with ha3e; subst ha3e; have f0 : w3.cell? ⟨bp, 0, none⟩ = some (.int .i64 p.kind) := rp3.cell 0; have f1 : w3.cell? ⟨bp, 1, none⟩ = some (.int .i64 p.limit) := rp3.cell 1; have f2 : w3.cell? ⟨bp, 2, none⟩ = some (.int .i64 p.period) := rp3.cell 2; have f3 : w3.cell? ⟨bp, 3, none⟩ = some (.int .i64 p.burst) := rp3.cell 3; have f4 : w3.cell? ⟨bp, 4, none⟩ = some (.int .i64 p.cap) := rp3.cell 4; have f5 : w3.cell? ⟨bp, 5, none⟩ = some (.bool p.opn) := rp3.cell 5; have g0 : w3.cell? ⟨bs, 0, none⟩ = some (.int .i64 (s).tm) := rs3.cell 0; have g1 : w3.cell? ⟨bs, 1, none⟩ = some (.int .i64 (s).level) := rs3.cell 1; have g2 : w3.cell? ⟨bs, 2, none⟩ = some (.int .i64 (s).held) := rs3.cell 2; have g3 : w3.cell? ⟨bs, 3, none⟩ = some (.slice A' (s).log.length cap') := rs3.cell 3))
          all_goals (go_wp2_with fail; go_meet)
          case rel => exact ⟨_, A3, cap3, rfl, ⟨hB3.alloc hB3.size _, rp3.alloc _, Box.new _ _ _, (hS3.mono (Nat.zero_le _)).alloc _⟩, rs3.alloc _, Nat.ne_of_gt rs3.lt, Nat.ne_of_gt rp3.lt⟩
          case rel => exact ⟨_, A3, cap3, rfl, ⟨below_set4 hB3 hz0 _ _ _ _, rp3.far4 (Ne.symm zn1) _ _ _ _, rz3.set4 _ _ _ _, (hS3.mono (Nat.zero_le _)).far4 rz3 _ _ _ _⟩, rs3.far4 (Ne.symm zn2) _ _ _ _, zn2, zn1⟩
        case rest =>
          obtain ⟨b, A4, cap4, rfl, hcut⟩ := hcut
          obtain ⟨⟨hB4, rp4, rt4, hS4⟩, rs4, nb, nb2⟩ := hcut.out
          have tt0 : wc.cell? ⟨b, 0, none⟩ = some (.int .i64 ((act p s L[k].1 L[k].2.1 L[k].2.2).1).tm) := rt4.cell 0
          have tt1 : wc.cell? ⟨b, 1, none⟩ = some (.int .i64 ((act p s L[k].1 L[k].2.1 L[k].2.2).1).level) := rt4.cell 1
          have tt2 : wc.cell? ⟨b, 2, none⟩ = some (.int .i64 ((act p s L[k].1 L[k].2.1 L[k].2.2).1).held) := rt4.cell 2
          have tt3 : wc.cell? ⟨b, 3, none⟩ = some (.slice A4 ((act p s L[k].1 L[k].2.1 L[k].2.2).1).log.length cap4) := rt4.cell 3
          have tu0 : wc.cell? ⟨bs, 0, none⟩ = some (.int .i64 (s).tm) := rs4.cell 0
          have tu1 : wc.cell? ⟨bs, 1, none⟩ = some (.int .i64 (s).level) := rs4.cell 1
          have tu2 : wc.cell? ⟨bs, 2, none⟩ = some (.int .i64 (s).held) := rs4.cell 2
          have tu3 : wc.cell? ⟨bs, 3, none⟩ = some (.slice A' (s).log.length cap') := rs4.cell 3
          have tf0 := rs4.free 0
          have tf1 := rs4.free 1
          have tf2 := rs4.free 2
          have tf3 := rs4.free 3
          have HB4 := Lib.hid hB4
          have RP4 := Lib.hid rp4
          have RS4 := Lib.hid rs4
          have HS4 := Lib.hid hS4
          clear hcut hB4 rp4 rt4 hS4 rs4
          go_wp2_with fail
          go_roundg (gk - 1)
          case rel => exact ⟨k + 1, _, A4, cap4, by omega, by have := HG.out; omega, by go_num, (by show _ = _; rw [run_take _ _ _ _ hlt, ← show s = _ from HR.out]), ⟨below_set4 HB4.out hzbs _ _ _ _, RP4.out.far4 (Nat.ne_of_lt hbps) _ _ _ _, RS4.out.set4 _ _ _ _, HS4.out.far4 RS4.out _ _ _ _⟩⟩
          case measure => have := HG.out; omega
      · have hkl : k = L.length := by omega
        have HR := Lib.hid (show s = run p s0 L by rw [show s = _ from HR.out, hkl, List.take_length])
        have HK := Lib.hid (show Ok p s by rw [show s = _ from HR.out]; exact run_ok HK0.out L)
        clear hkl
        rcases halves_cases HK.out (x := 1 + x) (y := 1 + y) (by omega) (by omega) with ⟨sa, su, sh, sc, na, nu, E1, E2, E3, E4, E5, E6⟩ | ⟨su, sv, b1, b2, E1, E2, E3, hbb, E4⟩
        · have E1 := Lib.hid E1
          have E2 := Lib.hid E2
          have E3 := Lib.hid E3
          have E4 := Lib.hid E4
          have E5 := Lib.hid E5
          have E6 := Lib.hid E6
          go_wp2_with fail
          refine (do_is E1.out 0 A' cap' _ HSl.out).mono ?_
          rintro e v1 ⟨A1, cap1, rfl, hs1, hb1⟩
          have rp1 := Box.keep RP.out hb1
          have rs1 := Box.keep RS.out hb1
          have ls1 := Sl.keep HSl.out hb1
          have hB1 := HBr.out.trans (hb1.mono HBr.out.size)
          have cp1_0 : v1.cell? ⟨bp, 0, none⟩ = some (.int .i64 p.kind) := rp1.cell 0
          have cp1_1 : v1.cell? ⟨bp, 1, none⟩ = some (.int .i64 p.limit) := rp1.cell 1
          have cp1_2 : v1.cell? ⟨bp, 2, none⟩ = some (.int .i64 p.period) := rp1.cell 2
          have cp1_3 : v1.cell? ⟨bp, 3, none⟩ = some (.int .i64 p.burst) := rp1.cell 3
          have cp1_4 : v1.cell? ⟨bp, 4, none⟩ = some (.int .i64 p.cap) := rp1.cell 4
          have cp1_5 : v1.cell? ⟨bp, 5, none⟩ = some (.bool p.opn) := rp1.cell 5
          have zp1 := rp1.lt
          have cs1_0 : v1.cell? ⟨bs, 0, none⟩ = some (.int .i64 (s).tm) := rs1.cell 0
          have cs1_1 : v1.cell? ⟨bs, 1, none⟩ = some (.int .i64 (s).level) := rs1.cell 1
          have cs1_2 : v1.cell? ⟨bs, 2, none⟩ = some (.int .i64 (s).held) := rs1.cell 2
          have cs1_3 : v1.cell? ⟨bs, 3, none⟩ = some (.slice A' (s).log.length cap') := rs1.cell 3
          have zs1 := rs1.lt
          have Rp1 := Lib.hid rp1
          have Rs1 := Lib.hid rs1
          have Ls1 := Lib.hid ls1
          have HB1 := Lib.hid hB1
          clear rp1 rs1 ls1 hB1 hb1
          clear p0 p1 p2 p3 p4 p5 ts0 ts1 ts2 ts3 zp zs
          have HS1 := Lib.hid (hs1.mono (Nat.zero_le _))
          clear hs1
          go_wp2_with fail
          refine (do_is E2.out 0 A' cap' _ (Ls1.out.alloc _)).mono ?_
          rintro e v2 ⟨A2, cap2, rfl, hs2, hb2⟩
          have rp2 := Box.keep (Rp1.out.alloc _) hb2
          have rs2 := Box.keep (Rs1.out.alloc _) hb2
          have ls2 := Sl.keep (Ls1.out.alloc _) hb2
          have ral2 := Box.keep (Box.new v1 _ _) hb2
          have lal2 := Sl.keep (HS1.out.alloc _) hb2
          have hB2 := (HB1.out.alloc HB1.out.size _).trans (hb2.mono (Nat.le_trans HB1.out.size (below_lt1 v1 _)))
          have cp2_0 : v2.cell? ⟨bp, 0, none⟩ = some (.int .i64 p.kind) := rp2.cell 0
          have cp2_1 : v2.cell? ⟨bp, 1, none⟩ = some (.int .i64 p.limit) := rp2.cell 1
          have cp2_2 : v2.cell? ⟨bp, 2, none⟩ = some (.int .i64 p.period) := rp2.cell 2
          have cp2_3 : v2.cell? ⟨bp, 3, none⟩ = some (.int .i64 p.burst) := rp2.cell 3
          have cp2_4 : v2.cell? ⟨bp, 4, none⟩ = some (.int .i64 p.cap) := rp2.cell 4
          have cp2_5 : v2.cell? ⟨bp, 5, none⟩ = some (.bool p.opn) := rp2.cell 5
          have zp2 := rp2.lt
          have cs2_0 : v2.cell? ⟨bs, 0, none⟩ = some (.int .i64 (s).tm) := rs2.cell 0
          have cs2_1 : v2.cell? ⟨bs, 1, none⟩ = some (.int .i64 (s).level) := rs2.cell 1
          have cs2_2 : v2.cell? ⟨bs, 2, none⟩ = some (.int .i64 (s).held) := rs2.cell 2
          have cs2_3 : v2.cell? ⟨bs, 3, none⟩ = some (.slice A' (s).log.length cap') := rs2.cell 3
          have zs2 := rs2.lt
          have cal2_0 : v2.cell? ⟨v1.heap.size, 0, none⟩ = some (.int .i64 (sa).tm) := ral2.cell 0
          have cal2_1 : v2.cell? ⟨v1.heap.size, 1, none⟩ = some (.int .i64 (sa).level) := ral2.cell 1
          have cal2_2 : v2.cell? ⟨v1.heap.size, 2, none⟩ = some (.int .i64 (sa).held) := ral2.cell 2
          have cal2_3 : v2.cell? ⟨v1.heap.size, 3, none⟩ = some (.slice A1 (sa).log.length cap1) := ral2.cell 3
          have zal2 := ral2.lt
          have Rp2 := Lib.hid rp2
          have Rs2 := Lib.hid rs2
          have Ls2 := Lib.hid ls2
          have Ral2 := Lib.hid ral2
          have Lal2 := Lib.hid lal2
          have HB2 := Lib.hid hB2
          clear rp2 rs2 ls2 ral2 lal2 hB2 hb2
          clear cp1_0 cp1_1 cp1_2 cp1_3 cp1_4 cp1_5 cs1_0 cs1_1 cs1_2 cs1_3
          have HS2 := Lib.hid (hs2.mono (Nat.zero_le _))
          clear hs2
          go_wp2_with fail
          refine (do_is E3.out 0 A2 cap2 _ (HS2.out.alloc _)).mono ?_
          rintro e v3 ⟨A3, cap3, rfl, hs3, hb3⟩
          have rp3 := Box.keep (Rp2.out.alloc _) hb3
          have rs3 := Box.keep (Rs2.out.alloc _) hb3
          have ls3 := Sl.keep (Ls2.out.alloc _) hb3
          have ral3 := Box.keep (Ral2.out.alloc _) hb3
          have lal3 := Sl.keep (Lal2.out.alloc _) hb3
          have ru3 := Box.keep (Box.new v2 _ _) hb3
          have lu3 := Sl.keep (HS2.out.alloc _) hb3
          have hB3 := (HB2.out.alloc HB2.out.size _).trans (hb3.mono (Nat.le_trans HB2.out.size (below_lt1 v2 _)))
          have cp3_0 : v3.cell? ⟨bp, 0, none⟩ = some (.int .i64 p.kind) := rp3.cell 0
          have cp3_1 : v3.cell? ⟨bp, 1, none⟩ = some (.int .i64 p.limit) := rp3.cell 1
          have cp3_2 : v3.cell? ⟨bp, 2, none⟩ = some (.int .i64 p.period) := rp3.cell 2
          have cp3_3 : v3.cell? ⟨bp, 3, none⟩ = some (.int .i64 p.burst) := rp3.cell 3
          have cp3_4 : v3.cell? ⟨bp, 4, none⟩ = some (.int .i64 p.cap) := rp3.cell 4
          have cp3_5 : v3.cell? ⟨bp, 5, none⟩ = some (.bool p.opn) := rp3.cell 5
          have zp3 := rp3.lt
          have cs3_0 : v3.cell? ⟨bs, 0, none⟩ = some (.int .i64 (s).tm) := rs3.cell 0
          have cs3_1 : v3.cell? ⟨bs, 1, none⟩ = some (.int .i64 (s).level) := rs3.cell 1
          have cs3_2 : v3.cell? ⟨bs, 2, none⟩ = some (.int .i64 (s).held) := rs3.cell 2
          have cs3_3 : v3.cell? ⟨bs, 3, none⟩ = some (.slice A' (s).log.length cap') := rs3.cell 3
          have zs3 := rs3.lt
          have cal3_0 : v3.cell? ⟨v1.heap.size, 0, none⟩ = some (.int .i64 (sa).tm) := ral3.cell 0
          have cal3_1 : v3.cell? ⟨v1.heap.size, 1, none⟩ = some (.int .i64 (sa).level) := ral3.cell 1
          have cal3_2 : v3.cell? ⟨v1.heap.size, 2, none⟩ = some (.int .i64 (sa).held) := ral3.cell 2
          have cal3_3 : v3.cell? ⟨v1.heap.size, 3, none⟩ = some (.slice A1 (sa).log.length cap1) := ral3.cell 3
          have zal3 := ral3.lt
          have cu3_0 : v3.cell? ⟨v2.heap.size, 0, none⟩ = some (.int .i64 (su).tm) := ru3.cell 0
          have cu3_1 : v3.cell? ⟨v2.heap.size, 1, none⟩ = some (.int .i64 (su).level) := ru3.cell 1
          have cu3_2 : v3.cell? ⟨v2.heap.size, 2, none⟩ = some (.int .i64 (su).held) := ru3.cell 2
          have cu3_3 : v3.cell? ⟨v2.heap.size, 3, none⟩ = some (.slice A2 (su).log.length cap2) := ru3.cell 3
          have zu3 := ru3.lt
          have Rp3 := Lib.hid rp3
          have Rs3 := Lib.hid rs3
          have Ls3 := Lib.hid ls3
          have Ral3 := Lib.hid ral3
          have Lal3 := Lib.hid lal3
          have Ru3 := Lib.hid ru3
          have Lu3 := Lib.hid lu3
          have HB3 := Lib.hid hB3
          clear rp3 rs3 ls3 ral3 lal3 ru3 lu3 hB3 hb3
          clear cp2_0 cp2_1 cp2_2 cp2_3 cp2_4 cp2_5 cs2_0 cs2_1 cs2_2 cs2_3 cal2_0 cal2_1 cal2_2 cal2_3
          have HS3 := Lib.hid (hs3.mono (Nat.zero_le _))
          clear hs3
          go_wp2_with fail
          refine (same_of (sameS_self sa) (Lal3.out.alloc _).ents (HS3.out.alloc _).ents (by omega)).mono ?_
          rintro e v4 ⟨rfl, hb4⟩
          have rp4 := Box.keep (Rp3.out.alloc _) hb4
          have rs4 := Box.keep (Rs3.out.alloc _) hb4
          have ls4 := Sl.keep (Ls3.out.alloc _) hb4
          have ral4 := Box.keep (Ral3.out.alloc _) hb4
          have lal4 := Sl.keep (Lal3.out.alloc _) hb4
          have ru4 := Box.keep (Ru3.out.alloc _) hb4
          have lu4 := Sl.keep (Lu3.out.alloc _) hb4
          have rv4 := Box.keep (Box.new v3 _ _) hb4
          have lv4 := Sl.keep (HS3.out.alloc _) hb4
          have hB4 := (HB3.out.alloc HB3.out.size _).trans (hb4.mono (Nat.le_trans HB3.out.size (below_lt1 v3 _)))
          have cp4_0 : v4.cell? ⟨bp, 0, none⟩ = some (.int .i64 p.kind) := rp4.cell 0
          have cp4_1 : v4.cell? ⟨bp, 1, none⟩ = some (.int .i64 p.limit) := rp4.cell 1
          have cp4_2 : v4.cell? ⟨bp, 2, none⟩ = some (.int .i64 p.period) := rp4.cell 2
          have cp4_3 : v4.cell? ⟨bp, 3, none⟩ = some (.int .i64 p.burst) := rp4.cell 3
          have cp4_4 : v4.cell? ⟨bp, 4, none⟩ = some (.int .i64 p.cap) := rp4.cell 4
          have cp4_5 : v4.cell? ⟨bp, 5, none⟩ = some (.bool p.opn) := rp4.cell 5
          have zp4 := rp4.lt
          have cs4_0 : v4.cell? ⟨bs, 0, none⟩ = some (.int .i64 (s).tm) := rs4.cell 0
          have cs4_1 : v4.cell? ⟨bs, 1, none⟩ = some (.int .i64 (s).level) := rs4.cell 1
          have cs4_2 : v4.cell? ⟨bs, 2, none⟩ = some (.int .i64 (s).held) := rs4.cell 2
          have cs4_3 : v4.cell? ⟨bs, 3, none⟩ = some (.slice A' (s).log.length cap') := rs4.cell 3
          have zs4 := rs4.lt
          have cu4_0 : v4.cell? ⟨v2.heap.size, 0, none⟩ = some (.int .i64 (su).tm) := ru4.cell 0
          have cu4_1 : v4.cell? ⟨v2.heap.size, 1, none⟩ = some (.int .i64 (su).level) := ru4.cell 1
          have cu4_2 : v4.cell? ⟨v2.heap.size, 2, none⟩ = some (.int .i64 (su).held) := ru4.cell 2
          have cu4_3 : v4.cell? ⟨v2.heap.size, 3, none⟩ = some (.slice A2 (su).log.length cap2) := ru4.cell 3
          have zu4 := ru4.lt
          have Rp4 := Lib.hid rp4
          have Rs4 := Lib.hid rs4
          have Ls4 := Lib.hid ls4
          have Ral4 := Lib.hid ral4
          have Lal4 := Lib.hid lal4
          have Ru4 := Lib.hid ru4
          have Lu4 := Lib.hid lu4
          have Rv4 := Lib.hid rv4
          have Lv4 := Lib.hid lv4
          have HB4 := Lib.hid hB4
          clear rp4 rs4 ls4 ral4 lal4 ru4 lu4 rv4 lv4 hB4 hb4
          clear cp3_0 cp3_1 cp3_2 cp3_3 cp3_4 cp3_5 cs3_0 cs3_1 cs3_2 cs3_3 cal3_0 cal3_1 cal3_2 cal3_3 cu3_0 cu3_1 cu3_2 cu3_3
          go_wp2_with fail
          refine (do_is E4.out 0 A' cap' _ Ls4.out).mono ?_
          rintro e v5 ⟨A5, cap5, rfl, hs5, hb5⟩
          have rp5 := Box.keep Rp4.out hb5
          have rs5 := Box.keep Rs4.out hb5
          have ls5 := Sl.keep Ls4.out hb5
          have ru5 := Box.keep Ru4.out hb5
          have lu5 := Sl.keep Lu4.out hb5
          have hB5 := HB4.out.trans (hb5.mono HB4.out.size)
          have cp5_0 : v5.cell? ⟨bp, 0, none⟩ = some (.int .i64 p.kind) := rp5.cell 0
          have cp5_1 : v5.cell? ⟨bp, 1, none⟩ = some (.int .i64 p.limit) := rp5.cell 1
          have cp5_2 : v5.cell? ⟨bp, 2, none⟩ = some (.int .i64 p.period) := rp5.cell 2
          have cp5_3 : v5.cell? ⟨bp, 3, none⟩ = some (.int .i64 p.burst) := rp5.cell 3
          have cp5_4 : v5.cell? ⟨bp, 4, none⟩ = some (.int .i64 p.cap) := rp5.cell 4
          have cp5_5 : v5.cell? ⟨bp, 5, none⟩ = some (.bool p.opn) := rp5.cell 5
          have zp5 := rp5.lt
          have cu5_0 : v5.cell? ⟨v2.heap.size, 0, none⟩ = some (.int .i64 (su).tm) := ru5.cell 0
          have cu5_1 : v5.cell? ⟨v2.heap.size, 1, none⟩ = some (.int .i64 (su).level) := ru5.cell 1
          have cu5_2 : v5.cell? ⟨v2.heap.size, 2, none⟩ = some (.int .i64 (su).held) := ru5.cell 2
          have cu5_3 : v5.cell? ⟨v2.heap.size, 3, none⟩ = some (.slice A2 (su).log.length cap2) := ru5.cell 3
          have zu5 := ru5.lt
          have Rp5 := Lib.hid rp5
          have Rs5 := Lib.hid rs5
          have Ls5 := Lib.hid ls5
          have Ru5 := Lib.hid ru5
          have Lu5 := Lib.hid lu5
          have HB5 := Lib.hid hB5
          clear rp5 rs5 ls5 ru5 lu5 hB5 hb5
          clear cp4_0 cp4_1 cp4_2 cp4_3 cp4_4 cp4_5 cs4_0 cs4_1 cs4_2 cs4_3 cu4_0 cu4_1 cu4_2 cu4_3
          have HS5 := Lib.hid (hs5.mono (Nat.zero_le _))
          clear hs5
          go_wp2_with fail
          refine (do_is E5.out 0 A5 cap5 _ (HS5.out.alloc _)).mono ?_
          rintro e v6 ⟨A6, cap6, rfl, hs6, hb6⟩
          have rp6 := Box.keep (Rp5.out.alloc _) hb6
          have ru6 := Box.keep (Ru5.out.alloc _) hb6
          have lu6 := Sl.keep (Lu5.out.alloc _) hb6
          have rh6 := Box.keep (Box.new v5 _ _) hb6
          have lh6 := Sl.keep (HS5.out.alloc _) hb6
          have hB6 := (HB5.out.alloc HB5.out.size _).trans (hb6.mono (Nat.le_trans HB5.out.size (below_lt1 v5 _)))
          have cp6_0 : v6.cell? ⟨bp, 0, none⟩ = some (.int .i64 p.kind) := rp6.cell 0
          have cp6_1 : v6.cell? ⟨bp, 1, none⟩ = some (.int .i64 p.limit) := rp6.cell 1
          have cp6_2 : v6.cell? ⟨bp, 2, none⟩ = some (.int .i64 p.period) := rp6.cell 2
          have cp6_3 : v6.cell? ⟨bp, 3, none⟩ = some (.int .i64 p.burst) := rp6.cell 3
          have cp6_4 : v6.cell? ⟨bp, 4, none⟩ = some (.int .i64 p.cap) := rp6.cell 4
          have cp6_5 : v6.cell? ⟨bp, 5, none⟩ = some (.bool p.opn) := rp6.cell 5
          have zp6 := rp6.lt
          have cu6_0 : v6.cell? ⟨v2.heap.size, 0, none⟩ = some (.int .i64 (su).tm) := ru6.cell 0
          have cu6_1 : v6.cell? ⟨v2.heap.size, 1, none⟩ = some (.int .i64 (su).level) := ru6.cell 1
          have cu6_2 : v6.cell? ⟨v2.heap.size, 2, none⟩ = some (.int .i64 (su).held) := ru6.cell 2
          have cu6_3 : v6.cell? ⟨v2.heap.size, 3, none⟩ = some (.slice A2 (su).log.length cap2) := ru6.cell 3
          have zu6 := ru6.lt
          have Rp6 := Lib.hid rp6
          have Ru6 := Lib.hid ru6
          have Lu6 := Lib.hid lu6
          have Rh6 := Lib.hid rh6
          have Lh6 := Lib.hid lh6
          have HB6 := Lib.hid hB6
          clear rp6 ru6 lu6 rh6 lh6 hB6 hb6
          clear cp5_0 cp5_1 cp5_2 cp5_3 cp5_4 cp5_5 cu5_0 cu5_1 cu5_2 cu5_3
          have HS6 := Lib.hid (hs6.mono (Nat.zero_le _))
          clear hs6
          go_wp2_with fail
          refine (do_is E6.out 0 A6 cap6 _ (HS6.out.alloc _)).mono ?_
          rintro e v7 ⟨A7, cap7, rfl, hs7, hb7⟩
          have rp7 := Box.keep (Rp6.out.alloc _) hb7
          have ru7 := Box.keep (Ru6.out.alloc _) hb7
          have lu7 := Sl.keep (Lu6.out.alloc _) hb7
          have rc7 := Box.keep (Box.new v6 _ _) hb7
          have lc7 := Sl.keep (HS6.out.alloc _) hb7
          have hB7 := (HB6.out.alloc HB6.out.size _).trans (hb7.mono (Nat.le_trans HB6.out.size (below_lt1 v6 _)))
          have cu7_0 : v7.cell? ⟨v2.heap.size, 0, none⟩ = some (.int .i64 (su).tm) := ru7.cell 0
          have cu7_1 : v7.cell? ⟨v2.heap.size, 1, none⟩ = some (.int .i64 (su).level) := ru7.cell 1
          have cu7_2 : v7.cell? ⟨v2.heap.size, 2, none⟩ = some (.int .i64 (su).held) := ru7.cell 2
          have cu7_3 : v7.cell? ⟨v2.heap.size, 3, none⟩ = some (.slice A2 (su).log.length cap2) := ru7.cell 3
          have zu7 := ru7.lt
          have Rp7 := Lib.hid rp7
          have Ru7 := Lib.hid ru7
          have Lu7 := Lib.hid lu7
          have Rc7 := Lib.hid rc7
          have Lc7 := Lib.hid lc7
          have HB7 := Lib.hid hB7
          clear rp7 ru7 lu7 rc7 lc7 hB7 hb7
          clear cp6_0 cp6_1 cp6_2 cp6_3 cp6_4 cp6_5 cu6_0 cu6_1 cu6_2 cu6_3
          have HS7 := Lib.hid (hs7.mono (Nat.zero_le _))
          clear hs7
          go_wp2_with fail
          refine (same_of (sameS_self su) (HS7.out.alloc _).ents (Lu7.out.alloc _).ents (by omega)).mono ?_
          rintro e v8 ⟨rfl, hb8⟩
          have rp8 := Box.keep (Rp7.out.alloc _) hb8
          have ru8 := Box.keep (Ru7.out.alloc _) hb8
          have lu8 := Sl.keep (Lu7.out.alloc _) hb8
          have rc8 := Box.keep (Rc7.out.alloc _) hb8
          have lc8 := Sl.keep (Lc7.out.alloc _) hb8
          have rd8 := Box.keep (Box.new v7 _ _) hb8
          have ld8 := Sl.keep (HS7.out.alloc _) hb8
          have hB8 := (HB7.out.alloc HB7.out.size _).trans (hb8.mono (Nat.le_trans HB7.out.size (below_lt1 v7 _)))
          have Rp8 := Lib.hid rp8
          have Ru8 := Lib.hid ru8
          have Lu8 := Lib.hid lu8
          have Rc8 := Lib.hid rc8
          have Lc8 := Lib.hid lc8
          have Rd8 := Lib.hid rd8
          have Ld8 := Lib.hid ld8
          have HB8 := Lib.hid hB8
          clear rp8 ru8 lu8 rc8 lc8 rd8 ld8 hB8 hb8
          clear cu7_0 cu7_1 cu7_2 cu7_3
          go_wp2_with fail
          refine (known_calls _).mono ?_
          rintro e v9 ⟨rfl, hb9⟩
          have hB9 := HB8.out.trans (hb9.mono HB8.out.size)
          have HB9 := Lib.hid hB9
          clear hB9 hb9
          go_wp2_with fail
          go_ret
          exact ⟨rfl, HB9.out⟩
        · have E1 := Lib.hid E1
          have E2 := Lib.hid E2
          have E3 := Lib.hid E3
          have E4 := Lib.hid E4
          have HBB : (b1 = false ∧ b2 = false) ∨ (b1 = false ∧ b2 = true) ∨ (b1 = true ∧ b2 = false) := by cases b1 <;> cases b2 <;> simp_all
          clear hbb
          rcases HBB with ⟨rfl, rfl⟩ | ⟨rfl, rfl⟩ | ⟨rfl, rfl⟩
          · go_wp2_with fail
            refine (do_is E1.out 0 A' cap' _ HSl.out).mono ?_
            rintro e v1 ⟨A1, cap1, rfl, hs1, hb1⟩
            have rp1 := Box.keep RP.out hb1
            have rs1 := Box.keep RS.out hb1
            have ls1 := Sl.keep HSl.out hb1
            have hB1 := HBr.out.trans (hb1.mono HBr.out.size)
            have cp1_0 : v1.cell? ⟨bp, 0, none⟩ = some (.int .i64 p.kind) := rp1.cell 0
            have cp1_1 : v1.cell? ⟨bp, 1, none⟩ = some (.int .i64 p.limit) := rp1.cell 1
            have cp1_2 : v1.cell? ⟨bp, 2, none⟩ = some (.int .i64 p.period) := rp1.cell 2
            have cp1_3 : v1.cell? ⟨bp, 3, none⟩ = some (.int .i64 p.burst) := rp1.cell 3
            have cp1_4 : v1.cell? ⟨bp, 4, none⟩ = some (.int .i64 p.cap) := rp1.cell 4
            have cp1_5 : v1.cell? ⟨bp, 5, none⟩ = some (.bool p.opn) := rp1.cell 5
            have zp1 := rp1.lt
            have cs1_0 : v1.cell? ⟨bs, 0, none⟩ = some (.int .i64 (s).tm) := rs1.cell 0
            have cs1_1 : v1.cell? ⟨bs, 1, none⟩ = some (.int .i64 (s).level) := rs1.cell 1
            have cs1_2 : v1.cell? ⟨bs, 2, none⟩ = some (.int .i64 (s).held) := rs1.cell 2
            have cs1_3 : v1.cell? ⟨bs, 3, none⟩ = some (.slice A' (s).log.length cap') := rs1.cell 3
            have zs1 := rs1.lt
            have Rp1 := Lib.hid rp1
            have Rs1 := Lib.hid rs1
            have Ls1 := Lib.hid ls1
            have HB1 := Lib.hid hB1
            clear rp1 rs1 ls1 hB1 hb1
            clear p0 p1 p2 p3 p4 p5 ts0 ts1 ts2 ts3 zp zs
            have HS1 := Lib.hid (hs1.mono (Nat.zero_le _))
            clear hs1
            go_wp2_with fail
            refine (do_is E2.out 0 A' cap' _ (Ls1.out.alloc _)).mono ?_
            rintro e v2 ⟨A2, cap2, rfl, hs2, hb2⟩
            have rp2 := Box.keep (Rp1.out.alloc _) hb2
            have rs2 := Box.keep (Rs1.out.alloc _) hb2
            have ls2 := Sl.keep (Ls1.out.alloc _) hb2
            have ral2 := Box.keep (Box.new v1 _ _) hb2
            have lal2 := Sl.keep (HS1.out.alloc _) hb2
            have hB2 := (HB1.out.alloc HB1.out.size _).trans (hb2.mono (Nat.le_trans HB1.out.size (below_lt1 v1 _)))
            have cp2_0 : v2.cell? ⟨bp, 0, none⟩ = some (.int .i64 p.kind) := rp2.cell 0
            have cp2_1 : v2.cell? ⟨bp, 1, none⟩ = some (.int .i64 p.limit) := rp2.cell 1
            have cp2_2 : v2.cell? ⟨bp, 2, none⟩ = some (.int .i64 p.period) := rp2.cell 2
            have cp2_3 : v2.cell? ⟨bp, 3, none⟩ = some (.int .i64 p.burst) := rp2.cell 3
            have cp2_4 : v2.cell? ⟨bp, 4, none⟩ = some (.int .i64 p.cap) := rp2.cell 4
            have cp2_5 : v2.cell? ⟨bp, 5, none⟩ = some (.bool p.opn) := rp2.cell 5
            have zp2 := rp2.lt
            have cs2_0 : v2.cell? ⟨bs, 0, none⟩ = some (.int .i64 (s).tm) := rs2.cell 0
            have cs2_1 : v2.cell? ⟨bs, 1, none⟩ = some (.int .i64 (s).level) := rs2.cell 1
            have cs2_2 : v2.cell? ⟨bs, 2, none⟩ = some (.int .i64 (s).held) := rs2.cell 2
            have cs2_3 : v2.cell? ⟨bs, 3, none⟩ = some (.slice A' (s).log.length cap') := rs2.cell 3
            have zs2 := rs2.lt
            have cal2_0 : v2.cell? ⟨v1.heap.size, 0, none⟩ = some (.int .i64 (s).tm) := ral2.cell 0
            have cal2_1 : v2.cell? ⟨v1.heap.size, 1, none⟩ = some (.int .i64 (s).level) := ral2.cell 1
            have cal2_2 : v2.cell? ⟨v1.heap.size, 2, none⟩ = some (.int .i64 (s).held) := ral2.cell 2
            have cal2_3 : v2.cell? ⟨v1.heap.size, 3, none⟩ = some (.slice A1 (s).log.length cap1) := ral2.cell 3
            have zal2 := ral2.lt
            have Rp2 := Lib.hid rp2
            have Rs2 := Lib.hid rs2
            have Ls2 := Lib.hid ls2
            have Ral2 := Lib.hid ral2
            have Lal2 := Lib.hid lal2
            have HB2 := Lib.hid hB2
            clear rp2 rs2 ls2 ral2 lal2 hB2 hb2
            clear cp1_0 cp1_1 cp1_2 cp1_3 cp1_4 cp1_5 cs1_0 cs1_1 cs1_2 cs1_3
            have HS2 := Lib.hid (hs2.mono (Nat.zero_le _))
            clear hs2
            go_wp2_with fail
            refine (do_is E3.out 0 A2 cap2 _ (HS2.out.alloc _)).mono ?_
            rintro e v3 ⟨A3, cap3, rfl, hs3, hb3⟩
            have rp3 := Box.keep (Rp2.out.alloc _) hb3
            have rs3 := Box.keep (Rs2.out.alloc _) hb3
            have ls3 := Sl.keep (Ls2.out.alloc _) hb3
            have ral3 := Box.keep (Ral2.out.alloc _) hb3
            have lal3 := Sl.keep (Lal2.out.alloc _) hb3
            have ru3 := Box.keep (Box.new v2 _ _) hb3
            have lu3 := Sl.keep (HS2.out.alloc _) hb3
            have hB3 := (HB2.out.alloc HB2.out.size _).trans (hb3.mono (Nat.le_trans HB2.out.size (below_lt1 v2 _)))
            have cp3_0 : v3.cell? ⟨bp, 0, none⟩ = some (.int .i64 p.kind) := rp3.cell 0
            have cp3_1 : v3.cell? ⟨bp, 1, none⟩ = some (.int .i64 p.limit) := rp3.cell 1
            have cp3_2 : v3.cell? ⟨bp, 2, none⟩ = some (.int .i64 p.period) := rp3.cell 2
            have cp3_3 : v3.cell? ⟨bp, 3, none⟩ = some (.int .i64 p.burst) := rp3.cell 3
            have cp3_4 : v3.cell? ⟨bp, 4, none⟩ = some (.int .i64 p.cap) := rp3.cell 4
            have cp3_5 : v3.cell? ⟨bp, 5, none⟩ = some (.bool p.opn) := rp3.cell 5
            have zp3 := rp3.lt
            have cs3_0 : v3.cell? ⟨bs, 0, none⟩ = some (.int .i64 (s).tm) := rs3.cell 0
            have cs3_1 : v3.cell? ⟨bs, 1, none⟩ = some (.int .i64 (s).level) := rs3.cell 1
            have cs3_2 : v3.cell? ⟨bs, 2, none⟩ = some (.int .i64 (s).held) := rs3.cell 2
            have cs3_3 : v3.cell? ⟨bs, 3, none⟩ = some (.slice A' (s).log.length cap') := rs3.cell 3
            have zs3 := rs3.lt
            have Rp3 := Lib.hid rp3
            have Rs3 := Lib.hid rs3
            have Ls3 := Lib.hid ls3
            have Ral3 := Lib.hid ral3
            have Lal3 := Lib.hid lal3
            have Ru3 := Lib.hid ru3
            have Lu3 := Lib.hid lu3
            have HB3 := Lib.hid hB3
            clear rp3 rs3 ls3 ral3 lal3 ru3 lu3 hB3 hb3
            clear cp2_0 cp2_1 cp2_2 cp2_3 cp2_4 cp2_5 cs2_0 cs2_1 cs2_2 cs2_3 cal2_0 cal2_1 cal2_2 cal2_3
            have HS3 := Lib.hid (hs3.mono (Nat.zero_le _))
            clear hs3
            go_wp2_with fail
            refine (do_is E4.out 0 A' cap' _ (Ls3.out.alloc _)).mono ?_
            rintro e v4 ⟨A4, cap4, rfl, hs4, hb4⟩
            have rp4 := Box.keep (Rp3.out.alloc _) hb4
            have rs4 := Box.keep (Rs3.out.alloc _) hb4
            have ls4 := Sl.keep (Ls3.out.alloc _) hb4
            have hB4 := (HB3.out.alloc HB3.out.size _).trans (hb4.mono (Nat.le_trans HB3.out.size (below_lt1 v3 _)))
            have Rp4 := Lib.hid rp4
            have Rs4 := Lib.hid rs4
            have Ls4 := Lib.hid ls4
            have HB4 := Lib.hid hB4
            clear rp4 rs4 ls4 hB4 hb4
            clear cp3_0 cp3_1 cp3_2 cp3_3 cp3_4 cp3_5 cs3_0 cs3_1 cs3_2 cs3_3
            have HS4 := Lib.hid (hs4.mono (Nat.zero_le _))
            clear hs4
            go_wp2_with fail
            refine (known_calls _).mono ?_
            rintro e v5 ⟨rfl, hb5⟩
            have hB5 := (HB4.out.alloc HB4.out.size _).trans (hb5.mono (Nat.le_trans HB4.out.size (below_lt1 v4 _)))
            have HB5 := Lib.hid hB5
            clear hB5 hb5
            go_wp2_with fail
            go_ret
            exact ⟨rfl, HB5.out⟩
          · go_wp2_with fail
            refine (do_is E1.out 0 A' cap' _ HSl.out).mono ?_
            rintro e v1 ⟨A1, cap1, rfl, hs1, hb1⟩
            have rp1 := Box.keep RP.out hb1
            have rs1 := Box.keep RS.out hb1
            have ls1 := Sl.keep HSl.out hb1
            have hB1 := HBr.out.trans (hb1.mono HBr.out.size)
            have cp1_0 : v1.cell? ⟨bp, 0, none⟩ = some (.int .i64 p.kind) := rp1.cell 0
            have cp1_1 : v1.cell? ⟨bp, 1, none⟩ = some (.int .i64 p.limit) := rp1.cell 1
            have cp1_2 : v1.cell? ⟨bp, 2, none⟩ = some (.int .i64 p.period) := rp1.cell 2
            have cp1_3 : v1.cell? ⟨bp, 3, none⟩ = some (.int .i64 p.burst) := rp1.cell 3
            have cp1_4 : v1.cell? ⟨bp, 4, none⟩ = some (.int .i64 p.cap) := rp1.cell 4
            have cp1_5 : v1.cell? ⟨bp, 5, none⟩ = some (.bool p.opn) := rp1.cell 5
            have zp1 := rp1.lt
            have cs1_0 : v1.cell? ⟨bs, 0, none⟩ = some (.int .i64 (s).tm) := rs1.cell 0
            have cs1_1 : v1.cell? ⟨bs, 1, none⟩ = some (.int .i64 (s).level) := rs1.cell 1
            have cs1_2 : v1.cell? ⟨bs, 2, none⟩ = some (.int .i64 (s).held) := rs1.cell 2
            have cs1_3 : v1.cell? ⟨bs, 3, none⟩ = some (.slice A' (s).log.length cap') := rs1.cell 3
            have zs1 := rs1.lt
            have Rp1 := Lib.hid rp1
            have Rs1 := Lib.hid rs1
            have Ls1 := Lib.hid ls1
            have HB1 := Lib.hid hB1
            clear rp1 rs1 ls1 hB1 hb1
            clear p0 p1 p2 p3 p4 p5 ts0 ts1 ts2 ts3 zp zs
            have HS1 := Lib.hid (hs1.mono (Nat.zero_le _))
            clear hs1
            go_wp2_with fail
            refine (do_is E2.out 0 A' cap' _ (Ls1.out.alloc _)).mono ?_
            rintro e v2 ⟨A2, cap2, rfl, hs2, hb2⟩
            have rp2 := Box.keep (Rp1.out.alloc _) hb2
            have rs2 := Box.keep (Rs1.out.alloc _) hb2
            have ls2 := Sl.keep (Ls1.out.alloc _) hb2
            have ral2 := Box.keep (Box.new v1 _ _) hb2
            have lal2 := Sl.keep (HS1.out.alloc _) hb2
            have hB2 := (HB1.out.alloc HB1.out.size _).trans (hb2.mono (Nat.le_trans HB1.out.size (below_lt1 v1 _)))
            have cp2_0 : v2.cell? ⟨bp, 0, none⟩ = some (.int .i64 p.kind) := rp2.cell 0
            have cp2_1 : v2.cell? ⟨bp, 1, none⟩ = some (.int .i64 p.limit) := rp2.cell 1
            have cp2_2 : v2.cell? ⟨bp, 2, none⟩ = some (.int .i64 p.period) := rp2.cell 2
            have cp2_3 : v2.cell? ⟨bp, 3, none⟩ = some (.int .i64 p.burst) := rp2.cell 3
            have cp2_4 : v2.cell? ⟨bp, 4, none⟩ = some (.int .i64 p.cap) := rp2.cell 4
            have cp2_5 : v2.cell? ⟨bp, 5, none⟩ = some (.bool p.opn) := rp2.cell 5
            have zp2 := rp2.lt
            have cs2_0 : v2.cell? ⟨bs, 0, none⟩ = some (.int .i64 (s).tm) := rs2.cell 0
            have cs2_1 : v2.cell? ⟨bs, 1, none⟩ = some (.int .i64 (s).level) := rs2.cell 1
            have cs2_2 : v2.cell? ⟨bs, 2, none⟩ = some (.int .i64 (s).held) := rs2.cell 2
            have cs2_3 : v2.cell? ⟨bs, 3, none⟩ = some (.slice A' (s).log.length cap') := rs2.cell 3
            have zs2 := rs2.lt
            have cal2_0 : v2.cell? ⟨v1.heap.size, 0, none⟩ = some (.int .i64 (s).tm) := ral2.cell 0
            have cal2_1 : v2.cell? ⟨v1.heap.size, 1, none⟩ = some (.int .i64 (s).level) := ral2.cell 1
            have cal2_2 : v2.cell? ⟨v1.heap.size, 2, none⟩ = some (.int .i64 (s).held) := ral2.cell 2
            have cal2_3 : v2.cell? ⟨v1.heap.size, 3, none⟩ = some (.slice A1 (s).log.length cap1) := ral2.cell 3
            have zal2 := ral2.lt
            have Rp2 := Lib.hid rp2
            have Rs2 := Lib.hid rs2
            have Ls2 := Lib.hid ls2
            have Ral2 := Lib.hid ral2
            have Lal2 := Lib.hid lal2
            have HB2 := Lib.hid hB2
            clear rp2 rs2 ls2 ral2 lal2 hB2 hb2
            clear cp1_0 cp1_1 cp1_2 cp1_3 cp1_4 cp1_5 cs1_0 cs1_1 cs1_2 cs1_3
            have HS2 := Lib.hid (hs2.mono (Nat.zero_le _))
            clear hs2
            go_wp2_with fail
            refine (do_is E3.out 0 A2 cap2 _ (HS2.out.alloc _)).mono ?_
            rintro e v3 ⟨A3, cap3, rfl, hs3, hb3⟩
            have rp3 := Box.keep (Rp2.out.alloc _) hb3
            have rs3 := Box.keep (Rs2.out.alloc _) hb3
            have ls3 := Sl.keep (Ls2.out.alloc _) hb3
            have ral3 := Box.keep (Ral2.out.alloc _) hb3
            have lal3 := Sl.keep (Lal2.out.alloc _) hb3
            have ru3 := Box.keep (Box.new v2 _ _) hb3
            have lu3 := Sl.keep (HS2.out.alloc _) hb3
            have hB3 := (HB2.out.alloc HB2.out.size _).trans (hb3.mono (Nat.le_trans HB2.out.size (below_lt1 v2 _)))
            have cp3_0 : v3.cell? ⟨bp, 0, none⟩ = some (.int .i64 p.kind) := rp3.cell 0
            have cp3_1 : v3.cell? ⟨bp, 1, none⟩ = some (.int .i64 p.limit) := rp3.cell 1
            have cp3_2 : v3.cell? ⟨bp, 2, none⟩ = some (.int .i64 p.period) := rp3.cell 2
            have cp3_3 : v3.cell? ⟨bp, 3, none⟩ = some (.int .i64 p.burst) := rp3.cell 3
            have cp3_4 : v3.cell? ⟨bp, 4, none⟩ = some (.int .i64 p.cap) := rp3.cell 4
            have cp3_5 : v3.cell? ⟨bp, 5, none⟩ = some (.bool p.opn) := rp3.cell 5
            have zp3 := rp3.lt
            have cs3_0 : v3.cell? ⟨bs, 0, none⟩ = some (.int .i64 (s).tm) := rs3.cell 0
            have cs3_1 : v3.cell? ⟨bs, 1, none⟩ = some (.int .i64 (s).level) := rs3.cell 1
            have cs3_2 : v3.cell? ⟨bs, 2, none⟩ = some (.int .i64 (s).held) := rs3.cell 2
            have cs3_3 : v3.cell? ⟨bs, 3, none⟩ = some (.slice A' (s).log.length cap') := rs3.cell 3
            have zs3 := rs3.lt
            have Rp3 := Lib.hid rp3
            have Rs3 := Lib.hid rs3
            have Ls3 := Lib.hid ls3
            have Ral3 := Lib.hid ral3
            have Lal3 := Lib.hid lal3
            have Ru3 := Lib.hid ru3
            have Lu3 := Lib.hid lu3
            have HB3 := Lib.hid hB3
            clear rp3 rs3 ls3 ral3 lal3 ru3 lu3 hB3 hb3
            clear cp2_0 cp2_1 cp2_2 cp2_3 cp2_4 cp2_5 cs2_0 cs2_1 cs2_2 cs2_3 cal2_0 cal2_1 cal2_2 cal2_3
            have HS3 := Lib.hid (hs3.mono (Nat.zero_le _))
            clear hs3
            go_wp2_with fail
            refine (do_is E4.out 0 A' cap' _ (Ls3.out.alloc _)).mono ?_
            rintro e v4 ⟨A4, cap4, rfl, hs4, hb4⟩
            have rp4 := Box.keep (Rp3.out.alloc _) hb4
            have rs4 := Box.keep (Rs3.out.alloc _) hb4
            have ls4 := Sl.keep (Ls3.out.alloc _) hb4
            have hB4 := (HB3.out.alloc HB3.out.size _).trans (hb4.mono (Nat.le_trans HB3.out.size (below_lt1 v3 _)))
            have Rp4 := Lib.hid rp4
            have Rs4 := Lib.hid rs4
            have Ls4 := Lib.hid ls4
            have HB4 := Lib.hid hB4
            clear rp4 rs4 ls4 hB4 hb4
            clear cp3_0 cp3_1 cp3_2 cp3_3 cp3_4 cp3_5 cs3_0 cs3_1 cs3_2 cs3_3
            have HS4 := Lib.hid (hs4.mono (Nat.zero_le _))
            clear hs4
            go_wp2_with fail
            refine (known_calls _).mono ?_
            rintro e v5 ⟨rfl, hb5⟩
            have hB5 := (HB4.out.alloc HB4.out.size _).trans (hb5.mono (Nat.le_trans HB4.out.size (below_lt1 v4 _)))
            have HB5 := Lib.hid hB5
            clear hB5 hb5
            go_wp2_with fail
            go_ret
            exact ⟨rfl, HB5.out⟩
          · go_wp2_with fail
            refine (do_is E1.out 0 A' cap' _ HSl.out).mono ?_
            rintro e v1 ⟨A1, cap1, rfl, hs1, hb1⟩
            have rp1 := Box.keep RP.out hb1
            have rs1 := Box.keep RS.out hb1
            have ls1 := Sl.keep HSl.out hb1
            have hB1 := HBr.out.trans (hb1.mono HBr.out.size)
            have cp1_0 : v1.cell? ⟨bp, 0, none⟩ = some (.int .i64 p.kind) := rp1.cell 0
            have cp1_1 : v1.cell? ⟨bp, 1, none⟩ = some (.int .i64 p.limit) := rp1.cell 1
            have cp1_2 : v1.cell? ⟨bp, 2, none⟩ = some (.int .i64 p.period) := rp1.cell 2
            have cp1_3 : v1.cell? ⟨bp, 3, none⟩ = some (.int .i64 p.burst) := rp1.cell 3
            have cp1_4 : v1.cell? ⟨bp, 4, none⟩ = some (.int .i64 p.cap) := rp1.cell 4
            have cp1_5 : v1.cell? ⟨bp, 5, none⟩ = some (.bool p.opn) := rp1.cell 5
            have zp1 := rp1.lt
            have cs1_0 : v1.cell? ⟨bs, 0, none⟩ = some (.int .i64 (s).tm) := rs1.cell 0
            have cs1_1 : v1.cell? ⟨bs, 1, none⟩ = some (.int .i64 (s).level) := rs1.cell 1
            have cs1_2 : v1.cell? ⟨bs, 2, none⟩ = some (.int .i64 (s).held) := rs1.cell 2
            have cs1_3 : v1.cell? ⟨bs, 3, none⟩ = some (.slice A' (s).log.length cap') := rs1.cell 3
            have zs1 := rs1.lt
            have Rp1 := Lib.hid rp1
            have Rs1 := Lib.hid rs1
            have Ls1 := Lib.hid ls1
            have HB1 := Lib.hid hB1
            clear rp1 rs1 ls1 hB1 hb1
            clear p0 p1 p2 p3 p4 p5 ts0 ts1 ts2 ts3 zp zs
            have HS1 := Lib.hid (hs1.mono (Nat.zero_le _))
            clear hs1
            go_wp2_with fail
            refine (do_is E2.out 0 A' cap' _ (Ls1.out.alloc _)).mono ?_
            rintro e v2 ⟨A2, cap2, rfl, hs2, hb2⟩
            have rp2 := Box.keep (Rp1.out.alloc _) hb2
            have rs2 := Box.keep (Rs1.out.alloc _) hb2
            have ls2 := Sl.keep (Ls1.out.alloc _) hb2
            have ral2 := Box.keep (Box.new v1 _ _) hb2
            have lal2 := Sl.keep (HS1.out.alloc _) hb2
            have hB2 := (HB1.out.alloc HB1.out.size _).trans (hb2.mono (Nat.le_trans HB1.out.size (below_lt1 v1 _)))
            have cp2_0 : v2.cell? ⟨bp, 0, none⟩ = some (.int .i64 p.kind) := rp2.cell 0
            have cp2_1 : v2.cell? ⟨bp, 1, none⟩ = some (.int .i64 p.limit) := rp2.cell 1
            have cp2_2 : v2.cell? ⟨bp, 2, none⟩ = some (.int .i64 p.period) := rp2.cell 2
            have cp2_3 : v2.cell? ⟨bp, 3, none⟩ = some (.int .i64 p.burst) := rp2.cell 3
            have cp2_4 : v2.cell? ⟨bp, 4, none⟩ = some (.int .i64 p.cap) := rp2.cell 4
            have cp2_5 : v2.cell? ⟨bp, 5, none⟩ = some (.bool p.opn) := rp2.cell 5
            have zp2 := rp2.lt
            have cs2_0 : v2.cell? ⟨bs, 0, none⟩ = some (.int .i64 (s).tm) := rs2.cell 0
            have cs2_1 : v2.cell? ⟨bs, 1, none⟩ = some (.int .i64 (s).level) := rs2.cell 1
            have cs2_2 : v2.cell? ⟨bs, 2, none⟩ = some (.int .i64 (s).held) := rs2.cell 2
            have cs2_3 : v2.cell? ⟨bs, 3, none⟩ = some (.slice A' (s).log.length cap') := rs2.cell 3
            have zs2 := rs2.lt
            have cal2_0 : v2.cell? ⟨v1.heap.size, 0, none⟩ = some (.int .i64 (s).tm) := ral2.cell 0
            have cal2_1 : v2.cell? ⟨v1.heap.size, 1, none⟩ = some (.int .i64 (s).level) := ral2.cell 1
            have cal2_2 : v2.cell? ⟨v1.heap.size, 2, none⟩ = some (.int .i64 (s).held) := ral2.cell 2
            have cal2_3 : v2.cell? ⟨v1.heap.size, 3, none⟩ = some (.slice A1 (s).log.length cap1) := ral2.cell 3
            have zal2 := ral2.lt
            have Rp2 := Lib.hid rp2
            have Rs2 := Lib.hid rs2
            have Ls2 := Lib.hid ls2
            have Ral2 := Lib.hid ral2
            have Lal2 := Lib.hid lal2
            have HB2 := Lib.hid hB2
            clear rp2 rs2 ls2 ral2 lal2 hB2 hb2
            clear cp1_0 cp1_1 cp1_2 cp1_3 cp1_4 cp1_5 cs1_0 cs1_1 cs1_2 cs1_3
            have HS2 := Lib.hid (hs2.mono (Nat.zero_le _))
            clear hs2
            go_wp2_with fail
            refine (do_is E3.out 0 A2 cap2 _ (HS2.out.alloc _)).mono ?_
            rintro e v3 ⟨A3, cap3, rfl, hs3, hb3⟩
            have rp3 := Box.keep (Rp2.out.alloc _) hb3
            have rs3 := Box.keep (Rs2.out.alloc _) hb3
            have ls3 := Sl.keep (Ls2.out.alloc _) hb3
            have ral3 := Box.keep (Ral2.out.alloc _) hb3
            have lal3 := Sl.keep (Lal2.out.alloc _) hb3
            have ru3 := Box.keep (Box.new v2 _ _) hb3
            have lu3 := Sl.keep (HS2.out.alloc _) hb3
            have hB3 := (HB2.out.alloc HB2.out.size _).trans (hb3.mono (Nat.le_trans HB2.out.size (below_lt1 v2 _)))
            have cp3_0 : v3.cell? ⟨bp, 0, none⟩ = some (.int .i64 p.kind) := rp3.cell 0
            have cp3_1 : v3.cell? ⟨bp, 1, none⟩ = some (.int .i64 p.limit) := rp3.cell 1
            have cp3_2 : v3.cell? ⟨bp, 2, none⟩ = some (.int .i64 p.period) := rp3.cell 2
            have cp3_3 : v3.cell? ⟨bp, 3, none⟩ = some (.int .i64 p.burst) := rp3.cell 3
            have cp3_4 : v3.cell? ⟨bp, 4, none⟩ = some (.int .i64 p.cap) := rp3.cell 4
            have cp3_5 : v3.cell? ⟨bp, 5, none⟩ = some (.bool p.opn) := rp3.cell 5
            have zp3 := rp3.lt
            have cs3_0 : v3.cell? ⟨bs, 0, none⟩ = some (.int .i64 (s).tm) := rs3.cell 0
            have cs3_1 : v3.cell? ⟨bs, 1, none⟩ = some (.int .i64 (s).level) := rs3.cell 1
            have cs3_2 : v3.cell? ⟨bs, 2, none⟩ = some (.int .i64 (s).held) := rs3.cell 2
            have cs3_3 : v3.cell? ⟨bs, 3, none⟩ = some (.slice A' (s).log.length cap') := rs3.cell 3
            have zs3 := rs3.lt
            have Rp3 := Lib.hid rp3
            have Rs3 := Lib.hid rs3
            have Ls3 := Lib.hid ls3
            have Ral3 := Lib.hid ral3
            have Lal3 := Lib.hid lal3
            have Ru3 := Lib.hid ru3
            have Lu3 := Lib.hid lu3
            have HB3 := Lib.hid hB3
            clear rp3 rs3 ls3 ral3 lal3 ru3 lu3 hB3 hb3
            clear cp2_0 cp2_1 cp2_2 cp2_3 cp2_4 cp2_5 cs2_0 cs2_1 cs2_2 cs2_3 cal2_0 cal2_1 cal2_2 cal2_3
            have HS3 := Lib.hid (hs3.mono (Nat.zero_le _))
            clear hs3
            go_wp2_with fail
            refine (do_is E4.out 0 A' cap' _ (Ls3.out.alloc _)).mono ?_
            rintro e v4 ⟨A4, cap4, rfl, hs4, hb4⟩
            have rp4 := Box.keep (Rp3.out.alloc _) hb4
            have rs4 := Box.keep (Rs3.out.alloc _) hb4
            have ls4 := Sl.keep (Ls3.out.alloc _) hb4
            have hB4 := (HB3.out.alloc HB3.out.size _).trans (hb4.mono (Nat.le_trans HB3.out.size (below_lt1 v3 _)))
            have Rp4 := Lib.hid rp4
            have Rs4 := Lib.hid rs4
            have Ls4 := Lib.hid ls4
            have HB4 := Lib.hid hB4
            clear rp4 rs4 ls4 hB4 hb4
            clear cp3_0 cp3_1 cp3_2 cp3_3 cp3_4 cp3_5 cs3_0 cs3_1 cs3_2 cs3_3
            have HS4 := Lib.hid (hs4.mono (Nat.zero_le _))
            clear hs4
            go_wp2_with fail
            refine (known_calls _).mono ?_
            rintro e v5 ⟨rfl, hb5⟩
            have hB5 := (HB4.out.alloc HB4.out.size _).trans (hb5.mono (Nat.le_trans HB4.out.size (below_lt1 v4 _)))
            have HB5 := Lib.hid hB5
            clear hB5 hb5
            go_wp2_with fail
            go_ret
            exact ⟨rfl, HB5.out⟩
  · go_enter Try.func9, Try.ntmps9
    go_wp2_with fail
    refine (small_no hs A cap _).mono ?_
    rintro e w1 ⟨rfl, rfl⟩
    go_wp2_with fail
    refine (known_calls _).mono ?_
    rintro e w1 ⟨rfl, hb1⟩
    have HB1 := Lib.hid hb1
    clear hb1
    go_wp2_with fail
    go_ret
    exact ⟨rfl, HB1.out⟩

end Wn
end Go.Proofs.Ytikfjdpkjifcdaa
