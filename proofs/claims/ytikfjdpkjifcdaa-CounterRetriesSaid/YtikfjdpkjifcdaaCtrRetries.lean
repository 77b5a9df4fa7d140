/-
  The walk of the law CounterRetries.
-/
import Derived.Test.YtikfjdpkjifcdaaCtrKnown
import Derived.Test.YtikfjdpkjifcdaaCtrMore
import Derived.Deep.DrawnRows
namespace Go.Proofs.Ytikfjdpkjifcdaa
open Go.RowKit
attribute [local go_sem ↓] Go.wp_at_zero Go.wp_at_succ
namespace Wn

set_option maxHeartbeats 32000000 in
set_option maxRecDepth 100000 in
theorem retries_law (limit period nn : Int) (h1 : 0 ≤ limit ∧ limit < 65536) (h2 : 0 ≤ period ∧ period < 65536) (A : Option Addr) (cap : Nat) (L : List (Int × Int × Int)) (c : Int) (hcb : 0 ≤ c ∧ c < 256) (w : World) (hA : Acts w A L) :
    Calls Try.prog 5 #[.int .u16 limit, .int .u16 period, .int .u16 nn, .slice A L.length cap, .int .u8 c] w fun e w' => e = .returned (.bool true) ∧ Below w.heap.size w w' := by
  have HA := Lib.hid hA
  clear hA
  by_cases hs : L.length ≤ 60
  · obtain ⟨p, hp⟩ : ∃ p, ofP limit period = p := ⟨_, rfl⟩
    obtain ⟨s0, hs0⟩ : ∃ s0, new p 0 = s0 := ⟨_, rfl⟩
    have HP := Lib.hid hp
    have HS0 := Lib.hid hs0
    have HK0 := Lib.hid (show Ok p s0 by rw [← hs0]; exact ok_new (by rw [← hp]; exact chk_ofP h1 h2) 0)
    have HL0 := Lib.hid (show s0.log = [] by rw [← hs0]; exact new_log p 0)
    clear hp hs0
    go_enter Try.func5, Try.ntmps5
    go_wp2_with fail
    refine (small_yes hs A cap _).mono ?_
    rintro e w1 ⟨rfl, rfl⟩
    go_wp2_with fail
    refine (of_at HP.out h1 h2 _).mono ?_
    rintro e w1 ⟨rfl, hb1⟩
    have HB1 := Lib.hid hb1
    have z1 := hb1.size
    clear hb1
    go_wp2_with fail
    refine (new_at HS0.out _).mono ?_
    rintro e w2 ⟨rfl, hb2⟩
    have HBP := Lib.hid ((Box.new w1 23 (pcells p)).keep hb2)
    have HB2 := Lib.hid ((HB1.out.alloc z1 _).trans (hb2.mono (Nat.le_trans z1 (below_lt1 w1 _))))
    have z2 : w.heap.size ≤ w2.heap.size := HB2.out.size
    have hbp : w1.heap.size < w2.heap.size := HBP.out.lt
    have HW1 := Lib.hid hb2
    clear hb2
    obtain ⟨bp, ebp⟩ : ∃ b, w1.heap.size = b := ⟨_, rfl⟩
    obtain ⟨bs, ebs⟩ : ∃ b, w2.heap.size = b := ⟨_, rfl⟩
    have HBP := Lib.hid (show Box w2 bp 23 (pcells p) by rw [← ebp]; exact HBP.out)
    go_wp2_with fail
    have hzbs : w.heap.size ≤ bs := by rw [← ebs]; exact z2
    have hbps : bp < bs := by rw [← ebp, ← ebs]; exact hbp
    go_loopg [13] L.length (fun g i wr => ∃ (k : Nat) (s : St) (A' : Option Addr) (cap' : Nat), k ≤ L.length ∧ g = L.length - k ∧ i = .int .i64 k ∧ Hid (s = run p s0 (L.take k)) ∧ Hid (At w wr bp bs p s A' cap'))
    case atStart => exact ⟨0, s0, none, 0, Nat.zero_le _, rfl, rfl, rfl, HB2.out.alloc z2 _, HBP.out.alloc _, (by rw [HL0.out, ← ebs]; exact Box.new _ _ _), (by rw [HL0.out]; exact Sl.nil _ _)⟩
    case round =>
      obtain ⟨k, s, A', cap', hk, hg, rfl, HR, HT⟩ := hrel
      have HG := Lib.hid hg
      obtain ⟨hBr, rp, rs, hSl⟩ := HT.out
      have RP := Lib.hid rp
      have RS := Lib.hid rs
      have HBr := Lib.hid hBr
      have hz0 : w.heap.size ≤ wr.heap.size := hBr.size
      have HAr := Lib.hid (HA.out.keep hBr)
      have HSl := Lib.hid hSl
      have HT := Lib.hid HT
      clear hg hBr hSl
      have p0 : wr.cell? ⟨bp, 0, none⟩ = some (.int .i64 p.kind) := rp.cell 0
      have p1 : wr.cell? ⟨bp, 1, none⟩ = some (.int .i64 p.limit) := rp.cell 1
      have p2 : wr.cell? ⟨bp, 2, none⟩ = some (.int .i64 p.period) := rp.cell 2
      have p3 : wr.cell? ⟨bp, 3, none⟩ = some (.int .i64 p.burst) := rp.cell 3
      have p4 : wr.cell? ⟨bp, 4, none⟩ = some (.int .i64 p.cap) := rp.cell 4
      have p5 : wr.cell? ⟨bp, 5, none⟩ = some (.bool p.opn) := rp.cell 5
      have ts0 : wr.cell? ⟨bs, 0, none⟩ = some (.int .i64 (s).tm) := rs.cell 0
      have ts1 : wr.cell? ⟨bs, 1, none⟩ = some (.int .i64 (s).level) := rs.cell 1
      have ts2 : wr.cell? ⟨bs, 2, none⟩ = some (.int .i64 (s).held) := rs.cell 2
      have ts3 : wr.cell? ⟨bs, 3, none⟩ = some (.slice A' (s).log.length cap') := rs.cell 3
      have zp := rp.lt
      have zs := rs.lt
      clear rp rs
      by_cases hlt : k < L.length
      · obtain ⟨a, rfl, c1, c2, c3⟩ := HAr.out.at_ hlt
        have zn1 : ¬ (wr.heap.size = bp) := by omega
        have zn2 : ¬ (wr.heap.size = bs) := by omega
        have zn3 : ¬ (wr.heap.size = (a.add (k * 3)).block) := fun h => by have := World.block_lt_of_cell? wr _ c1; omega
        have i1 : (k : Int) < (L.length : Int) := by omega
        go_wp2_with fail
        go_cut [14] (fun s16 w4 => ∃ (b : Nat) (A4 : Option Addr) (cap4 : Nat), s16 = .pointer (some ⟨b, 0, none⟩) ∧ Hid (At w w4 bp b p (act p s L[k].1 L[k].2.1 L[k].2.2).1 A4 cap4 ∧ Box w4 bs 32 (scells (s).tm (s).level (s).held (.slice A' (s).log.length cap')) ∧ b ≠ bs ∧ b ≠ bp))
        case first =>
          go_region_held3 (fun w' => w'.cell? ⟨bp, 0, none⟩ = some (.int .i64 p.kind) ∧ w'.cell? ⟨bp, 1, none⟩ = some (.int .i64 p.limit) ∧ w'.cell? ⟨bp, 2, none⟩ = some (.int .i64 p.period) ∧ w'.cell? ⟨bp, 3, none⟩ = some (.int .i64 p.burst) ∧ w'.cell? ⟨bp, 4, none⟩ = some (.int .i64 p.cap) ∧ w'.cell? ⟨bp, 5, none⟩ = some (.bool p.opn) ∧ w'.cell? ⟨bs, 0, none⟩ = some (.int .i64 (s).tm) ∧ w'.cell? ⟨bs, 1, none⟩ = some (.int .i64 (s).level) ∧ w'.cell? ⟨bs, 2, none⟩ = some (.int .i64 (s).held) ∧ w'.cell? ⟨bs, 3, none⟩ = some (.slice A' (s).log.length cap') ∧ w'.cell? (a.add (k * 3)) = some (.int .i64 L[k].1) ∧ w'.cell? ⟨(a.add (k * 3)).block, (a.add (k * 3)).off + 1, none⟩ = some (.int .i64 L[k].2.1) ∧ w'.cell? ⟨(a.add (k * 3)).block, (a.add (k * 3)).off + 2, none⟩ = some (.int .i64 L[k].2.2)) (go_keep) (first | (go_at_call 17; refine (do_sl p s 0 A' cap' L[k].1 L[k].2.1 L[k].2.2 _ ?_).mono ?_; (first | exact HSl.out.keep (Below.refl _ _).drew | exact (HSl.out.alloc _).keep (Below.refl _ _).drew); rintro e w3 ⟨A3, cap3, rfl, hS3, hb3⟩; (first | (have rp3 := Box.keep (Box.drew RP.out) hb3; have rs3 := Box.keep (Box.drew RS.out) hb3; have ha3 := Acts.keep (HAr.out) (Below.trans (Below.refl _ _).drew hb3); have hB3 := HBr.out.trans ((Below.refl _ _).drew.trans (hb3.mono hz0))) | (have rp3 := Box.keep (Box.drew (Box.alloc RP.out _)) hb3; have rs3 := Box.keep (Box.drew (Box.alloc RS.out _)) hb3; have rz3 := Box.keep (Box.drew (Box.new wr 32 (scells 0 0 0 (.slice none 0 0)))) hb3; have ha3 := Acts.keep (HAr.out.alloc _) (Below.trans (Below.refl _ _).drew hb3); have hB3 := (HBr.out.alloc hz0 _).trans ((Below.refl _ _).drew.trans (hb3.mono (Nat.le_trans hz0 (below_lt1 wr _)))); have x0 : w3.cell? ⟨wr.heap.size, 0, none⟩ = some (.int .i64 0) := rz3.cell 0; have x1 : w3.cell? ⟨wr.heap.size, 1, none⟩ = some (.int .i64 0) := rz3.cell 1; have x2 : w3.cell? ⟨wr.heap.size, 2, none⟩ = some (.int .i64 0) := rz3.cell 2; have x3 : w3.cell? ⟨wr.heap.size, 3, none⟩ = some (.slice none 0 0) := rz3.cell 3; have xf0 := rz3.free 0; have xf1 := rz3.free 1; have xf2 := rz3.free 2; have xf3 := rz3.free 3)); obtain ⟨a3, ha3e, y1, y2, y3⟩ := ha3.at_ hlt; injection ha3e with ha3e; subst ha3e; have f0 : w3.cell? ⟨bp, 0, none⟩ = some (.int .i64 p.kind) := rp3.cell 0; have f1 : w3.cell? ⟨bp, 1, none⟩ = some (.int .i64 p.limit) := rp3.cell 1; have f2 : w3.cell? ⟨bp, 2, none⟩ = some (.int .i64 p.period) := rp3.cell 2; have f3 : w3.cell? ⟨bp, 3, none⟩ = some (.int .i64 p.burst) := rp3.cell 3; have f4 : w3.cell? ⟨bp, 4, none⟩ = some (.int .i64 p.cap) := rp3.cell 4; have f5 : w3.cell? ⟨bp, 5, none⟩ = some (.bool p.opn) := rp3.cell 5; have g0 : w3.cell? ⟨bs, 0, none⟩ = some (.int .i64 (s).tm) := rs3.cell 0; have g1 : w3.cell? ⟨bs, 1, none⟩ = some (.int .i64 (s).level) := rs3.cell 1; have g2 : w3.cell? ⟨bs, 2, none⟩ = some (.int .i64 (s).held) := rs3.cell 2; have g3 : w3.cell? ⟨bs, 3, none⟩ = some (.slice A' (s).log.length cap') := rs3.cell 3))
          all_goals (go_wp2_with fail; go_meet)
          case rel => exact ⟨_, A3, cap3, rfl, ⟨hB3.alloc hB3.size _, rp3.alloc _, Box.new _ _ _, (hS3.mono (Nat.zero_le _)).alloc _⟩, rs3.alloc _, Nat.ne_of_gt rs3.lt, Nat.ne_of_gt rp3.lt⟩
          case rel => exact ⟨_, A3, cap3, rfl, ⟨below_set4 hB3 hz0 _ _ _ _, rp3.far4 (Ne.symm zn1) _ _ _ _, rz3.set4 _ _ _ _, (hS3.mono (Nat.zero_le _)).far4 rz3 _ _ _ _⟩, rs3.far4 (Ne.symm zn2) _ _ _ _, zn2, zn1⟩
        case rest =>
          obtain ⟨b, A4, cap4, rfl, hcut⟩ := hcut
          obtain ⟨⟨hB4, rp4, rt4, hS4⟩, rs4, nb, nb2⟩ := hcut.out
          have tt0 : wc.cell? ⟨b, 0, none⟩ = some (.int .i64 ((act p s L[k].1 L[k].2.1 L[k].2.2).1).tm) := rt4.cell 0
          have tt1 : wc.cell? ⟨b, 1, none⟩ = some (.int .i64 ((act p s L[k].1 L[k].2.1 L[k].2.2).1).level) := rt4.cell 1
          have tt2 : wc.cell? ⟨b, 2, none⟩ = some (.int .i64 ((act p s L[k].1 L[k].2.1 L[k].2.2).1).held) := rt4.cell 2
          have tt3 : wc.cell? ⟨b, 3, none⟩ = some (.slice A4 ((act p s L[k].1 L[k].2.1 L[k].2.2).1).log.length cap4) := rt4.cell 3
          have tu0 : wc.cell? ⟨bs, 0, none⟩ = some (.int .i64 (s).tm) := rs4.cell 0
          have tu1 : wc.cell? ⟨bs, 1, none⟩ = some (.int .i64 (s).level) := rs4.cell 1
          have tu2 : wc.cell? ⟨bs, 2, none⟩ = some (.int .i64 (s).held) := rs4.cell 2
          have tu3 : wc.cell? ⟨bs, 3, none⟩ = some (.slice A' (s).log.length cap') := rs4.cell 3
          have tf0 := rs4.free 0
          have tf1 := rs4.free 1
          have tf2 := rs4.free 2
          have tf3 := rs4.free 3
          have HB4 := Lib.hid hB4
          have RP4 := Lib.hid rp4
          have RS4 := Lib.hid rs4
          have HS4 := Lib.hid hS4
          clear hcut hB4 rp4 rt4 hS4 rs4
          go_wp2_with fail
          go_roundg (gk - 1)
          case rel => exact ⟨k + 1, _, A4, cap4, by omega, by have := HG.out; omega, by go_num, (by show _ = _; rw [run_take _ _ _ _ hlt, ← show s = _ from HR.out]), ⟨below_set4 HB4.out hzbs _ _ _ _, RP4.out.far4 (Nat.ne_of_lt hbps) _ _ _ _, RS4.out.set4 _ _ _ _, HS4.out.far4 RS4.out _ _ _ _⟩⟩
          case measure => have := HG.out; omega
      · have hkl : k = L.length := by omega
        have HR := Lib.hid (show s = run p s0 L by rw [show s = _ from HR.out, hkl, List.take_length])
        have HK := Lib.hid (show Ok p s by rw [show s = _ from HR.out]; exact run_ok HK0.out L)
        clear hkl
        have kt0 := HK.out.tm0
        have kt1 := HK.out.tm1
        have kh0 := HK.out.held0
        have kh1 := HK.out.held1
        have kl := HK.out.lim
        by_cases ht : s.tm ≤ 4503599627370496
        · by_cases hc : 1 + c ≤ p.limit - s.held
          · obtain ⟨r, he, r0, r1, ⟨st, ht1⟩, hr2⟩ := retry_spec HK.out (c := 1 + c) (by omega) hc ht
            have HE := Lib.hid he
            have HT1 := Lib.hid ht1
            obtain ⟨sx, b2, ht2, hb2⟩ : ∃ sx b2, act p s 1 (s.tm + r - 1) (1 + c) = (sx, b2) ∧ (0 < r → b2 = false) := by
              by_cases hr : 0 < r
              · obtain ⟨sx, h⟩ := hr2 hr; exact ⟨sx, false, h, fun _ => rfl⟩
              · exact ⟨_, _, rfl, fun h => absurd h hr⟩
            have HT2 := Lib.hid ht2
            have HR2 := Lib.hid hb2
            clear he ht1 hr2 ht2 hb2
            go_wp2_with fail
            refine (retry_is HE.out 0 A' cap' _ HSl.out).mono ?_
            rintro e v1 ⟨rfl, hb1⟩
            have rp1 := Box.keep RP.out hb1
            have rs1 := Box.keep RS.out hb1
            have ls1 := Sl.keep HSl.out hb1
            have hB1 := HBr.out.trans (hb1.mono HBr.out.size)
            have cp1_0 : v1.cell? ⟨bp, 0, none⟩ = some (.int .i64 p.kind) := rp1.cell 0
            have cp1_1 : v1.cell? ⟨bp, 1, none⟩ = some (.int .i64 p.limit) := rp1.cell 1
            have cp1_2 : v1.cell? ⟨bp, 2, none⟩ = some (.int .i64 p.period) := rp1.cell 2
            have cp1_3 : v1.cell? ⟨bp, 3, none⟩ = some (.int .i64 p.burst) := rp1.cell 3
            have cp1_4 : v1.cell? ⟨bp, 4, none⟩ = some (.int .i64 p.cap) := rp1.cell 4
            have cp1_5 : v1.cell? ⟨bp, 5, none⟩ = some (.bool p.opn) := rp1.cell 5
            have zp1 := rp1.lt
            have cs1_0 : v1.cell? ⟨bs, 0, none⟩ = some (.int .i64 (s).tm) := rs1.cell 0
            have cs1_1 : v1.cell? ⟨bs, 1, none⟩ = some (.int .i64 (s).level) := rs1.cell 1
            have cs1_2 : v1.cell? ⟨bs, 2, none⟩ = some (.int .i64 (s).held) := rs1.cell 2
            have cs1_3 : v1.cell? ⟨bs, 3, none⟩ = some (.slice A' (s).log.length cap') := rs1.cell 3
            have zs1 := rs1.lt
            have Rp1 := Lib.hid rp1
            have Rs1 := Lib.hid rs1
            have Ls1 := Lib.hid ls1
            have HB1 := Lib.hid hB1
            clear rp1 rs1 ls1 hB1 hb1
            clear p0 p1 p2 p3 p4 p5 ts0 ts1 ts2 ts3 zp zs
            go_upto_if 73 with (fail)
            go_cut [] (fun wc => Hid (At w wc bp bs p s A' cap'))
            case first =>
              go_wp2_with fail
              refine (do_is HT1.out 0 A' cap' _ Ls1.out).mono ?_
              rintro e v2 ⟨A2, cap2, rfl, hs2, hb2⟩
              have rp2 := Box.keep Rp1.out hb2
              have rs2 := Box.keep Rs1.out hb2
              have ls2 := Sl.keep Ls1.out hb2
              have hB2 := HB1.out.trans (hb2.mono HB1.out.size)
              have cp2_0 : v2.cell? ⟨bp, 0, none⟩ = some (.int .i64 p.kind) := rp2.cell 0
              have cp2_1 : v2.cell? ⟨bp, 1, none⟩ = some (.int .i64 p.limit) := rp2.cell 1
              have cp2_2 : v2.cell? ⟨bp, 2, none⟩ = some (.int .i64 p.period) := rp2.cell 2
              have cp2_3 : v2.cell? ⟨bp, 3, none⟩ = some (.int .i64 p.burst) := rp2.cell 3
              have cp2_4 : v2.cell? ⟨bp, 4, none⟩ = some (.int .i64 p.cap) := rp2.cell 4
              have cp2_5 : v2.cell? ⟨bp, 5, none⟩ = some (.bool p.opn) := rp2.cell 5
              have zp2 := rp2.lt
              have cs2_0 : v2.cell? ⟨bs, 0, none⟩ = some (.int .i64 (s).tm) := rs2.cell 0
              have cs2_1 : v2.cell? ⟨bs, 1, none⟩ = some (.int .i64 (s).level) := rs2.cell 1
              have cs2_2 : v2.cell? ⟨bs, 2, none⟩ = some (.int .i64 (s).held) := rs2.cell 2
              have cs2_3 : v2.cell? ⟨bs, 3, none⟩ = some (.slice A' (s).log.length cap') := rs2.cell 3
              have zs2 := rs2.lt
              have Rp2 := Lib.hid rp2
              have Rs2 := Lib.hid rs2
              have Ls2 := Lib.hid ls2
              have HB2 := Lib.hid hB2
              clear rp2 rs2 ls2 hB2 hb2
              clear cp1_0 cp1_1 cp1_2 cp1_3 cp1_4 cp1_5 cs1_0 cs1_1 cs1_2 cs1_3
              have HS2 := Lib.hid (hs2.mono (Nat.zero_le _))
              clear hs2
              go_wp2_with fail
              refine (do_is HT2.out 0 A' cap' _ (Ls2.out.alloc _)).mono ?_
              rintro e v3 ⟨A3, cap3, rfl, hs3, hb3⟩
              have rp3 := Box.keep (Rp2.out.alloc _) hb3
              have rs3 := Box.keep (Rs2.out.alloc _) hb3
              have ls3 := Sl.keep (Ls2.out.alloc _) hb3
              have ra3 := Box.keep (Box.new v2 _ _) hb3
              have la3 := Sl.keep (HS2.out.alloc _) hb3
              have hB3 := (HB2.out.alloc HB2.out.size _).trans (hb3.mono (Nat.le_trans HB2.out.size (below_lt1 v2 _)))
              have Rp3 := Lib.hid rp3
              have Rs3 := Lib.hid rs3
              have Ls3 := Lib.hid ls3
              have Ra3 := Lib.hid ra3
              have La3 := Lib.hid la3
              have HB3 := Lib.hid hB3
              clear rp3 rs3 ls3 ra3 la3 hB3 hb3
              clear cp2_0 cp2_1 cp2_2 cp2_3 cp2_4 cp2_5 cs2_0 cs2_1 cs2_2 cs2_3
              have HS3 := Lib.hid (hs3.mono (Nat.zero_le _))
              clear hs3
              by_cases hr : 0 < r
              · obtain rfl := HR2.out hr
                go_wp2_with fail
                go_meet
                case rel => exact ⟨HB3.out.alloc HB3.out.size _, Rp3.out.alloc _, Rs3.out.alloc _, Ls3.out.alloc _⟩
              · go_wp2_with fail
                go_meet
                case rel => exact ⟨HB3.out.alloc HB3.out.size _, Rp3.out.alloc _, Rs3.out.alloc _, Ls3.out.alloc _⟩
            case rest =>
              by_cases hheld : s.held > 0
              · obtain ⟨hBc, rpc, rsc, hSc⟩ := hcut.out
                have p0 : wc.cell? ⟨bp, 0, none⟩ = some (.int .i64 p.kind) := rpc.cell 0
                have p1 : wc.cell? ⟨bp, 1, none⟩ = some (.int .i64 p.limit) := rpc.cell 1
                have p2 : wc.cell? ⟨bp, 2, none⟩ = some (.int .i64 p.period) := rpc.cell 2
                have p3 : wc.cell? ⟨bp, 3, none⟩ = some (.int .i64 p.burst) := rpc.cell 3
                have p4 : wc.cell? ⟨bp, 4, none⟩ = some (.int .i64 p.cap) := rpc.cell 4
                have p5 : wc.cell? ⟨bp, 5, none⟩ = some (.bool p.opn) := rpc.cell 5
                have ts0 : wc.cell? ⟨bs, 0, none⟩ = some (.int .i64 (s).tm) := rsc.cell 0
                have ts1 : wc.cell? ⟨bs, 1, none⟩ = some (.int .i64 (s).level) := rsc.cell 1
                have ts2 : wc.cell? ⟨bs, 2, none⟩ = some (.int .i64 (s).held) := rsc.cell 2
                have ts3 : wc.cell? ⟨bs, 3, none⟩ = some (.slice A' (s).log.length cap') := rsc.cell 3
                have zp := rpc.lt
                have zs := rsc.lt
                have RP := Lib.hid rpc
                have RS := Lib.hid rsc
                have HBc := Lib.hid hBc
                have HSl := Lib.hid hSc
                clear rpc rsc hBc hSc hcut
                go_wp2_with fail
                refine (until_is (until_held HK.out hheld 0) 0 A' cap' _ HSl.out).mono ?_
                rintro e v1 ⟨rfl, hb1⟩
                have rp1 := Box.keep RP.out hb1
                have rs1 := Box.keep RS.out hb1
                have ls1 := Sl.keep HSl.out hb1
                have hB1 := HBc.out.trans (hb1.mono HBc.out.size)
                have cs1_0 : v1.cell? ⟨bs, 0, none⟩ = some (.int .i64 (s).tm) := rs1.cell 0
                have cs1_1 : v1.cell? ⟨bs, 1, none⟩ = some (.int .i64 (s).level) := rs1.cell 1
                have cs1_2 : v1.cell? ⟨bs, 2, none⟩ = some (.int .i64 (s).held) := rs1.cell 2
                have cs1_3 : v1.cell? ⟨bs, 3, none⟩ = some (.slice A' (s).log.length cap') := rs1.cell 3
                have zs1 := rs1.lt
                have Rp1 := Lib.hid rp1
                have Rs1 := Lib.hid rs1
                have Ls1 := Lib.hid ls1
                have HB1 := Lib.hid hB1
                clear rp1 rs1 ls1 hB1 hb1
                clear p0 p1 p2 p3 p4 p5 ts0 ts1 ts2 ts3 zp zs
                go_wp2_with fail
                refine (known_calls _).mono ?_
                rintro e v2 ⟨rfl, hb2⟩
                have rp2 := Box.keep Rp1.out hb2
                have rs2 := Box.keep Rs1.out hb2
                have ls2 := Sl.keep Ls1.out hb2
                have hB2 := HB1.out.trans (hb2.mono HB1.out.size)
                have Rp2 := Lib.hid rp2
                have Rs2 := Lib.hid rs2
                have Ls2 := Lib.hid ls2
                have HB2 := Lib.hid hB2
                clear rp2 rs2 ls2 hB2 hb2
                clear cs1_0 cs1_1 cs1_2 cs1_3
                go_wp2_with fail
                go_ret
                exact ⟨rfl, HB2.out⟩
              · obtain ⟨u, hu0, u0, u1, hu1, hu2⟩ := until_spec HK.out hheld ht
                have HU0 := Lib.hid hu0
                have HU1 := Lib.hid hu1
                have HU2' := Lib.hid hu2
                clear hu0 hu1 hu2
                have q1 : decide (u < 0) = false := by simp; omega
                have q2 : decide (0 < s.held) = false := by simp; omega
                by_cases hu : 0 < u
                · obtain ⟨m, hm, hm0⟩ := HU2'.out hu
                  have q3 : (u == 0) = false := by simp; omega
                  have HU2 := Lib.hid hm
                  clear hm
                  obtain ⟨hBc, rpc, rsc, hSc⟩ := hcut.out
                  have p0 : wc.cell? ⟨bp, 0, none⟩ = some (.int .i64 p.kind) := rpc.cell 0
                  have p1 : wc.cell? ⟨bp, 1, none⟩ = some (.int .i64 p.limit) := rpc.cell 1
                  have p2 : wc.cell? ⟨bp, 2, none⟩ = some (.int .i64 p.period) := rpc.cell 2
                  have p3 : wc.cell? ⟨bp, 3, none⟩ = some (.int .i64 p.burst) := rpc.cell 3
                  have p4 : wc.cell? ⟨bp, 4, none⟩ = some (.int .i64 p.cap) := rpc.cell 4
                  have p5 : wc.cell? ⟨bp, 5, none⟩ = some (.bool p.opn) := rpc.cell 5
                  have ts0 : wc.cell? ⟨bs, 0, none⟩ = some (.int .i64 (s).tm) := rsc.cell 0
                  have ts1 : wc.cell? ⟨bs, 1, none⟩ = some (.int .i64 (s).level) := rsc.cell 1
                  have ts2 : wc.cell? ⟨bs, 2, none⟩ = some (.int .i64 (s).held) := rsc.cell 2
                  have ts3 : wc.cell? ⟨bs, 3, none⟩ = some (.slice A' (s).log.length cap') := rsc.cell 3
                  have zp := rpc.lt
                  have zs := rsc.lt
                  have RP := Lib.hid rpc
                  have RS := Lib.hid rsc
                  have HBc := Lib.hid hBc
                  have HSl := Lib.hid hSc
                  clear rpc rsc hBc hSc hcut
                  go_wp2_with fail
                  refine (until_is HU0.out 0 A' cap' _ HSl.out).mono ?_
                  rintro e v1 ⟨rfl, hb1⟩
                  have rp1 := Box.keep RP.out hb1
                  have rs1 := Box.keep RS.out hb1
                  have ls1 := Sl.keep HSl.out hb1
                  have hB1 := HBc.out.trans (hb1.mono HBc.out.size)
                  have cp1_0 : v1.cell? ⟨bp, 0, none⟩ = some (.int .i64 p.kind) := rp1.cell 0
                  have cp1_1 : v1.cell? ⟨bp, 1, none⟩ = some (.int .i64 p.limit) := rp1.cell 1
                  have cp1_2 : v1.cell? ⟨bp, 2, none⟩ = some (.int .i64 p.period) := rp1.cell 2
                  have cp1_3 : v1.cell? ⟨bp, 3, none⟩ = some (.int .i64 p.burst) := rp1.cell 3
                  have cp1_4 : v1.cell? ⟨bp, 4, none⟩ = some (.int .i64 p.cap) := rp1.cell 4
                  have cp1_5 : v1.cell? ⟨bp, 5, none⟩ = some (.bool p.opn) := rp1.cell 5
                  have zp1 := rp1.lt
                  have cs1_0 : v1.cell? ⟨bs, 0, none⟩ = some (.int .i64 (s).tm) := rs1.cell 0
                  have cs1_1 : v1.cell? ⟨bs, 1, none⟩ = some (.int .i64 (s).level) := rs1.cell 1
                  have cs1_2 : v1.cell? ⟨bs, 2, none⟩ = some (.int .i64 (s).held) := rs1.cell 2
                  have cs1_3 : v1.cell? ⟨bs, 3, none⟩ = some (.slice A' (s).log.length cap') := rs1.cell 3
                  have zs1 := rs1.lt
                  have Rp1 := Lib.hid rp1
                  have Rs1 := Lib.hid rs1
                  have Ls1 := Lib.hid ls1
                  have HB1 := Lib.hid hB1
                  clear rp1 rs1 ls1 hB1 hb1
                  clear p0 p1 p2 p3 p4 p5 ts0 ts1 ts2 ts3 zp zs
                  go_wp2_with fail
                  refine (until_is HU1.out 0 A' cap' _ Ls1.out).mono ?_
                  rintro e v2 ⟨rfl, hb2⟩
                  have rp2 := Box.keep Rp1.out hb2
                  have rs2 := Box.keep Rs1.out hb2
                  have ls2 := Sl.keep Ls1.out hb2
                  have hB2 := HB1.out.trans (hb2.mono HB1.out.size)
                  have cp2_0 : v2.cell? ⟨bp, 0, none⟩ = some (.int .i64 p.kind) := rp2.cell 0
                  have cp2_1 : v2.cell? ⟨bp, 1, none⟩ = some (.int .i64 p.limit) := rp2.cell 1
                  have cp2_2 : v2.cell? ⟨bp, 2, none⟩ = some (.int .i64 p.period) := rp2.cell 2
                  have cp2_3 : v2.cell? ⟨bp, 3, none⟩ = some (.int .i64 p.burst) := rp2.cell 3
                  have cp2_4 : v2.cell? ⟨bp, 4, none⟩ = some (.int .i64 p.cap) := rp2.cell 4
                  have cp2_5 : v2.cell? ⟨bp, 5, none⟩ = some (.bool p.opn) := rp2.cell 5
                  have zp2 := rp2.lt
                  have cs2_0 : v2.cell? ⟨bs, 0, none⟩ = some (.int .i64 (s).tm) := rs2.cell 0
                  have cs2_1 : v2.cell? ⟨bs, 1, none⟩ = some (.int .i64 (s).level) := rs2.cell 1
                  have cs2_2 : v2.cell? ⟨bs, 2, none⟩ = some (.int .i64 (s).held) := rs2.cell 2
                  have cs2_3 : v2.cell? ⟨bs, 3, none⟩ = some (.slice A' (s).log.length cap') := rs2.cell 3
                  have zs2 := rs2.lt
                  have Rp2 := Lib.hid rp2
                  have Rs2 := Lib.hid rs2
                  have Ls2 := Lib.hid ls2
                  have HB2 := Lib.hid hB2
                  clear rp2 rs2 ls2 hB2 hb2
                  clear cp1_0 cp1_1 cp1_2 cp1_3 cp1_4 cp1_5 cs1_0 cs1_1 cs1_2 cs1_3
                  go_wp2_with fail
                  refine (until_is HU2.out 0 A' cap' _ Ls2.out).mono ?_
                  rintro e v3 ⟨rfl, hb3⟩
                  have rp3 := Box.keep Rp2.out hb3
                  have rs3 := Box.keep Rs2.out hb3
                  have ls3 := Sl.keep Ls2.out hb3
                  have hB3 := HB2.out.trans (hb3.mono HB2.out.size)
                  have Rp3 := Lib.hid rp3
                  have Rs3 := Lib.hid rs3
                  have Ls3 := Lib.hid ls3
                  have HB3 := Lib.hid hB3
                  clear rp3 rs3 ls3 hB3 hb3
                  clear cp2_0 cp2_1 cp2_2 cp2_3 cp2_4 cp2_5 cs2_0 cs2_1 cs2_2 cs2_3
                  go_wp2_with fail
                  refine (known_calls _).mono ?_
                  rintro e v4 ⟨rfl, hb4⟩
                  have hB4 := HB3.out.trans (hb4.mono HB3.out.size)
                  have HB4 := Lib.hid hB4
                  clear hB4 hb4
                  go_wp2_with fail
                  go_ret
                  exact ⟨rfl, HB4.out⟩
                · have q3 : (u == 0) = true := by simp; omega
                  obtain ⟨hBc, rpc, rsc, hSc⟩ := hcut.out
                  have p0 : wc.cell? ⟨bp, 0, none⟩ = some (.int .i64 p.kind) := rpc.cell 0
                  have p1 : wc.cell? ⟨bp, 1, none⟩ = some (.int .i64 p.limit) := rpc.cell 1
                  have p2 : wc.cell? ⟨bp, 2, none⟩ = some (.int .i64 p.period) := rpc.cell 2
                  have p3 : wc.cell? ⟨bp, 3, none⟩ = some (.int .i64 p.burst) := rpc.cell 3
                  have p4 : wc.cell? ⟨bp, 4, none⟩ = some (.int .i64 p.cap) := rpc.cell 4
                  have p5 : wc.cell? ⟨bp, 5, none⟩ = some (.bool p.opn) := rpc.cell 5
                  have ts0 : wc.cell? ⟨bs, 0, none⟩ = some (.int .i64 (s).tm) := rsc.cell 0
                  have ts1 : wc.cell? ⟨bs, 1, none⟩ = some (.int .i64 (s).level) := rsc.cell 1
                  have ts2 : wc.cell? ⟨bs, 2, none⟩ = some (.int .i64 (s).held) := rsc.cell 2
                  have ts3 : wc.cell? ⟨bs, 3, none⟩ = some (.slice A' (s).log.length cap') := rsc.cell 3
                  have zp := rpc.lt
                  have zs := rsc.lt
                  have RP := Lib.hid rpc
                  have RS := Lib.hid rsc
                  have HBc := Lib.hid hBc
                  have HSl := Lib.hid hSc
                  clear rpc rsc hBc hSc hcut
                  go_wp2_with fail
                  refine (until_is HU0.out 0 A' cap' _ HSl.out).mono ?_
                  rintro e v1 ⟨rfl, hb1⟩
                  have rp1 := Box.keep RP.out hb1
                  have rs1 := Box.keep RS.out hb1
                  have ls1 := Sl.keep HSl.out hb1
                  have hB1 := HBc.out.trans (hb1.mono HBc.out.size)
                  have cp1_0 : v1.cell? ⟨bp, 0, none⟩ = some (.int .i64 p.kind) := rp1.cell 0
                  have cp1_1 : v1.cell? ⟨bp, 1, none⟩ = some (.int .i64 p.limit) := rp1.cell 1
                  have cp1_2 : v1.cell? ⟨bp, 2, none⟩ = some (.int .i64 p.period) := rp1.cell 2
                  have cp1_3 : v1.cell? ⟨bp, 3, none⟩ = some (.int .i64 p.burst) := rp1.cell 3
                  have cp1_4 : v1.cell? ⟨bp, 4, none⟩ = some (.int .i64 p.cap) := rp1.cell 4
                  have cp1_5 : v1.cell? ⟨bp, 5, none⟩ = some (.bool p.opn) := rp1.cell 5
                  have zp1 := rp1.lt
                  have cs1_0 : v1.cell? ⟨bs, 0, none⟩ = some (.int .i64 (s).tm) := rs1.cell 0
                  have cs1_1 : v1.cell? ⟨bs, 1, none⟩ = some (.int .i64 (s).level) := rs1.cell 1
                  have cs1_2 : v1.cell? ⟨bs, 2, none⟩ = some (.int .i64 (s).held) := rs1.cell 2
                  have cs1_3 : v1.cell? ⟨bs, 3, none⟩ = some (.slice A' (s).log.length cap') := rs1.cell 3
                  have zs1 := rs1.lt
                  have Rp1 := Lib.hid rp1
                  have Rs1 := Lib.hid rs1
                  have Ls1 := Lib.hid ls1
                  have HB1 := Lib.hid hB1
                  clear rp1 rs1 ls1 hB1 hb1
                  clear p0 p1 p2 p3 p4 p5 ts0 ts1 ts2 ts3 zp zs
                  go_wp2_with fail
                  refine (until_is HU1.out 0 A' cap' _ Ls1.out).mono ?_
                  rintro e v2 ⟨rfl, hb2⟩
                  have rp2 := Box.keep Rp1.out hb2
                  have rs2 := Box.keep Rs1.out hb2
                  have ls2 := Sl.keep Ls1.out hb2
                  have hB2 := HB1.out.trans (hb2.mono HB1.out.size)
                  have cp2_0 : v2.cell? ⟨bp, 0, none⟩ = some (.int .i64 p.kind) := rp2.cell 0
                  have cp2_1 : v2.cell? ⟨bp, 1, none⟩ = some (.int .i64 p.limit) := rp2.cell 1
                  have cp2_2 : v2.cell? ⟨bp, 2, none⟩ = some (.int .i64 p.period) := rp2.cell 2
                  have cp2_3 : v2.cell? ⟨bp, 3, none⟩ = some (.int .i64 p.burst) := rp2.cell 3
                  have cp2_4 : v2.cell? ⟨bp, 4, none⟩ = some (.int .i64 p.cap) := rp2.cell 4
                  have cp2_5 : v2.cell? ⟨bp, 5, none⟩ = some (.bool p.opn) := rp2.cell 5
                  have zp2 := rp2.lt
                  have cs2_0 : v2.cell? ⟨bs, 0, none⟩ = some (.int .i64 (s).tm) := rs2.cell 0
                  have cs2_1 : v2.cell? ⟨bs, 1, none⟩ = some (.int .i64 (s).level) := rs2.cell 1
                  have cs2_2 : v2.cell? ⟨bs, 2, none⟩ = some (.int .i64 (s).held) := rs2.cell 2
                  have cs2_3 : v2.cell? ⟨bs, 3, none⟩ = some (.slice A' (s).log.length cap') := rs2.cell 3
                  have zs2 := rs2.lt
                  have Rp2 := Lib.hid rp2
                  have Rs2 := Lib.hid rs2
                  have Ls2 := Lib.hid ls2
                  have HB2 := Lib.hid hB2
                  clear rp2 rs2 ls2 hB2 hb2
                  clear cp1_0 cp1_1 cp1_2 cp1_3 cp1_4 cp1_5 cs1_0 cs1_1 cs1_2 cs1_3
                  go_wp2_with fail
                  refine (known_calls _).mono ?_
                  rintro e v3 ⟨rfl, hb3⟩
                  have hB3 := HB2.out.trans (hb3.mono HB2.out.size)
                  have HB3 := Lib.hid hB3
                  clear hB3 hb3
                  clear cp2_0 cp2_1 cp2_2 cp2_3 cp2_4 cp2_5 cs2_0 cs2_1 cs2_2 cs2_3
                  go_wp2_with fail
                  go_ret
                  exact ⟨rfl, HB3.out⟩
          · have HE := Lib.hid (retry_none HK.out hc)
            go_wp2_with fail
            refine (retry_is HE.out 0 A' cap' _ HSl.out).mono ?_
            rintro e v1 ⟨rfl, hb1⟩
            have rp1 := Box.keep RP.out hb1
            have rs1 := Box.keep RS.out hb1
            have ls1 := Sl.keep HSl.out hb1
            have hB1 := HBr.out.trans (hb1.mono HBr.out.size)
            have cp1_0 : v1.cell? ⟨bp, 0, none⟩ = some (.int .i64 p.kind) := rp1.cell 0
            have cp1_1 : v1.cell? ⟨bp, 1, none⟩ = some (.int .i64 p.limit) := rp1.cell 1
            have cp1_2 : v1.cell? ⟨bp, 2, none⟩ = some (.int .i64 p.period) := rp1.cell 2
            have cp1_3 : v1.cell? ⟨bp, 3, none⟩ = some (.int .i64 p.burst) := rp1.cell 3
            have cp1_4 : v1.cell? ⟨bp, 4, none⟩ = some (.int .i64 p.cap) := rp1.cell 4
            have cp1_5 : v1.cell? ⟨bp, 5, none⟩ = some (.bool p.opn) := rp1.cell 5
            have zp1 := rp1.lt
            have cs1_0 : v1.cell? ⟨bs, 0, none⟩ = some (.int .i64 (s).tm) := rs1.cell 0
            have cs1_1 : v1.cell? ⟨bs, 1, none⟩ = some (.int .i64 (s).level) := rs1.cell 1
            have cs1_2 : v1.cell? ⟨bs, 2, none⟩ = some (.int .i64 (s).held) := rs1.cell 2
            have cs1_3 : v1.cell? ⟨bs, 3, none⟩ = some (.slice A' (s).log.length cap') := rs1.cell 3
            have zs1 := rs1.lt
            have Rp1 := Lib.hid rp1
            have Rs1 := Lib.hid rs1
            have Ls1 := Lib.hid ls1
            have HB1 := Lib.hid hB1
            clear rp1 rs1 ls1 hB1 hb1
            clear p0 p1 p2 p3 p4 p5 ts0 ts1 ts2 ts3 zp zs
            go_upto_if 73 with (fail)
            go_cut [] (fun wc => Hid (At w wc bp bs p s A' cap'))
            case first =>
              go_wp2_with fail
              go_meet
              case rel => exact ⟨HB1.out, Rp1.out, Rs1.out, Ls1.out⟩
            case rest =>
              by_cases hheld : s.held > 0
              · obtain ⟨hBc, rpc, rsc, hSc⟩ := hcut.out
                have p0 : wc.cell? ⟨bp, 0, none⟩ = some (.int .i64 p.kind) := rpc.cell 0
                have p1 : wc.cell? ⟨bp, 1, none⟩ = some (.int .i64 p.limit) := rpc.cell 1
                have p2 : wc.cell? ⟨bp, 2, none⟩ = some (.int .i64 p.period) := rpc.cell 2
                have p3 : wc.cell? ⟨bp, 3, none⟩ = some (.int .i64 p.burst) := rpc.cell 3
                have p4 : wc.cell? ⟨bp, 4, none⟩ = some (.int .i64 p.cap) := rpc.cell 4
                have p5 : wc.cell? ⟨bp, 5, none⟩ = some (.bool p.opn) := rpc.cell 5
                have ts0 : wc.cell? ⟨bs, 0, none⟩ = some (.int .i64 (s).tm) := rsc.cell 0
                have ts1 : wc.cell? ⟨bs, 1, none⟩ = some (.int .i64 (s).level) := rsc.cell 1
                have ts2 : wc.cell? ⟨bs, 2, none⟩ = some (.int .i64 (s).held) := rsc.cell 2
                have ts3 : wc.cell? ⟨bs, 3, none⟩ = some (.slice A' (s).log.length cap') := rsc.cell 3
                have zp := rpc.lt
                have zs := rsc.lt
                have RP := Lib.hid rpc
                have RS := Lib.hid rsc
                have HBc := Lib.hid hBc
                have HSl := Lib.hid hSc
                clear rpc rsc hBc hSc hcut
                go_wp2_with fail
                refine (until_is (until_held HK.out hheld 0) 0 A' cap' _ HSl.out).mono ?_
                rintro e v1 ⟨rfl, hb1⟩
                have rp1 := Box.keep RP.out hb1
                have rs1 := Box.keep RS.out hb1
                have ls1 := Sl.keep HSl.out hb1
                have hB1 := HBc.out.trans (hb1.mono HBc.out.size)
                have cs1_0 : v1.cell? ⟨bs, 0, none⟩ = some (.int .i64 (s).tm) := rs1.cell 0
                have cs1_1 : v1.cell? ⟨bs, 1, none⟩ = some (.int .i64 (s).level) := rs1.cell 1
                have cs1_2 : v1.cell? ⟨bs, 2, none⟩ = some (.int .i64 (s).held) := rs1.cell 2
                have cs1_3 : v1.cell? ⟨bs, 3, none⟩ = some (.slice A' (s).log.length cap') := rs1.cell 3
                have zs1 := rs1.lt
                have Rp1 := Lib.hid rp1
                have Rs1 := Lib.hid rs1
                have Ls1 := Lib.hid ls1
                have HB1 := Lib.hid hB1
                clear rp1 rs1 ls1 hB1 hb1
                clear p0 p1 p2 p3 p4 p5 ts0 ts1 ts2 ts3 zp zs
                go_wp2_with fail
                refine (known_calls _).mono ?_
                rintro e v2 ⟨rfl, hb2⟩
                have rp2 := Box.keep Rp1.out hb2
                have rs2 := Box.keep Rs1.out hb2
                have ls2 := Sl.keep Ls1.out hb2
                have hB2 := HB1.out.trans (hb2.mono HB1.out.size)
                have Rp2 := Lib.hid rp2
                have Rs2 := Lib.hid rs2
                have Ls2 := Lib.hid ls2
                have HB2 := Lib.hid hB2
                clear rp2 rs2 ls2 hB2 hb2
                clear cs1_0 cs1_1 cs1_2 cs1_3
                go_wp2_with fail
                go_ret
                exact ⟨rfl, HB2.out⟩
              · obtain ⟨u, hu0, u0, u1, hu1, hu2⟩ := until_spec HK.out hheld ht
                have HU0 := Lib.hid hu0
                have HU1 := Lib.hid hu1
                have HU2' := Lib.hid hu2
                clear hu0 hu1 hu2
                have q1 : decide (u < 0) = false := by simp; omega
                have q2 : decide (0 < s.held) = false := by simp; omega
                by_cases hu : 0 < u
                · obtain ⟨m, hm, hm0⟩ := HU2'.out hu
                  have q3 : (u == 0) = false := by simp; omega
                  have HU2 := Lib.hid hm
                  clear hm
                  obtain ⟨hBc, rpc, rsc, hSc⟩ := hcut.out
                  have p0 : wc.cell? ⟨bp, 0, none⟩ = some (.int .i64 p.kind) := rpc.cell 0
                  have p1 : wc.cell? ⟨bp, 1, none⟩ = some (.int .i64 p.limit) := rpc.cell 1
                  have p2 : wc.cell? ⟨bp, 2, none⟩ = some (.int .i64 p.period) := rpc.cell 2
                  have p3 : wc.cell? ⟨bp, 3, none⟩ = some (.int .i64 p.burst) := rpc.cell 3
                  have p4 : wc.cell? ⟨bp, 4, none⟩ = some (.int .i64 p.cap) := rpc.cell 4
                  have p5 : wc.cell? ⟨bp, 5, none⟩ = some (.bool p.opn) := rpc.cell 5
                  have ts0 : wc.cell? ⟨bs, 0, none⟩ = some (.int .i64 (s).tm) := rsc.cell 0
                  have ts1 : wc.cell? ⟨bs, 1, none⟩ = some (.int .i64 (s).level) := rsc.cell 1
                  have ts2 : wc.cell? ⟨bs, 2, none⟩ = some (.int .i64 (s).held) := rsc.cell 2
                  have ts3 : wc.cell? ⟨bs, 3, none⟩ = some (.slice A' (s).log.length cap') := rsc.cell 3
                  have zp := rpc.lt
                  have zs := rsc.lt
                  have RP := Lib.hid rpc
                  have RS := Lib.hid rsc
                  have HBc := Lib.hid hBc
                  have HSl := Lib.hid hSc
                  clear rpc rsc hBc hSc hcut
                  go_wp2_with fail
                  refine (until_is HU0.out 0 A' cap' _ HSl.out).mono ?_
                  rintro e v1 ⟨rfl, hb1⟩
                  have rp1 := Box.keep RP.out hb1
                  have rs1 := Box.keep RS.out hb1
                  have ls1 := Sl.keep HSl.out hb1
                  have hB1 := HBc.out.trans (hb1.mono HBc.out.size)
                  have cp1_0 : v1.cell? ⟨bp, 0, none⟩ = some (.int .i64 p.kind) := rp1.cell 0
                  have cp1_1 : v1.cell? ⟨bp, 1, none⟩ = some (.int .i64 p.limit) := rp1.cell 1
                  have cp1_2 : v1.cell? ⟨bp, 2, none⟩ = some (.int .i64 p.period) := rp1.cell 2
                  have cp1_3 : v1.cell? ⟨bp, 3, none⟩ = some (.int .i64 p.burst) := rp1.cell 3
                  have cp1_4 : v1.cell? ⟨bp, 4, none⟩ = some (.int .i64 p.cap) := rp1.cell 4
                  have cp1_5 : v1.cell? ⟨bp, 5, none⟩ = some (.bool p.opn) := rp1.cell 5
                  have zp1 := rp1.lt
                  have cs1_0 : v1.cell? ⟨bs, 0, none⟩ = some (.int .i64 (s).tm) := rs1.cell 0
                  have cs1_1 : v1.cell? ⟨bs, 1, none⟩ = some (.int .i64 (s).level) := rs1.cell 1
                  have cs1_2 : v1.cell? ⟨bs, 2, none⟩ = some (.int .i64 (s).held) := rs1.cell 2
                  have cs1_3 : v1.cell? ⟨bs, 3, none⟩ = some (.slice A' (s).log.length cap') := rs1.cell 3
                  have zs1 := rs1.lt
                  have Rp1 := Lib.hid rp1
                  have Rs1 := Lib.hid rs1
                  have Ls1 := Lib.hid ls1
                  have HB1 := Lib.hid hB1
                  clear rp1 rs1 ls1 hB1 hb1
                  clear p0 p1 p2 p3 p4 p5 ts0 ts1 ts2 ts3 zp zs
                  go_wp2_with fail
                  refine (until_is HU1.out 0 A' cap' _ Ls1.out).mono ?_
                  rintro e v2 ⟨rfl, hb2⟩
                  have rp2 := Box.keep Rp1.out hb2
                  have rs2 := Box.keep Rs1.out hb2
                  have ls2 := Sl.keep Ls1.out hb2
                  have hB2 := HB1.out.trans (hb2.mono HB1.out.size)
                  have cp2_0 : v2.cell? ⟨bp, 0, none⟩ = some (.int .i64 p.kind) := rp2.cell 0
                  have cp2_1 : v2.cell? ⟨bp, 1, none⟩ = some (.int .i64 p.limit) := rp2.cell 1
                  have cp2_2 : v2.cell? ⟨bp, 2, none⟩ = some (.int .i64 p.period) := rp2.cell 2
                  have cp2_3 : v2.cell? ⟨bp, 3, none⟩ = some (.int .i64 p.burst) := rp2.cell 3
                  have cp2_4 : v2.cell? ⟨bp, 4, none⟩ = some (.int .i64 p.cap) := rp2.cell 4
                  have cp2_5 : v2.cell? ⟨bp, 5, none⟩ = some (.bool p.opn) := rp2.cell 5
                  have zp2 := rp2.lt
                  have cs2_0 : v2.cell? ⟨bs, 0, none⟩ = some (.int .i64 (s).tm) := rs2.cell 0
                  have cs2_1 : v2.cell? ⟨bs, 1, none⟩ = some (.int .i64 (s).level) := rs2.cell 1
                  have cs2_2 : v2.cell? ⟨bs, 2, none⟩ = some (.int .i64 (s).held) := rs2.cell 2
                  have cs2_3 : v2.cell? ⟨bs, 3, none⟩ = some (.slice A' (s).log.length cap') := rs2.cell 3
                  have zs2 := rs2.lt
                  have Rp2 := Lib.hid rp2
                  have Rs2 := Lib.hid rs2
                  have Ls2 := Lib.hid ls2
                  have HB2 := Lib.hid hB2
                  clear rp2 rs2 ls2 hB2 hb2
                  clear cp1_0 cp1_1 cp1_2 cp1_3 cp1_4 cp1_5 cs1_0 cs1_1 cs1_2 cs1_3
                  go_wp2_with fail
                  refine (until_is HU2.out 0 A' cap' _ Ls2.out).mono ?_
                  rintro e v3 ⟨rfl, hb3⟩
                  have rp3 := Box.keep Rp2.out hb3
                  have rs3 := Box.keep Rs2.out hb3
                  have ls3 := Sl.keep Ls2.out hb3
                  have hB3 := HB2.out.trans (hb3.mono HB2.out.size)
                  have Rp3 := Lib.hid rp3
                  have Rs3 := Lib.hid rs3
                  have Ls3 := Lib.hid ls3
                  have HB3 := Lib.hid hB3
                  clear rp3 rs3 ls3 hB3 hb3
                  clear cp2_0 cp2_1 cp2_2 cp2_3 cp2_4 cp2_5 cs2_0 cs2_1 cs2_2 cs2_3
                  go_wp2_with fail
                  refine (known_calls _).mono ?_
                  rintro e v4 ⟨rfl, hb4⟩
                  have hB4 := HB3.out.trans (hb4.mono HB3.out.size)
                  have HB4 := Lib.hid hB4
                  clear hB4 hb4
                  go_wp2_with fail
                  go_ret
                  exact ⟨rfl, HB4.out⟩
                · have q3 : (u == 0) = true := by simp; omega
                  obtain ⟨hBc, rpc, rsc, hSc⟩ := hcut.out
                  have p0 : wc.cell? ⟨bp, 0, none⟩ = some (.int .i64 p.kind) := rpc.cell 0
                  have p1 : wc.cell? ⟨bp, 1, none⟩ = some (.int .i64 p.limit) := rpc.cell 1
                  have p2 : wc.cell? ⟨bp, 2, none⟩ = some (.int .i64 p.period) := rpc.cell 2
                  have p3 : wc.cell? ⟨bp, 3, none⟩ = some (.int .i64 p.burst) := rpc.cell 3
                  have p4 : wc.cell? ⟨bp, 4, none⟩ = some (.int .i64 p.cap) := rpc.cell 4
                  have p5 : wc.cell? ⟨bp, 5, none⟩ = some (.bool p.opn) := rpc.cell 5
                  have ts0 : wc.cell? ⟨bs, 0, none⟩ = some (.int .i64 (s).tm) := rsc.cell 0
                  have ts1 : wc.cell? ⟨bs, 1, none⟩ = some (.int .i64 (s).level) := rsc.cell 1
                  have ts2 : wc.cell? ⟨bs, 2, none⟩ = some (.int .i64 (s).held) := rsc.cell 2
                  have ts3 : wc.cell? ⟨bs, 3, none⟩ = some (.slice A' (s).log.length cap') := rsc.cell 3
                  have zp := rpc.lt
                  have zs := rsc.lt
                  have RP := Lib.hid rpc
                  have RS := Lib.hid rsc
                  have HBc := Lib.hid hBc
                  have HSl := Lib.hid hSc
                  clear rpc rsc hBc hSc hcut
                  go_wp2_with fail
                  refine (until_is HU0.out 0 A' cap' _ HSl.out).mono ?_
                  rintro e v1 ⟨rfl, hb1⟩
                  have rp1 := Box.keep RP.out hb1
                  have rs1 := Box.keep RS.out hb1
                  have ls1 := Sl.keep HSl.out hb1
                  have hB1 := HBc.out.trans (hb1.mono HBc.out.size)
                  have cp1_0 : v1.cell? ⟨bp, 0, none⟩ = some (.int .i64 p.kind) := rp1.cell 0
                  have cp1_1 : v1.cell? ⟨bp, 1, none⟩ = some (.int .i64 p.limit) := rp1.cell 1
                  have cp1_2 : v1.cell? ⟨bp, 2, none⟩ = some (.int .i64 p.period) := rp1.cell 2
                  have cp1_3 : v1.cell? ⟨bp, 3, none⟩ = some (.int .i64 p.burst) := rp1.cell 3
                  have cp1_4 : v1.cell? ⟨bp, 4, none⟩ = some (.int .i64 p.cap) := rp1.cell 4
                  have cp1_5 : v1.cell? ⟨bp, 5, none⟩ = some (.bool p.opn) := rp1.cell 5
                  have zp1 := rp1.lt
                  have cs1_0 : v1.cell? ⟨bs, 0, none⟩ = some (.int .i64 (s).tm) := rs1.cell 0
                  have cs1_1 : v1.cell? ⟨bs, 1, none⟩ = some (.int .i64 (s).level) := rs1.cell 1
                  have cs1_2 : v1.cell? ⟨bs, 2, none⟩ = some (.int .i64 (s).held) := rs1.cell 2
                  have cs1_3 : v1.cell? ⟨bs, 3, none⟩ = some (.slice A' (s).log.length cap') := rs1.cell 3
                  have zs1 := rs1.lt
                  have Rp1 := Lib.hid rp1
                  have Rs1 := Lib.hid rs1
                  have Ls1 := Lib.hid ls1
                  have HB1 := Lib.hid hB1
                  clear rp1 rs1 ls1 hB1 hb1
                  clear p0 p1 p2 p3 p4 p5 ts0 ts1 ts2 ts3 zp zs
                  go_wp2_with fail
                  refine (until_is HU1.out 0 A' cap' _ Ls1.out).mono ?_
                  rintro e v2 ⟨rfl, hb2⟩
                  have rp2 := Box.keep Rp1.out hb2
                  have rs2 := Box.keep Rs1.out hb2
                  have ls2 := Sl.keep Ls1.out hb2
                  have hB2 := HB1.out.trans (hb2.mono HB1.out.size)
                  have cp2_0 : v2.cell? ⟨bp, 0, none⟩ = some (.int .i64 p.kind) := rp2.cell 0
                  have cp2_1 : v2.cell? ⟨bp, 1, none⟩ = some (.int .i64 p.limit) := rp2.cell 1
                  have cp2_2 : v2.cell? ⟨bp, 2, none⟩ = some (.int .i64 p.period) := rp2.cell 2
                  have cp2_3 : v2.cell? ⟨bp, 3, none⟩ = some (.int .i64 p.burst) := rp2.cell 3
                  have cp2_4 : v2.cell? ⟨bp, 4, none⟩ = some (.int .i64 p.cap) := rp2.cell 4
                  have cp2_5 : v2.cell? ⟨bp, 5, none⟩ = some (.bool p.opn) := rp2.cell 5
                  have zp2 := rp2.lt
                  have cs2_0 : v2.cell? ⟨bs, 0, none⟩ = some (.int .i64 (s).tm) := rs2.cell 0
                  have cs2_1 : v2.cell? ⟨bs, 1, none⟩ = some (.int .i64 (s).level) := rs2.cell 1
                  have cs2_2 : v2.cell? ⟨bs, 2, none⟩ = some (.int .i64 (s).held) := rs2.cell 2
                  have cs2_3 : v2.cell? ⟨bs, 3, none⟩ = some (.slice A' (s).log.length cap') := rs2.cell 3
                  have zs2 := rs2.lt
                  have Rp2 := Lib.hid rp2
                  have Rs2 := Lib.hid rs2
                  have Ls2 := Lib.hid ls2
                  have HB2 := Lib.hid hB2
                  clear rp2 rs2 ls2 hB2 hb2
                  clear cp1_0 cp1_1 cp1_2 cp1_3 cp1_4 cp1_5 cs1_0 cs1_1 cs1_2 cs1_3
                  go_wp2_with fail
                  refine (known_calls _).mono ?_
                  rintro e v3 ⟨rfl, hb3⟩
                  have hB3 := HB2.out.trans (hb3.mono HB2.out.size)
                  have HB3 := Lib.hid hB3
                  clear hB3 hb3
                  clear cp2_0 cp2_1 cp2_2 cp2_3 cp2_4 cp2_5 cs2_0 cs2_1 cs2_2 cs2_3
                  go_wp2_with fail
                  go_ret
                  exact ⟨rfl, HB3.out⟩
        · by_cases hc : 1 + c ≤ p.limit - s.held
          · obtain ⟨r, he⟩ := retry_some HK.out (c := 1 + c) (by omega) hc
            have HE := Lib.hid he
            clear he
            go_wp2_with fail
            refine (retry_is HE.out 0 A' cap' _ HSl.out).mono ?_
            rintro e v1 ⟨rfl, hb1⟩
            have rp1 := Box.keep RP.out hb1
            have rs1 := Box.keep RS.out hb1
            have ls1 := Sl.keep HSl.out hb1
            have hB1 := HBr.out.trans (hb1.mono HBr.out.size)
            have cp1_0 : v1.cell? ⟨bp, 0, none⟩ = some (.int .i64 p.kind) := rp1.cell 0
            have cp1_1 : v1.cell? ⟨bp, 1, none⟩ = some (.int .i64 p.limit) := rp1.cell 1
            have cp1_2 : v1.cell? ⟨bp, 2, none⟩ = some (.int .i64 p.period) := rp1.cell 2
            have cp1_3 : v1.cell? ⟨bp, 3, none⟩ = some (.int .i64 p.burst) := rp1.cell 3
            have cp1_4 : v1.cell? ⟨bp, 4, none⟩ = some (.int .i64 p.cap) := rp1.cell 4
            have cp1_5 : v1.cell? ⟨bp, 5, none⟩ = some (.bool p.opn) := rp1.cell 5
            have zp1 := rp1.lt
            have cs1_0 : v1.cell? ⟨bs, 0, none⟩ = some (.int .i64 (s).tm) := rs1.cell 0
            have cs1_1 : v1.cell? ⟨bs, 1, none⟩ = some (.int .i64 (s).level) := rs1.cell 1
            have cs1_2 : v1.cell? ⟨bs, 2, none⟩ = some (.int .i64 (s).held) := rs1.cell 2
            have cs1_3 : v1.cell? ⟨bs, 3, none⟩ = some (.slice A' (s).log.length cap') := rs1.cell 3
            have zs1 := rs1.lt
            have Rp1 := Lib.hid rp1
            have Rs1 := Lib.hid rs1
            have Ls1 := Lib.hid ls1
            have HB1 := Lib.hid hB1
            clear rp1 rs1 ls1 hB1 hb1
            clear p0 p1 p2 p3 p4 p5 ts0 ts1 ts2 ts3 zp zs
            go_wp2_with fail
            refine (known_calls _).mono ?_
            rintro e v2 ⟨rfl, hb2⟩
            have hB2 := HB1.out.trans (hb2.mono HB1.out.size)
            have HB2 := Lib.hid hB2
            clear hB2 hb2
            clear cp1_0 cp1_1 cp1_2 cp1_3 cp1_4 cp1_5 cs1_0 cs1_1 cs1_2 cs1_3
            go_wp2_with fail
            go_ret
            exact ⟨rfl, HB2.out⟩
          · have HE := Lib.hid (retry_none HK.out hc)
            go_wp2_with fail
            refine (retry_is HE.out 0 A' cap' _ HSl.out).mono ?_
            rintro e v1 ⟨rfl, hb1⟩
            have rp1 := Box.keep RP.out hb1
            have rs1 := Box.keep RS.out hb1
            have ls1 := Sl.keep HSl.out hb1
            have hB1 := HBr.out.trans (hb1.mono HBr.out.size)
            have cp1_0 : v1.cell? ⟨bp, 0, none⟩ = some (.int .i64 p.kind) := rp1.cell 0
            have cp1_1 : v1.cell? ⟨bp, 1, none⟩ = some (.int .i64 p.limit) := rp1.cell 1
            have cp1_2 : v1.cell? ⟨bp, 2, none⟩ = some (.int .i64 p.period) := rp1.cell 2
            have cp1_3 : v1.cell? ⟨bp, 3, none⟩ = some (.int .i64 p.burst) := rp1.cell 3
            have cp1_4 : v1.cell? ⟨bp, 4, none⟩ = some (.int .i64 p.cap) := rp1.cell 4
            have cp1_5 : v1.cell? ⟨bp, 5, none⟩ = some (.bool p.opn) := rp1.cell 5
            have zp1 := rp1.lt
            have cs1_0 : v1.cell? ⟨bs, 0, none⟩ = some (.int .i64 (s).tm) := rs1.cell 0
            have cs1_1 : v1.cell? ⟨bs, 1, none⟩ = some (.int .i64 (s).level) := rs1.cell 1
            have cs1_2 : v1.cell? ⟨bs, 2, none⟩ = some (.int .i64 (s).held) := rs1.cell 2
            have cs1_3 : v1.cell? ⟨bs, 3, none⟩ = some (.slice A' (s).log.length cap') := rs1.cell 3
            have zs1 := rs1.lt
            have Rp1 := Lib.hid rp1
            have Rs1 := Lib.hid rs1
            have Ls1 := Lib.hid ls1
            have HB1 := Lib.hid hB1
            clear rp1 rs1 ls1 hB1 hb1
            clear p0 p1 p2 p3 p4 p5 ts0 ts1 ts2 ts3 zp zs
            go_wp2_with fail
            refine (known_calls _).mono ?_
            rintro e v2 ⟨rfl, hb2⟩
            have hB2 := HB1.out.trans (hb2.mono HB1.out.size)
            have HB2 := Lib.hid hB2
            clear hB2 hb2
            clear cp1_0 cp1_1 cp1_2 cp1_3 cp1_4 cp1_5 cs1_0 cs1_1 cs1_2 cs1_3
            go_wp2_with fail
            go_ret
            exact ⟨rfl, HB2.out⟩
  · go_enter Try.func5, Try.ntmps5
    go_wp2_with fail
    refine (small_no hs A cap _).mono ?_
    rintro e w1 ⟨rfl, rfl⟩
    go_wp2_with fail
    refine (known_calls _).mono ?_
    rintro e w1 ⟨rfl, hb1⟩
    have HB1 := Lib.hid hb1
    clear hb1
    go_wp2_with fail
    go_ret
    exact ⟨rfl, HB1.out⟩

end Wn
end Go.Proofs.Ytikfjdpkjifcdaa
