/-
  The walk of the law CounterBacks.
-/
import Derived.Test.YtikfjdpkjifcdaaCtrKnown
import Derived.Test.YtikfjdpkjifcdaaCtrMore
import Derived.Deep.DrawnRows
namespace Go.Proofs.Ytikfjdpkjifcdaa
open Go.RowKit
attribute [local go_sem ↓] Go.wp_at_zero Go.wp_at_succ
namespace Wn

set_option maxHeartbeats 32000000 in
set_option maxRecDepth 100000 in
theorem backs_law (limit period nn : Int) (h1 : 0 ≤ limit ∧ limit < 65536) (h2 : 0 ≤ period ∧ period < 65536) (A : Option Addr) (cap : Nat) (L : List (Int × Int × Int)) (n c : Int) (hnb : 0 ≤ n ∧ n < 4294967296) (hcb : 0 ≤ c ∧ c < 256) (w : World) (hA : Acts w A L) :
    Calls Try.prog 6 #[.int .u16 limit, .int .u16 period, .int .u16 nn, .slice A L.length cap, .int .u32 n, .int .u8 c] w fun e w' => e = .returned (.bool true) ∧ Below w.heap.size w w' := by
  have HA := Lib.hid hA
  clear hA
  by_cases hs : L.length ≤ 60
  · obtain ⟨p, hp⟩ : ∃ p, ofP limit period = p := ⟨_, rfl⟩
    obtain ⟨s0, hs0⟩ : ∃ s0, new p 0 = s0 := ⟨_, rfl⟩
    have HP := Lib.hid hp
    have HS0 := Lib.hid hs0
    have HK0 := Lib.hid (show Ok p s0 by rw [← hs0]; exact ok_new (by rw [← hp]; exact chk_ofP h1 h2) 0)
    have HL0 := Lib.hid (show s0.log = [] by rw [← hs0]; exact new_log p 0)
    clear hp hs0
    go_enter Try.func6, Try.ntmps6
    go_wp2_with fail
    refine (small_yes hs A cap _).mono ?_
    rintro e w1 ⟨rfl, rfl⟩
    go_wp2_with fail
    refine (of_at HP.out h1 h2 _).mono ?_
    rintro e w1 ⟨rfl, hb1⟩
    have HB1 := Lib.hid hb1
    have z1 := hb1.size
    clear hb1
    go_wp2_with fail
    refine (new_at HS0.out _).mono ?_
    rintro e w2 ⟨rfl, hb2⟩
    have HBP := Lib.hid ((Box.new w1 23 (pcells p)).keep hb2)
    have HB2 := Lib.hid ((HB1.out.alloc z1 _).trans (hb2.mono (Nat.le_trans z1 (below_lt1 w1 _))))
    have z2 : w.heap.size ≤ w2.heap.size := HB2.out.size
    have hbp : w1.heap.size < w2.heap.size := HBP.out.lt
    have HW1 := Lib.hid hb2
    clear hb2
    obtain ⟨bp, ebp⟩ : ∃ b, w1.heap.size = b := ⟨_, rfl⟩
    obtain ⟨bs, ebs⟩ : ∃ b, w2.heap.size = b := ⟨_, rfl⟩
    have HBP := Lib.hid (show Box w2 bp 23 (pcells p) by rw [← ebp]; exact HBP.out)
    go_wp2_with fail
    have hzbs : w.heap.size ≤ bs := by rw [← ebs]; exact z2
    have hbps : bp < bs := by rw [← ebp, ← ebs]; exact hbp
    go_loopg [15] L.length (fun g i wr => ∃ (k : Nat) (s : St) (A' : Option Addr) (cap' : Nat), k ≤ L.length ∧ g = L.length - k ∧ i = .int .i64 k ∧ Hid (s = run p s0 (L.take k)) ∧ Hid (At w wr bp bs p s A' cap'))
    case atStart => exact ⟨0, s0, none, 0, Nat.zero_le _, rfl, rfl, rfl, HB2.out.alloc z2 _, HBP.out.alloc _, (by rw [HL0.out, ← ebs]; exact Box.new _ _ _), (by rw [HL0.out]; exact Sl.nil _ _)⟩
    case round =>
      obtain ⟨k, s, A', cap', hk, hg, rfl, HR, HT⟩ := hrel
      have HG := Lib.hid hg
      obtain ⟨hBr, rp, rs, hSl⟩ := HT.out
      have RP := Lib.hid rp
      have RS := Lib.hid rs
      have HBr := Lib.hid hBr
      have hz0 : w.heap.size ≤ wr.heap.size := hBr.size
      have HAr := Lib.hid (HA.out.keep hBr)
      have HSl := Lib.hid hSl
      have HT := Lib.hid HT
      clear hg hBr hSl
      have p0 : wr.cell? ⟨bp, 0, none⟩ = some (.int .i64 p.kind) := rp.cell 0
      have p1 : wr.cell? ⟨bp, 1, none⟩ = some (.int .i64 p.limit) := rp.cell 1
      have p2 : wr.cell? ⟨bp, 2, none⟩ = some (.int .i64 p.period) := rp.cell 2
      have p3 : wr.cell? ⟨bp, 3, none⟩ = some (.int .i64 p.burst) := rp.cell 3
      have p4 : wr.cell? ⟨bp, 4, none⟩ = some (.int .i64 p.cap) := rp.cell 4
      have p5 : wr.cell? ⟨bp, 5, none⟩ = some (.bool p.opn) := rp.cell 5
      have ts0 : wr.cell? ⟨bs, 0, none⟩ = some (.int .i64 (s).tm) := rs.cell 0
      have ts1 : wr.cell? ⟨bs, 1, none⟩ = some (.int .i64 (s).level) := rs.cell 1
      have ts2 : wr.cell? ⟨bs, 2, none⟩ = some (.int .i64 (s).held) := rs.cell 2
      have ts3 : wr.cell? ⟨bs, 3, none⟩ = some (.slice A' (s).log.length cap') := rs.cell 3
      have zp := rp.lt
      have zs := rs.lt
      clear rp rs
      by_cases hlt : k < L.length
      · obtain ⟨a, rfl, c1, c2, c3⟩ := HAr.out.at_ hlt
        have zn1 : ¬ (wr.heap.size = bp) := by omega
        have zn2 : ¬ (wr.heap.size = bs) := by omega
        have zn3 : ¬ (wr.heap.size = (a.add (k * 3)).block) := fun h => by have := World.block_lt_of_cell? wr _ c1; omega
        have i1 : (k : Int) < (L.length : Int) := by omega
        go_wp2_with fail
        obtain ⟨t, is, hact, hrt, hsame⟩ : ∃ t is, act p s L[k].1 L[k].2.1 L[k].2.2 = (t, is) ∧ right p t = true ∧ (is = false → sameS t s = true) := by
          have hks : Ok p s := by rw [show s = _ from HR.out]; exact run_ok HK0.out _
          exact ⟨_, _, rfl, ok_right (act_ok hks _ _ _), fun h => act_same hks h⟩
        have hnt : t.log.length ≤ 100 := (right_ok hrt).n
        have HACT := Lib.hid hact
        have HRT := Lib.hid hrt
        have HSM := Lib.hid hsame
        clear hact hrt hsame
        go_cut [16, 17] (fun s16 s17 w4 => ∃ (b : Nat) (A4 : Option Addr) (cap4 : Nat), s16 = .pointer (some ⟨b, 0, none⟩) ∧ s17 = .bool is ∧ Hid (At w w4 bp b p t A4 cap4 ∧ Box w4 bs 32 (scells (s).tm (s).level (s).held (.slice A' (s).log.length cap')) ∧ Sl w4 0 A' cap' s.log ∧ b ≠ bs ∧ b ≠ bp))
        case first =>
          go_region_held3 (fun w' => w'.cell? ⟨bp, 0, none⟩ = some (.int .i64 p.kind) ∧ w'.cell? ⟨bp, 1, none⟩ = some (.int .i64 p.limit) ∧ w'.cell? ⟨bp, 2, none⟩ = some (.int .i64 p.period) ∧ w'.cell? ⟨bp, 3, none⟩ = some (.int .i64 p.burst) ∧ w'.cell? ⟨bp, 4, none⟩ = some (.int .i64 p.cap) ∧ w'.cell? ⟨bp, 5, none⟩ = some (.bool p.opn) ∧ w'.cell? ⟨bs, 0, none⟩ = some (.int .i64 (s).tm) ∧ w'.cell? ⟨bs, 1, none⟩ = some (.int .i64 (s).level) ∧ w'.cell? ⟨bs, 2, none⟩ = some (.int .i64 (s).held) ∧ w'.cell? ⟨bs, 3, none⟩ = some (.slice A' (s).log.length cap') ∧ w'.cell? (a.add (k * 3)) = some (.int .i64 L[k].1) ∧ w'.cell? ⟨(a.add (k * 3)).block, (a.add (k * 3)).off + 1, none⟩ = some (.int .i64 L[k].2.1) ∧ w'.cell? ⟨(a.add (k * 3)).block, (a.add (k * 3)).off + 2, none⟩ = some (.int .i64 L[k].2.2)) (go_keep) (first | (go_at_call 17; refine (do_is HACT.out 0 A' cap' _ ?_).mono ?_; (first | exact Sl.drew HSl.out | exact Sl.drew (Sl.alloc HSl.out _)); rintro e w3 ⟨A3, cap3, rfl, hS3, hb3⟩; (first | (have rp3 := Box.keep (Box.drew RP.out) hb3; have rs3 := Box.keep (Box.drew RS.out) hb3; have ls3 := Sl.keep (Sl.drew HSl.out) hb3; have ha3 := Acts.keep (HAr.out) (Below.trans (Below.refl _ _).drew hb3); have hB3 := HBr.out.trans ((Below.refl _ _).drew.trans (hb3.mono hz0))) | (have rp3 := Box.keep (Box.drew (Box.alloc RP.out _)) hb3; have rs3 := Box.keep (Box.drew (Box.alloc RS.out _)) hb3; have ls3 := Sl.keep (Sl.drew (Sl.alloc HSl.out _)) hb3; have rz3 := Box.keep (Box.drew (Box.new wr 32 (scells 0 0 0 (.slice none 0 0)))) hb3; have ha3 := Acts.keep (HAr.out.alloc _) (Below.trans (Below.refl _ _).drew hb3); have hB3 := (HBr.out.alloc hz0 _).trans ((Below.refl _ _).drew.trans (hb3.mono (Nat.le_trans hz0 (below_lt1 wr _)))); have x0 : w3.cell? ⟨wr.heap.size, 0, none⟩ = some (.int .i64 0) := rz3.cell 0; have x1 : w3.cell? ⟨wr.heap.size, 1, none⟩ = some (.int .i64 0) := rz3.cell 1; have x2 : w3.cell? ⟨wr.heap.size, 2, none⟩ = some (.int .i64 0) := rz3.cell 2; have x3 : w3.cell? ⟨wr.heap.size, 3, none⟩ = some (.slice none 0 0) := rz3.cell 3; have xf0 := rz3.free 0; have xf1 := rz3.free 1; have xf2 := rz3.free 2; have xf3 := rz3.free 3)); obtain ⟨a3, ha3e, y1, y2, y3⟩ := ha3.at_ hlt; injection ha3e with ha3e; subst ha3e; have f0 : w3.cell? ⟨bp, 0, none⟩ = some (.int .i64 p.kind) := rp3.cell 0; have f1 : w3.cell? ⟨bp, 1, none⟩ = some (.int .i64 p.limit) := rp3.cell 1; have f2 : w3.cell? ⟨bp, 2, none⟩ = some (.int .i64 p.period) := rp3.cell 2; have f3 : w3.cell? ⟨bp, 3, none⟩ = some (.int .i64 p.burst) := rp3.cell 3; have f4 : w3.cell? ⟨bp, 4, none⟩ = some (.int .i64 p.cap) := rp3.cell 4; have f5 : w3.cell? ⟨bp, 5, none⟩ = some (.bool p.opn) := rp3.cell 5; have g0 : w3.cell? ⟨bs, 0, none⟩ = some (.int .i64 (s).tm) := rs3.cell 0; have g1 : w3.cell? ⟨bs, 1, none⟩ = some (.int .i64 (s).level) := rs3.cell 1; have g2 : w3.cell? ⟨bs, 2, none⟩ = some (.int .i64 (s).held) := rs3.cell 2; have g3 : w3.cell? ⟨bs, 3, none⟩ = some (.slice A' (s).log.length cap') := rs3.cell 3))
          all_goals (go_wp2_with fail; go_meet)
          case rel => exact ⟨_, A3, cap3, rfl, rfl, ⟨hB3.alloc hB3.size _, rp3.alloc _, Box.new _ _ _, (hS3.mono (Nat.zero_le _)).alloc _⟩, rs3.alloc _, ls3.alloc _, Nat.ne_of_gt rs3.lt, Nat.ne_of_gt rp3.lt⟩
          case rel => exact ⟨_, A3, cap3, rfl, rfl, ⟨below_set4 hB3 hz0 _ _ _ _, rp3.far4 (Ne.symm zn1) _ _ _ _, rz3.set4 _ _ _ _, (hS3.mono (Nat.zero_le _)).far4 rz3 _ _ _ _⟩, rs3.far4 (Ne.symm zn2) _ _ _ _, ls3.far4 rz3 _ _ _ _, zn2, zn1⟩
        case rest =>
          obtain ⟨b, A4, cap4, rfl, rfl, hcut⟩ := hcut
          obtain ⟨⟨hB4, rp4, rt4, hS4⟩, rs4, ls4, nb, nb2⟩ := hcut.out
          have tp0 : wc.cell? ⟨bp, 0, none⟩ = some (.int .i64 p.kind) := rp4.cell 0
          have tp1 : wc.cell? ⟨bp, 1, none⟩ = some (.int .i64 p.limit) := rp4.cell 1
          have tp2 : wc.cell? ⟨bp, 2, none⟩ = some (.int .i64 p.period) := rp4.cell 2
          have tp3 : wc.cell? ⟨bp, 3, none⟩ = some (.int .i64 p.burst) := rp4.cell 3
          have tp4 : wc.cell? ⟨bp, 4, none⟩ = some (.int .i64 p.cap) := rp4.cell 4
          have tp5 : wc.cell? ⟨bp, 5, none⟩ = some (.bool p.opn) := rp4.cell 5
          have tt0 : wc.cell? ⟨b, 0, none⟩ = some (.int .i64 (t).tm) := rt4.cell 0
          have tt1 : wc.cell? ⟨b, 1, none⟩ = some (.int .i64 (t).level) := rt4.cell 1
          have tt2 : wc.cell? ⟨b, 2, none⟩ = some (.int .i64 (t).held) := rt4.cell 2
          have tt3 : wc.cell? ⟨b, 3, none⟩ = some (.slice A4 (t).log.length cap4) := rt4.cell 3
          have tu0 : wc.cell? ⟨bs, 0, none⟩ = some (.int .i64 (s).tm) := rs4.cell 0
          have tu1 : wc.cell? ⟨bs, 1, none⟩ = some (.int .i64 (s).level) := rs4.cell 1
          have tu2 : wc.cell? ⟨bs, 2, none⟩ = some (.int .i64 (s).held) := rs4.cell 2
          have tu3 : wc.cell? ⟨bs, 3, none⟩ = some (.slice A' (s).log.length cap') := rs4.cell 3
          have HB4 := Lib.hid hB4
          have RP4 := Lib.hid rp4
          have RT4 := Lib.hid rt4
          have RS4 := Lib.hid rs4
          have HS4 := Lib.hid hS4
          have LS4 := Lib.hid ls4
          clear hcut hB4 rp4 rt4 hS4 rs4 ls4
          cases is with
          | true =>
            go_wp2_with fail
            refine (right_is HRT.out 0 A4 cap4 _ HS4.out).mono ?_
            rintro e w6 ⟨rfl, hb6⟩
            have rp4 := RP4.out.keep hb6
            have rt4 := RT4.out.keep hb6
            have rs4 := RS4.out.keep hb6
            have hS4 := HS4.out.keep hb6
            have hB4 := HB4.out.trans (hb6.mono HB4.out.size)
            have vt0 : w6.cell? ⟨b, 0, none⟩ = some (.int .i64 (t).tm) := rt4.cell 0
            have vt1 : w6.cell? ⟨b, 1, none⟩ = some (.int .i64 (t).level) := rt4.cell 1
            have vt2 : w6.cell? ⟨b, 2, none⟩ = some (.int .i64 (t).held) := rt4.cell 2
            have vt3 : w6.cell? ⟨b, 3, none⟩ = some (.slice A4 (t).log.length cap4) := rt4.cell 3
            have vu0 : w6.cell? ⟨bs, 0, none⟩ = some (.int .i64 (s).tm) := rs4.cell 0
            have vu1 : w6.cell? ⟨bs, 1, none⟩ = some (.int .i64 (s).level) := rs4.cell 1
            have vu2 : w6.cell? ⟨bs, 2, none⟩ = some (.int .i64 (s).held) := rs4.cell 2
            have vu3 : w6.cell? ⟨bs, 3, none⟩ = some (.slice A' (s).log.length cap') := rs4.cell 3
            have vf0 := rs4.free 0
            have vf1 := rs4.free 1
            have vf2 := rs4.free 2
            have vf3 := rs4.free 3
            have HB4 := Lib.hid hB4
            have RP4 := Lib.hid rp4
            have RS4 := Lib.hid rs4
            have HS4 := Lib.hid hS4
            clear hb6 rp4 rt4 rs4 hS4 hB4
            go_wp2_with fail
            go_roundg (gk - 1)
            case rel => exact ⟨k + 1, t, A4, cap4, by omega, by have := HG.out; omega, by go_num, (by show _ = _; rw [run_take _ _ _ _ hlt, ← show s = _ from HR.out, HACT.out]), ⟨below_set4 HB4.out hzbs _ _ _ _, RP4.out.far4 (Nat.ne_of_lt hbps) _ _ _ _, RS4.out.set4 _ _ _ _, HS4.out.far4 RS4.out _ _ _ _⟩⟩
            case measure => have := HG.out; omega
          | false =>
            go_wp2_with fail
            refine (same_of (by first | exact HSM.out rfl | exact HSM.out trivial) HS4.out.ents LS4.out.ents (by omega)).mono ?_
            rintro e w5 ⟨rfl, hb5⟩
            have rp4 := RP4.out.keep hb5
            have rt4 := RT4.out.keep hb5
            have rs4 := RS4.out.keep hb5
            have hS4 := HS4.out.keep hb5
            have hB4 := HB4.out.trans (hb5.mono HB4.out.size)
            have up0 : w5.cell? ⟨bp, 0, none⟩ = some (.int .i64 p.kind) := rp4.cell 0
            have up1 : w5.cell? ⟨bp, 1, none⟩ = some (.int .i64 p.limit) := rp4.cell 1
            have up2 : w5.cell? ⟨bp, 2, none⟩ = some (.int .i64 p.period) := rp4.cell 2
            have up3 : w5.cell? ⟨bp, 3, none⟩ = some (.int .i64 p.burst) := rp4.cell 3
            have up4 : w5.cell? ⟨bp, 4, none⟩ = some (.int .i64 p.cap) := rp4.cell 4
            have up5 : w5.cell? ⟨bp, 5, none⟩ = some (.bool p.opn) := rp4.cell 5
            have ut0 : w5.cell? ⟨b, 0, none⟩ = some (.int .i64 (t).tm) := rt4.cell 0
            have ut1 : w5.cell? ⟨b, 1, none⟩ = some (.int .i64 (t).level) := rt4.cell 1
            have ut2 : w5.cell? ⟨b, 2, none⟩ = some (.int .i64 (t).held) := rt4.cell 2
            have ut3 : w5.cell? ⟨b, 3, none⟩ = some (.slice A4 (t).log.length cap4) := rt4.cell 3
            have HB4 := Lib.hid hB4
            have RP4 := Lib.hid rp4
            have RT4 := Lib.hid rt4
            have RS4 := Lib.hid rs4
            have HS4 := Lib.hid hS4
            clear hb5 rp4 rt4 rs4 hS4 hB4
            go_wp2_with fail
            refine (right_is HRT.out 0 A4 cap4 _ HS4.out).mono ?_
            rintro e w6 ⟨rfl, hb6⟩
            have rp4 := RP4.out.keep hb6
            have rt4 := RT4.out.keep hb6
            have rs4 := RS4.out.keep hb6
            have hS4 := HS4.out.keep hb6
            have hB4 := HB4.out.trans (hb6.mono HB4.out.size)
            have vt0 : w6.cell? ⟨b, 0, none⟩ = some (.int .i64 (t).tm) := rt4.cell 0
            have vt1 : w6.cell? ⟨b, 1, none⟩ = some (.int .i64 (t).level) := rt4.cell 1
            have vt2 : w6.cell? ⟨b, 2, none⟩ = some (.int .i64 (t).held) := rt4.cell 2
            have vt3 : w6.cell? ⟨b, 3, none⟩ = some (.slice A4 (t).log.length cap4) := rt4.cell 3
            have vu0 : w6.cell? ⟨bs, 0, none⟩ = some (.int .i64 (s).tm) := rs4.cell 0
            have vu1 : w6.cell? ⟨bs, 1, none⟩ = some (.int .i64 (s).level) := rs4.cell 1
            have vu2 : w6.cell? ⟨bs, 2, none⟩ = some (.int .i64 (s).held) := rs4.cell 2
            have vu3 : w6.cell? ⟨bs, 3, none⟩ = some (.slice A' (s).log.length cap') := rs4.cell 3
            have vf0 := rs4.free 0
            have vf1 := rs4.free 1
            have vf2 := rs4.free 2
            have vf3 := rs4.free 3
            have HB4 := Lib.hid hB4
            have RP4 := Lib.hid rp4
            have RS4 := Lib.hid rs4
            have HS4 := Lib.hid hS4
            clear hb6 rp4 rt4 rs4 hS4 hB4
            go_wp2_with fail
            go_roundg (gk - 1)
            case rel => exact ⟨k + 1, t, A4, cap4, by omega, by have := HG.out; omega, by go_num, (by show _ = _; rw [run_take _ _ _ _ hlt, ← show s = _ from HR.out, HACT.out]), ⟨below_set4 HB4.out hzbs _ _ _ _, RP4.out.far4 (Nat.ne_of_lt hbps) _ _ _ _, RS4.out.set4 _ _ _ _, HS4.out.far4 RS4.out _ _ _ _⟩⟩
            case measure => have := HG.out; omega
      · have hkl : k = L.length := by omega
        have HR := Lib.hid (show s = run p s0 L by rw [show s = _ from HR.out, hkl, List.take_length])
        have HK := Lib.hid (show Ok p s by rw [show s = _ from HR.out]; exact run_ok HK0.out L)
        clear hkl
        rcases backs_spec HK.out (n := n) (c := 1 + c) (by omega) with ⟨sh, sk, sr, rm', e1, e2, e3, hle, e4, e5, e6, nr, nk⟩ | ⟨rm', e1, e2, e3, hle⟩
        · have E1 := Lib.hid e1
          have E2 := Lib.hid e2
          have E3 := Lib.hid e3
          have E4 := Lib.hid e4
          have E5 := Lib.hid e5
          have E6 := Lib.hid e6
          clear e1 e2 e3 e4 e5 e6
          go_wp2_with fail
          refine (do_is E1.out 0 A' cap' _ HSl.out).mono ?_
          rintro e v1 ⟨A1, cap1, rfl, hs1, hb1⟩
          have rp1 := Box.keep RP.out hb1
          have rs1 := Box.keep RS.out hb1
          have ls1 := Sl.keep HSl.out hb1
          have hB1 := HBr.out.trans (hb1.mono HBr.out.size)
          have cp1_0 : v1.cell? ⟨bp, 0, none⟩ = some (.int .i64 p.kind) := rp1.cell 0
          have cp1_1 : v1.cell? ⟨bp, 1, none⟩ = some (.int .i64 p.limit) := rp1.cell 1
          have cp1_2 : v1.cell? ⟨bp, 2, none⟩ = some (.int .i64 p.period) := rp1.cell 2
          have cp1_3 : v1.cell? ⟨bp, 3, none⟩ = some (.int .i64 p.burst) := rp1.cell 3
          have cp1_4 : v1.cell? ⟨bp, 4, none⟩ = some (.int .i64 p.cap) := rp1.cell 4
          have cp1_5 : v1.cell? ⟨bp, 5, none⟩ = some (.bool p.opn) := rp1.cell 5
          have zp1 := rp1.lt
          have cs1_0 : v1.cell? ⟨bs, 0, none⟩ = some (.int .i64 (s).tm) := rs1.cell 0
          have cs1_1 : v1.cell? ⟨bs, 1, none⟩ = some (.int .i64 (s).level) := rs1.cell 1
          have cs1_2 : v1.cell? ⟨bs, 2, none⟩ = some (.int .i64 (s).held) := rs1.cell 2
          have cs1_3 : v1.cell? ⟨bs, 3, none⟩ = some (.slice A' (s).log.length cap') := rs1.cell 3
          have zs1 := rs1.lt
          have Rp1 := Lib.hid rp1
          have Rs1 := Lib.hid rs1
          have Ls1 := Lib.hid ls1
          have HB1 := Lib.hid hB1
          clear rp1 rs1 ls1 hB1 hb1
          clear p0 p1 p2 p3 p4 p5 ts0 ts1 ts2 ts3 zp zs
          have HS1 := Lib.hid (hs1.mono (Nat.zero_le _))
          clear hs1
          go_wp2_with fail
          refine (do_is E2.out 0 A' cap' _ (Ls1.out.alloc _)).mono ?_
          rintro e v2 ⟨A2, cap2, rfl, hs2, hb2⟩
          have rp2 := Box.keep (Rp1.out.alloc _) hb2
          have rs2 := Box.keep (Rs1.out.alloc _) hb2
          have ls2 := Sl.keep (Ls1.out.alloc _) hb2
          have rh2 := Box.keep (Box.new v1 _ _) hb2
          have lh2 := Sl.keep (HS1.out.alloc _) hb2
          have hB2 := (HB1.out.alloc HB1.out.size _).trans (hb2.mono (Nat.le_trans HB1.out.size (below_lt1 v1 _)))
          have cp2_0 : v2.cell? ⟨bp, 0, none⟩ = some (.int .i64 p.kind) := rp2.cell 0
          have cp2_1 : v2.cell? ⟨bp, 1, none⟩ = some (.int .i64 p.limit) := rp2.cell 1
          have cp2_2 : v2.cell? ⟨bp, 2, none⟩ = some (.int .i64 p.period) := rp2.cell 2
          have cp2_3 : v2.cell? ⟨bp, 3, none⟩ = some (.int .i64 p.burst) := rp2.cell 3
          have cp2_4 : v2.cell? ⟨bp, 4, none⟩ = some (.int .i64 p.cap) := rp2.cell 4
          have cp2_5 : v2.cell? ⟨bp, 5, none⟩ = some (.bool p.opn) := rp2.cell 5
          have zp2 := rp2.lt
          have cs2_0 : v2.cell? ⟨bs, 0, none⟩ = some (.int .i64 (s).tm) := rs2.cell 0
          have cs2_1 : v2.cell? ⟨bs, 1, none⟩ = some (.int .i64 (s).level) := rs2.cell 1
          have cs2_2 : v2.cell? ⟨bs, 2, none⟩ = some (.int .i64 (s).held) := rs2.cell 2
          have cs2_3 : v2.cell? ⟨bs, 3, none⟩ = some (.slice A' (s).log.length cap') := rs2.cell 3
          have zs2 := rs2.lt
          have Rp2 := Lib.hid rp2
          have Rs2 := Lib.hid rs2
          have Ls2 := Lib.hid ls2
          have Rh2 := Lib.hid rh2
          have Lh2 := Lib.hid lh2
          have HB2 := Lib.hid hB2
          clear rp2 rs2 ls2 rh2 lh2 hB2 hb2
          clear cp1_0 cp1_1 cp1_2 cp1_3 cp1_4 cp1_5 cs1_0 cs1_1 cs1_2 cs1_3
          have HS2 := Lib.hid (hs2.mono (Nat.zero_le _))
          clear hs2
          go_wp2_with fail
          refine (room_is E3.out 0 A' cap' _ (Ls2.out.alloc _)).mono ?_
          rintro e v3 ⟨rfl, hb3⟩
          have rp3 := Box.keep (Rp2.out.alloc _) hb3
          have rs3 := Box.keep (Rs2.out.alloc _) hb3
          have ls3 := Sl.keep (Ls2.out.alloc _) hb3
          have rh3 := Box.keep (Rh2.out.alloc _) hb3
          have lh3 := Sl.keep (Lh2.out.alloc _) hb3
          have rk3 := Box.keep (Box.new v2 _ _) hb3
          have lk3 := Sl.keep (HS2.out.alloc _) hb3
          have hB3 := (HB2.out.alloc HB2.out.size _).trans (hb3.mono (Nat.le_trans HB2.out.size (below_lt1 v2 _)))
          have cp3_0 : v3.cell? ⟨bp, 0, none⟩ = some (.int .i64 p.kind) := rp3.cell 0
          have cp3_1 : v3.cell? ⟨bp, 1, none⟩ = some (.int .i64 p.limit) := rp3.cell 1
          have cp3_2 : v3.cell? ⟨bp, 2, none⟩ = some (.int .i64 p.period) := rp3.cell 2
          have cp3_3 : v3.cell? ⟨bp, 3, none⟩ = some (.int .i64 p.burst) := rp3.cell 3
          have cp3_4 : v3.cell? ⟨bp, 4, none⟩ = some (.int .i64 p.cap) := rp3.cell 4
          have cp3_5 : v3.cell? ⟨bp, 5, none⟩ = some (.bool p.opn) := rp3.cell 5
          have zp3 := rp3.lt
          have ch3_0 : v3.cell? ⟨v1.heap.size, 0, none⟩ = some (.int .i64 (sh).tm) := rh3.cell 0
          have ch3_1 : v3.cell? ⟨v1.heap.size, 1, none⟩ = some (.int .i64 (sh).level) := rh3.cell 1
          have ch3_2 : v3.cell? ⟨v1.heap.size, 2, none⟩ = some (.int .i64 (sh).held) := rh3.cell 2
          have ch3_3 : v3.cell? ⟨v1.heap.size, 3, none⟩ = some (.slice A1 (sh).log.length cap1) := rh3.cell 3
          have zh3 := rh3.lt
          have Rp3 := Lib.hid rp3
          have Rs3 := Lib.hid rs3
          have Ls3 := Lib.hid ls3
          have Rh3 := Lib.hid rh3
          have Lh3 := Lib.hid lh3
          have Rk3 := Lib.hid rk3
          have Lk3 := Lib.hid lk3
          have HB3 := Lib.hid hB3
          clear rp3 rs3 ls3 rh3 lh3 rk3 lk3 hB3 hb3
          clear cp2_0 cp2_1 cp2_2 cp2_3 cp2_4 cp2_5 cs2_0 cs2_1 cs2_2 cs2_3
          go_wp2_with fail
          refine (do_is E4.out 0 A1 cap1 _ Lh3.out).mono ?_
          rintro e v4 ⟨A4, cap4, rfl, hs4, hb4⟩
          have rp4 := Box.keep Rp3.out hb4
          have rs4 := Box.keep Rs3.out hb4
          have ls4 := Sl.keep Ls3.out hb4
          have rh4 := Box.keep Rh3.out hb4
          have lh4 := Sl.keep Lh3.out hb4
          have rk4 := Box.keep Rk3.out hb4
          have lk4 := Sl.keep Lk3.out hb4
          have hB4 := HB3.out.trans (hb4.mono HB3.out.size)
          have cp4_0 : v4.cell? ⟨bp, 0, none⟩ = some (.int .i64 p.kind) := rp4.cell 0
          have cp4_1 : v4.cell? ⟨bp, 1, none⟩ = some (.int .i64 p.limit) := rp4.cell 1
          have cp4_2 : v4.cell? ⟨bp, 2, none⟩ = some (.int .i64 p.period) := rp4.cell 2
          have cp4_3 : v4.cell? ⟨bp, 3, none⟩ = some (.int .i64 p.burst) := rp4.cell 3
          have cp4_4 : v4.cell? ⟨bp, 4, none⟩ = some (.int .i64 p.cap) := rp4.cell 4
          have cp4_5 : v4.cell? ⟨bp, 5, none⟩ = some (.bool p.opn) := rp4.cell 5
          have zp4 := rp4.lt
          have ch4_0 : v4.cell? ⟨v1.heap.size, 0, none⟩ = some (.int .i64 (sh).tm) := rh4.cell 0
          have ch4_1 : v4.cell? ⟨v1.heap.size, 1, none⟩ = some (.int .i64 (sh).level) := rh4.cell 1
          have ch4_2 : v4.cell? ⟨v1.heap.size, 2, none⟩ = some (.int .i64 (sh).held) := rh4.cell 2
          have ch4_3 : v4.cell? ⟨v1.heap.size, 3, none⟩ = some (.slice A1 (sh).log.length cap1) := rh4.cell 3
          have zh4 := rh4.lt
          have Rp4 := Lib.hid rp4
          have Rs4 := Lib.hid rs4
          have Ls4 := Lib.hid ls4
          have Rh4 := Lib.hid rh4
          have Lh4 := Lib.hid lh4
          have Rk4 := Lib.hid rk4
          have Lk4 := Lib.hid lk4
          have HB4 := Lib.hid hB4
          clear rp4 rs4 ls4 rh4 lh4 rk4 lk4 hB4 hb4
          clear cp3_0 cp3_1 cp3_2 cp3_3 cp3_4 cp3_5 ch3_0 ch3_1 ch3_2 ch3_3
          have HS4 := Lib.hid (hs4.mono (Nat.zero_le _))
          clear hs4
          go_wp2_with fail
          refine (do_is E5.out 0 A1 cap1 _ (Lh4.out.alloc _)).mono ?_
          rintro e v5 ⟨A5, cap5, rfl, hs5, hb5⟩
          have rp5 := Box.keep (Rp4.out.alloc _) hb5
          have rs5 := Box.keep (Rs4.out.alloc _) hb5
          have ls5 := Sl.keep (Ls4.out.alloc _) hb5
          have rh5 := Box.keep (Rh4.out.alloc _) hb5
          have lh5 := Sl.keep (Lh4.out.alloc _) hb5
          have rk5 := Box.keep (Rk4.out.alloc _) hb5
          have lk5 := Sl.keep (Lk4.out.alloc _) hb5
          have rr5 := Box.keep (Box.new v4 _ _) hb5
          have lr5 := Sl.keep (HS4.out.alloc _) hb5
          have hB5 := (HB4.out.alloc HB4.out.size _).trans (hb5.mono (Nat.le_trans HB4.out.size (below_lt1 v4 _)))
          have cp5_0 : v5.cell? ⟨bp, 0, none⟩ = some (.int .i64 p.kind) := rp5.cell 0
          have cp5_1 : v5.cell? ⟨bp, 1, none⟩ = some (.int .i64 p.limit) := rp5.cell 1
          have cp5_2 : v5.cell? ⟨bp, 2, none⟩ = some (.int .i64 p.period) := rp5.cell 2
          have cp5_3 : v5.cell? ⟨bp, 3, none⟩ = some (.int .i64 p.burst) := rp5.cell 3
          have cp5_4 : v5.cell? ⟨bp, 4, none⟩ = some (.int .i64 p.cap) := rp5.cell 4
          have cp5_5 : v5.cell? ⟨bp, 5, none⟩ = some (.bool p.opn) := rp5.cell 5
          have zp5 := rp5.lt
          have cs5_0 : v5.cell? ⟨bs, 0, none⟩ = some (.int .i64 (s).tm) := rs5.cell 0
          have cs5_1 : v5.cell? ⟨bs, 1, none⟩ = some (.int .i64 (s).level) := rs5.cell 1
          have cs5_2 : v5.cell? ⟨bs, 2, none⟩ = some (.int .i64 (s).held) := rs5.cell 2
          have cs5_3 : v5.cell? ⟨bs, 3, none⟩ = some (.slice A' (s).log.length cap') := rs5.cell 3
          have zs5 := rs5.lt
          have ck5_0 : v5.cell? ⟨v2.heap.size, 0, none⟩ = some (.int .i64 (sk).tm) := rk5.cell 0
          have ck5_1 : v5.cell? ⟨v2.heap.size, 1, none⟩ = some (.int .i64 (sk).level) := rk5.cell 1
          have ck5_2 : v5.cell? ⟨v2.heap.size, 2, none⟩ = some (.int .i64 (sk).held) := rk5.cell 2
          have ck5_3 : v5.cell? ⟨v2.heap.size, 3, none⟩ = some (.slice A2 (sk).log.length cap2) := rk5.cell 3
          have zk5 := rk5.lt
          have cr5_0 : v5.cell? ⟨v4.heap.size, 0, none⟩ = some (.int .i64 (sr).tm) := rr5.cell 0
          have cr5_1 : v5.cell? ⟨v4.heap.size, 1, none⟩ = some (.int .i64 (sr).level) := rr5.cell 1
          have cr5_2 : v5.cell? ⟨v4.heap.size, 2, none⟩ = some (.int .i64 (sr).held) := rr5.cell 2
          have cr5_3 : v5.cell? ⟨v4.heap.size, 3, none⟩ = some (.slice A4 (sr).log.length cap4) := rr5.cell 3
          have zr5 := rr5.lt
          have Rp5 := Lib.hid rp5
          have Rs5 := Lib.hid rs5
          have Ls5 := Lib.hid ls5
          have Rh5 := Lib.hid rh5
          have Lh5 := Lib.hid lh5
          have Rk5 := Lib.hid rk5
          have Lk5 := Lib.hid lk5
          have Rr5 := Lib.hid rr5
          have Lr5 := Lib.hid lr5
          have HB5 := Lib.hid hB5
          clear rp5 rs5 ls5 rh5 lh5 rk5 lk5 rr5 lr5 hB5 hb5
          clear cp4_0 cp4_1 cp4_2 cp4_3 cp4_4 cp4_5 ch4_0 ch4_1 ch4_2 ch4_3
          have HS5 := Lib.hid (hs5.mono (Nat.zero_le _))
          clear hs5
          go_wp2_with fail
          have rp := Box.alloc Rp5.out (.cells (scells (sk).tm (sk).level (sk).held (.slice A5 (sk).log.length cap5)) 32)
          have rs := Box.alloc Rs5.out (.cells (scells (sk).tm (sk).level (sk).held (.slice A5 (sk).log.length cap5)) 32)
          have rr := Box.alloc Rr5.out (.cells (scells (sk).tm (sk).level (sk).held (.slice A5 (sk).log.length cap5)) 32)
          have rk := Box.alloc Rk5.out (.cells (scells (sk).tm (sk).level (sk).held (.slice A5 (sk).log.length cap5)) 32)
          have rm : Box (v5.alloc (.cells (scells (sk).tm (sk).level (sk).held (.slice A5 (sk).log.length cap5)) 32)) v5.heap.size _ _ := Box.new v5 _ _
          have ls := Sl.alloc Ls5.out (.cells (scells (sk).tm (sk).level (sk).held (.slice A5 (sk).log.length cap5)) 32)
          have lr := Sl.alloc Lr5.out (.cells (scells (sk).tm (sk).level (sk).held (.slice A5 (sk).log.length cap5)) 32)
          have lk := Sl.alloc Lk5.out (.cells (scells (sk).tm (sk).level (sk).held (.slice A5 (sk).log.length cap5)) 32)
          have lm := Sl.alloc HS5.out (.cells (scells (sk).tm (sk).level (sk).held (.slice A5 (sk).log.length cap5)) 32)
          have hBc := (HB5.out).alloc HB5.out.size (.cells (scells (sk).tm (sk).level (sk).held (.slice A5 (sk).log.length cap5)) 32)
          go_region_held3 (fun w' => w'.cell? ⟨bp, 0, none⟩ = some (.int .i64 p.kind) ∧ w'.cell? ⟨bp, 1, none⟩ = some (.int .i64 p.limit) ∧ w'.cell? ⟨bp, 2, none⟩ = some (.int .i64 p.period) ∧ w'.cell? ⟨bp, 3, none⟩ = some (.int .i64 p.burst) ∧ w'.cell? ⟨bp, 4, none⟩ = some (.int .i64 p.cap) ∧ w'.cell? ⟨bp, 5, none⟩ = some (.bool p.opn) ∧ w'.cell? ⟨bs, 0, none⟩ = some (.int .i64 (s).tm) ∧ w'.cell? ⟨bs, 1, none⟩ = some (.int .i64 (s).level) ∧ w'.cell? ⟨bs, 2, none⟩ = some (.int .i64 (s).held) ∧ w'.cell? ⟨bs, 3, none⟩ = some (.slice A' (s).log.length cap') ∧ w'.cell? ⟨v4.heap.size, 0, none⟩ = some (.int .i64 (sr).tm) ∧ w'.cell? ⟨v4.heap.size, 1, none⟩ = some (.int .i64 (sr).level) ∧ w'.cell? ⟨v4.heap.size, 2, none⟩ = some (.int .i64 (sr).held) ∧ w'.cell? ⟨v4.heap.size, 3, none⟩ = some (.slice A4 (sr).log.length cap4) ∧ w'.cell? ⟨v5.heap.size, 0, none⟩ = some (.int .i64 (sk).tm) ∧ w'.cell? ⟨v5.heap.size, 1, none⟩ = some (.int .i64 (sk).level) ∧ w'.cell? ⟨v5.heap.size, 2, none⟩ = some (.int .i64 (sk).held) ∧ w'.cell? ⟨v5.heap.size, 3, none⟩ = some (.slice A5 (sk).log.length cap5) ∧ w'.cell? ⟨v2.heap.size, 0, none⟩ = some (.int .i64 (sk).tm) ∧ w'.cell? ⟨v2.heap.size, 1, none⟩ = some (.int .i64 (sk).level) ∧ w'.cell? ⟨v2.heap.size, 2, none⟩ = some (.int .i64 (sk).held) ∧ w'.cell? ⟨v2.heap.size, 3, none⟩ = some (.slice A2 (sk).log.length cap2)) (go_keep) (first | (go_at_call 25; refine (adv_is E6.out 0 A' cap' _ ?_).mono ?_; (first | exact ls | exact Sl.drew ls); rintro e w7 ⟨A7, cap7, rfl, l7, hb7⟩; (first | (have rp := Box.keep (Box.drew rp) hb7; have rs := Box.keep (Box.drew rs) hb7; have rr := Box.keep (Box.drew rr) hb7; have rm := Box.keep (Box.drew rm) hb7; have rk := Box.keep (Box.drew rk) hb7; have ls := Sl.keep (Sl.drew ls) hb7; have lr := Sl.keep (Sl.drew lr) hb7; have lm := Sl.keep (Sl.drew lm) hb7; have lk := Sl.keep (Sl.drew lk) hb7; have hBc := (Below.drew hBc).trans (hb7.mono (Below.drew hBc).size)) | (have rp := Box.keep rp hb7; have rs := Box.keep rs hb7; have rr := Box.keep rr hb7; have rm := Box.keep rm hb7; have rk := Box.keep rk hb7; have ls := Sl.keep ls hb7; have lr := Sl.keep lr hb7; have lm := Sl.keep lm hb7; have lk := Sl.keep lk hb7; have hBc := hBc.trans (hb7.mono hBc.size))); have qp0 : w7.cell? ⟨bp, 0, none⟩ = some (.int .i64 p.kind) := rp.cell 0; have qp1 : w7.cell? ⟨bp, 1, none⟩ = some (.int .i64 p.limit) := rp.cell 1; have qp2 : w7.cell? ⟨bp, 2, none⟩ = some (.int .i64 p.period) := rp.cell 2; have qp3 : w7.cell? ⟨bp, 3, none⟩ = some (.int .i64 p.burst) := rp.cell 3; have qp4 : w7.cell? ⟨bp, 4, none⟩ = some (.int .i64 p.cap) := rp.cell 4; have qp5 : w7.cell? ⟨bp, 5, none⟩ = some (.bool p.opn) := rp.cell 5; have qs0 : w7.cell? ⟨bs, 0, none⟩ = some (.int .i64 (s).tm) := rs.cell 0; have qs1 : w7.cell? ⟨bs, 1, none⟩ = some (.int .i64 (s).level) := rs.cell 1; have qs2 : w7.cell? ⟨bs, 2, none⟩ = some (.int .i64 (s).held) := rs.cell 2; have qs3 : w7.cell? ⟨bs, 3, none⟩ = some (.slice A' (s).log.length cap') := rs.cell 3; have qr0 : w7.cell? ⟨v4.heap.size, 0, none⟩ = some (.int .i64 (sr).tm) := rr.cell 0; have qr1 : w7.cell? ⟨v4.heap.size, 1, none⟩ = some (.int .i64 (sr).level) := rr.cell 1; have qr2 : w7.cell? ⟨v4.heap.size, 2, none⟩ = some (.int .i64 (sr).held) := rr.cell 2; have qr3 : w7.cell? ⟨v4.heap.size, 3, none⟩ = some (.slice A4 (sr).log.length cap4) := rr.cell 3; have qm0 : w7.cell? ⟨v5.heap.size, 0, none⟩ = some (.int .i64 (sk).tm) := rm.cell 0; have qm1 : w7.cell? ⟨v5.heap.size, 1, none⟩ = some (.int .i64 (sk).level) := rm.cell 1; have qm2 : w7.cell? ⟨v5.heap.size, 2, none⟩ = some (.int .i64 (sk).held) := rm.cell 2; have qm3 : w7.cell? ⟨v5.heap.size, 3, none⟩ = some (.slice A5 (sk).log.length cap5) := rm.cell 3; have qk0 : w7.cell? ⟨v2.heap.size, 0, none⟩ = some (.int .i64 (sk).tm) := rk.cell 0; have qk1 : w7.cell? ⟨v2.heap.size, 1, none⟩ = some (.int .i64 (sk).level) := rk.cell 1; have qk2 : w7.cell? ⟨v2.heap.size, 2, none⟩ = some (.int .i64 (sk).held) := rk.cell 2; have qk3 : w7.cell? ⟨v2.heap.size, 3, none⟩ = some (.slice A2 (sk).log.length cap2) := rk.cell 3) | (go_at_call_of 19 (Value.agg #[Value.int .i64 sr.tm, Value.int .i64 sr.level, Value.int .i64 sr.held, Value.slice A4 sr.log.length cap4]); refine (same_of (sameS_self sr) lr.ents l7.ents (by omega)).mono ?_; rintro e w7 ⟨rfl, hb7⟩; (first | (have rp := Box.keep (Box.drew rp) hb7; have rs := Box.keep (Box.drew rs) hb7; have rr := Box.keep (Box.drew rr) hb7; have rm := Box.keep (Box.drew rm) hb7; have rk := Box.keep (Box.drew rk) hb7; have ls := Sl.keep (Sl.drew ls) hb7; have lr := Sl.keep (Sl.drew lr) hb7; have lm := Sl.keep (Sl.drew lm) hb7; have lk := Sl.keep (Sl.drew lk) hb7; have hBc := (Below.drew hBc).trans (hb7.mono (Below.drew hBc).size)) | (have rp := Box.keep rp hb7; have rs := Box.keep rs hb7; have rr := Box.keep rr hb7; have rm := Box.keep rm hb7; have rk := Box.keep rk hb7; have ls := Sl.keep ls hb7; have lr := Sl.keep lr hb7; have lm := Sl.keep lm hb7; have lk := Sl.keep lk hb7; have hBc := hBc.trans (hb7.mono hBc.size))); have qp0 : w7.cell? ⟨bp, 0, none⟩ = some (.int .i64 p.kind) := rp.cell 0; have qp1 : w7.cell? ⟨bp, 1, none⟩ = some (.int .i64 p.limit) := rp.cell 1; have qp2 : w7.cell? ⟨bp, 2, none⟩ = some (.int .i64 p.period) := rp.cell 2; have qp3 : w7.cell? ⟨bp, 3, none⟩ = some (.int .i64 p.burst) := rp.cell 3; have qp4 : w7.cell? ⟨bp, 4, none⟩ = some (.int .i64 p.cap) := rp.cell 4; have qp5 : w7.cell? ⟨bp, 5, none⟩ = some (.bool p.opn) := rp.cell 5; have qs0 : w7.cell? ⟨bs, 0, none⟩ = some (.int .i64 (s).tm) := rs.cell 0; have qs1 : w7.cell? ⟨bs, 1, none⟩ = some (.int .i64 (s).level) := rs.cell 1; have qs2 : w7.cell? ⟨bs, 2, none⟩ = some (.int .i64 (s).held) := rs.cell 2; have qs3 : w7.cell? ⟨bs, 3, none⟩ = some (.slice A' (s).log.length cap') := rs.cell 3; have qr0 : w7.cell? ⟨v4.heap.size, 0, none⟩ = some (.int .i64 (sr).tm) := rr.cell 0; have qr1 : w7.cell? ⟨v4.heap.size, 1, none⟩ = some (.int .i64 (sr).level) := rr.cell 1; have qr2 : w7.cell? ⟨v4.heap.size, 2, none⟩ = some (.int .i64 (sr).held) := rr.cell 2; have qr3 : w7.cell? ⟨v4.heap.size, 3, none⟩ = some (.slice A4 (sr).log.length cap4) := rr.cell 3; have qm0 : w7.cell? ⟨v5.heap.size, 0, none⟩ = some (.int .i64 (sk).tm) := rm.cell 0; have qm1 : w7.cell? ⟨v5.heap.size, 1, none⟩ = some (.int .i64 (sk).level) := rm.cell 1; have qm2 : w7.cell? ⟨v5.heap.size, 2, none⟩ = some (.int .i64 (sk).held) := rm.cell 2; have qm3 : w7.cell? ⟨v5.heap.size, 3, none⟩ = some (.slice A5 (sk).log.length cap5) := rm.cell 3; have qk0 : w7.cell? ⟨v2.heap.size, 0, none⟩ = some (.int .i64 (sk).tm) := rk.cell 0; have qk1 : w7.cell? ⟨v2.heap.size, 1, none⟩ = some (.int .i64 (sk).level) := rk.cell 1; have qk2 : w7.cell? ⟨v2.heap.size, 2, none⟩ = some (.int .i64 (sk).held) := rk.cell 2; have qk3 : w7.cell? ⟨v2.heap.size, 3, none⟩ = some (.slice A2 (sk).log.length cap2) := rk.cell 3) | (go_at_call_of 19 (Value.agg #[Value.int .i64 sk.tm, Value.int .i64 sk.level, Value.int .i64 sk.held, Value.slice A5 sk.log.length cap5]); refine (same_of (sameS_self sk) lm.ents lk.ents (by omega)).mono ?_; rintro e w7 ⟨rfl, hb7⟩; (first | (have rp := Box.keep (Box.drew rp) hb7; have rs := Box.keep (Box.drew rs) hb7; have rr := Box.keep (Box.drew rr) hb7; have rm := Box.keep (Box.drew rm) hb7; have rk := Box.keep (Box.drew rk) hb7; have ls := Sl.keep (Sl.drew ls) hb7; have lr := Sl.keep (Sl.drew lr) hb7; have lm := Sl.keep (Sl.drew lm) hb7; have lk := Sl.keep (Sl.drew lk) hb7; have hBc := (Below.drew hBc).trans (hb7.mono (Below.drew hBc).size)) | (have rp := Box.keep rp hb7; have rs := Box.keep rs hb7; have rr := Box.keep rr hb7; have rm := Box.keep rm hb7; have rk := Box.keep rk hb7; have ls := Sl.keep ls hb7; have lr := Sl.keep lr hb7; have lm := Sl.keep lm hb7; have lk := Sl.keep lk hb7; have hBc := hBc.trans (hb7.mono hBc.size))); have qp0 : w7.cell? ⟨bp, 0, none⟩ = some (.int .i64 p.kind) := rp.cell 0; have qp1 : w7.cell? ⟨bp, 1, none⟩ = some (.int .i64 p.limit) := rp.cell 1; have qp2 : w7.cell? ⟨bp, 2, none⟩ = some (.int .i64 p.period) := rp.cell 2; have qp3 : w7.cell? ⟨bp, 3, none⟩ = some (.int .i64 p.burst) := rp.cell 3; have qp4 : w7.cell? ⟨bp, 4, none⟩ = some (.int .i64 p.cap) := rp.cell 4; have qp5 : w7.cell? ⟨bp, 5, none⟩ = some (.bool p.opn) := rp.cell 5; have qs0 : w7.cell? ⟨bs, 0, none⟩ = some (.int .i64 (s).tm) := rs.cell 0; have qs1 : w7.cell? ⟨bs, 1, none⟩ = some (.int .i64 (s).level) := rs.cell 1; have qs2 : w7.cell? ⟨bs, 2, none⟩ = some (.int .i64 (s).held) := rs.cell 2; have qs3 : w7.cell? ⟨bs, 3, none⟩ = some (.slice A' (s).log.length cap') := rs.cell 3; have qr0 : w7.cell? ⟨v4.heap.size, 0, none⟩ = some (.int .i64 (sr).tm) := rr.cell 0; have qr1 : w7.cell? ⟨v4.heap.size, 1, none⟩ = some (.int .i64 (sr).level) := rr.cell 1; have qr2 : w7.cell? ⟨v4.heap.size, 2, none⟩ = some (.int .i64 (sr).held) := rr.cell 2; have qr3 : w7.cell? ⟨v4.heap.size, 3, none⟩ = some (.slice A4 (sr).log.length cap4) := rr.cell 3; have qm0 : w7.cell? ⟨v5.heap.size, 0, none⟩ = some (.int .i64 (sk).tm) := rm.cell 0; have qm1 : w7.cell? ⟨v5.heap.size, 1, none⟩ = some (.int .i64 (sk).level) := rm.cell 1; have qm2 : w7.cell? ⟨v5.heap.size, 2, none⟩ = some (.int .i64 (sk).held) := rm.cell 2; have qm3 : w7.cell? ⟨v5.heap.size, 3, none⟩ = some (.slice A5 (sk).log.length cap5) := rm.cell 3; have qk0 : w7.cell? ⟨v2.heap.size, 0, none⟩ = some (.int .i64 (sk).tm) := rk.cell 0; have qk1 : w7.cell? ⟨v2.heap.size, 1, none⟩ = some (.int .i64 (sk).level) := rk.cell 1; have qk2 : w7.cell? ⟨v2.heap.size, 2, none⟩ = some (.int .i64 (sk).held) := rk.cell 2; have qk3 : w7.cell? ⟨v2.heap.size, 3, none⟩ = some (.slice A2 (sk).log.length cap2) := rk.cell 3) | (go_at_call 11; refine (known_calls _).mono ?_; rintro e w7 ⟨rfl, hb7⟩; (first | (have rp := Box.keep (Box.drew rp) hb7; have rs := Box.keep (Box.drew rs) hb7; have rr := Box.keep (Box.drew rr) hb7; have rm := Box.keep (Box.drew rm) hb7; have rk := Box.keep (Box.drew rk) hb7; have ls := Sl.keep (Sl.drew ls) hb7; have lr := Sl.keep (Sl.drew lr) hb7; have lm := Sl.keep (Sl.drew lm) hb7; have lk := Sl.keep (Sl.drew lk) hb7; have hBc := (Below.drew hBc).trans (hb7.mono (Below.drew hBc).size)) | (have rp := Box.keep rp hb7; have rs := Box.keep rs hb7; have rr := Box.keep rr hb7; have rm := Box.keep rm hb7; have rk := Box.keep rk hb7; have ls := Sl.keep ls hb7; have lr := Sl.keep lr hb7; have lm := Sl.keep lm hb7; have lk := Sl.keep lk hb7; have hBc := hBc.trans (hb7.mono hBc.size))); have qp0 : w7.cell? ⟨bp, 0, none⟩ = some (.int .i64 p.kind) := rp.cell 0; have qp1 : w7.cell? ⟨bp, 1, none⟩ = some (.int .i64 p.limit) := rp.cell 1; have qp2 : w7.cell? ⟨bp, 2, none⟩ = some (.int .i64 p.period) := rp.cell 2; have qp3 : w7.cell? ⟨bp, 3, none⟩ = some (.int .i64 p.burst) := rp.cell 3; have qp4 : w7.cell? ⟨bp, 4, none⟩ = some (.int .i64 p.cap) := rp.cell 4; have qp5 : w7.cell? ⟨bp, 5, none⟩ = some (.bool p.opn) := rp.cell 5; have qs0 : w7.cell? ⟨bs, 0, none⟩ = some (.int .i64 (s).tm) := rs.cell 0; have qs1 : w7.cell? ⟨bs, 1, none⟩ = some (.int .i64 (s).level) := rs.cell 1; have qs2 : w7.cell? ⟨bs, 2, none⟩ = some (.int .i64 (s).held) := rs.cell 2; have qs3 : w7.cell? ⟨bs, 3, none⟩ = some (.slice A' (s).log.length cap') := rs.cell 3; have qr0 : w7.cell? ⟨v4.heap.size, 0, none⟩ = some (.int .i64 (sr).tm) := rr.cell 0; have qr1 : w7.cell? ⟨v4.heap.size, 1, none⟩ = some (.int .i64 (sr).level) := rr.cell 1; have qr2 : w7.cell? ⟨v4.heap.size, 2, none⟩ = some (.int .i64 (sr).held) := rr.cell 2; have qr3 : w7.cell? ⟨v4.heap.size, 3, none⟩ = some (.slice A4 (sr).log.length cap4) := rr.cell 3; have qm0 : w7.cell? ⟨v5.heap.size, 0, none⟩ = some (.int .i64 (sk).tm) := rm.cell 0; have qm1 : w7.cell? ⟨v5.heap.size, 1, none⟩ = some (.int .i64 (sk).level) := rm.cell 1; have qm2 : w7.cell? ⟨v5.heap.size, 2, none⟩ = some (.int .i64 (sk).held) := rm.cell 2; have qm3 : w7.cell? ⟨v5.heap.size, 3, none⟩ = some (.slice A5 (sk).log.length cap5) := rm.cell 3; have qk0 : w7.cell? ⟨v2.heap.size, 0, none⟩ = some (.int .i64 (sk).tm) := rk.cell 0; have qk1 : w7.cell? ⟨v2.heap.size, 1, none⟩ = some (.int .i64 (sk).level) := rk.cell 1; have qk2 : w7.cell? ⟨v2.heap.size, 2, none⟩ = some (.int .i64 (sk).held) := rk.cell 2; have qk3 : w7.cell? ⟨v2.heap.size, 3, none⟩ = some (.slice A2 (sk).log.length cap2) := rk.cell 3))
          all_goals (go_wp2_with fail; go_ret; exact ⟨rfl, hBc⟩)
        · have E1 := Lib.hid e1
          have E2 := Lib.hid e2
          have E3 := Lib.hid e3
          clear e1 e2 e3
          go_wp2_with fail
          refine (do_is E1.out 0 A' cap' _ HSl.out).mono ?_
          rintro e v1 ⟨A1, cap1, rfl, hs1, hb1⟩
          have rp1 := Box.keep RP.out hb1
          have rs1 := Box.keep RS.out hb1
          have ls1 := Sl.keep HSl.out hb1
          have hB1 := HBr.out.trans (hb1.mono HBr.out.size)
          have cp1_0 : v1.cell? ⟨bp, 0, none⟩ = some (.int .i64 p.kind) := rp1.cell 0
          have cp1_1 : v1.cell? ⟨bp, 1, none⟩ = some (.int .i64 p.limit) := rp1.cell 1
          have cp1_2 : v1.cell? ⟨bp, 2, none⟩ = some (.int .i64 p.period) := rp1.cell 2
          have cp1_3 : v1.cell? ⟨bp, 3, none⟩ = some (.int .i64 p.burst) := rp1.cell 3
          have cp1_4 : v1.cell? ⟨bp, 4, none⟩ = some (.int .i64 p.cap) := rp1.cell 4
          have cp1_5 : v1.cell? ⟨bp, 5, none⟩ = some (.bool p.opn) := rp1.cell 5
          have zp1 := rp1.lt
          have cs1_0 : v1.cell? ⟨bs, 0, none⟩ = some (.int .i64 (s).tm) := rs1.cell 0
          have cs1_1 : v1.cell? ⟨bs, 1, none⟩ = some (.int .i64 (s).level) := rs1.cell 1
          have cs1_2 : v1.cell? ⟨bs, 2, none⟩ = some (.int .i64 (s).held) := rs1.cell 2
          have cs1_3 : v1.cell? ⟨bs, 3, none⟩ = some (.slice A' (s).log.length cap') := rs1.cell 3
          have zs1 := rs1.lt
          have Rp1 := Lib.hid rp1
          have Rs1 := Lib.hid rs1
          have Ls1 := Lib.hid ls1
          have HB1 := Lib.hid hB1
          clear rp1 rs1 ls1 hB1 hb1
          clear p0 p1 p2 p3 p4 p5 ts0 ts1 ts2 ts3 zp zs
          have HS1 := Lib.hid (hs1.mono (Nat.zero_le _))
          clear hs1
          go_wp2_with fail
          refine (do_is E2.out 0 A' cap' _ (Ls1.out.alloc _)).mono ?_
          rintro e v2 ⟨A2, cap2, rfl, hs2, hb2⟩
          have rp2 := Box.keep (Rp1.out.alloc _) hb2
          have rs2 := Box.keep (Rs1.out.alloc _) hb2
          have ls2 := Sl.keep (Ls1.out.alloc _) hb2
          have rh2 := Box.keep (Box.new v1 _ _) hb2
          have lh2 := Sl.keep (HS1.out.alloc _) hb2
          have hB2 := (HB1.out.alloc HB1.out.size _).trans (hb2.mono (Nat.le_trans HB1.out.size (below_lt1 v1 _)))
          have cp2_0 : v2.cell? ⟨bp, 0, none⟩ = some (.int .i64 p.kind) := rp2.cell 0
          have cp2_1 : v2.cell? ⟨bp, 1, none⟩ = some (.int .i64 p.limit) := rp2.cell 1
          have cp2_2 : v2.cell? ⟨bp, 2, none⟩ = some (.int .i64 p.period) := rp2.cell 2
          have cp2_3 : v2.cell? ⟨bp, 3, none⟩ = some (.int .i64 p.burst) := rp2.cell 3
          have cp2_4 : v2.cell? ⟨bp, 4, none⟩ = some (.int .i64 p.cap) := rp2.cell 4
          have cp2_5 : v2.cell? ⟨bp, 5, none⟩ = some (.bool p.opn) := rp2.cell 5
          have zp2 := rp2.lt
          have cs2_0 : v2.cell? ⟨bs, 0, none⟩ = some (.int .i64 (s).tm) := rs2.cell 0
          have cs2_1 : v2.cell? ⟨bs, 1, none⟩ = some (.int .i64 (s).level) := rs2.cell 1
          have cs2_2 : v2.cell? ⟨bs, 2, none⟩ = some (.int .i64 (s).held) := rs2.cell 2
          have cs2_3 : v2.cell? ⟨bs, 3, none⟩ = some (.slice A' (s).log.length cap') := rs2.cell 3
          have zs2 := rs2.lt
          have Rp2 := Lib.hid rp2
          have Rs2 := Lib.hid rs2
          have Ls2 := Lib.hid ls2
          have Rh2 := Lib.hid rh2
          have Lh2 := Lib.hid lh2
          have HB2 := Lib.hid hB2
          clear rp2 rs2 ls2 rh2 lh2 hB2 hb2
          clear cp1_0 cp1_1 cp1_2 cp1_3 cp1_4 cp1_5 cs1_0 cs1_1 cs1_2 cs1_3
          have HS2 := Lib.hid (hs2.mono (Nat.zero_le _))
          clear hs2
          go_wp2_with fail
          refine (room_is E3.out 0 A' cap' _ (Ls2.out.alloc _)).mono ?_
          rintro e v3 ⟨rfl, hb3⟩
          have rp3 := Box.keep (Rp2.out.alloc _) hb3
          have rs3 := Box.keep (Rs2.out.alloc _) hb3
          have ls3 := Sl.keep (Ls2.out.alloc _) hb3
          have hB3 := (HB2.out.alloc HB2.out.size _).trans (hb3.mono (Nat.le_trans HB2.out.size (below_lt1 v2 _)))
          have Rp3 := Lib.hid rp3
          have Rs3 := Lib.hid rs3
          have Ls3 := Lib.hid ls3
          have HB3 := Lib.hid hB3
          clear rp3 rs3 ls3 hB3 hb3
          clear cp2_0 cp2_1 cp2_2 cp2_3 cp2_4 cp2_5 cs2_0 cs2_1 cs2_2 cs2_3
          go_wp2_with fail
          refine (known_calls _).mono ?_
          rintro e v4 ⟨rfl, hb4⟩
          have hB4 := HB3.out.trans (hb4.mono HB3.out.size)
          have HB4 := Lib.hid hB4
          clear hB4 hb4
          go_wp2_with fail
          go_ret
          exact ⟨rfl, HB4.out⟩
  · go_enter Try.func6, Try.ntmps6
    go_wp2_with fail
    refine (small_no hs A cap _).mono ?_
    rintro e w1 ⟨rfl, rfl⟩
    go_wp2_with fail
    refine (known_calls _).mono ?_
    rintro e w1 ⟨rfl, hb1⟩
    have HB1 := Lib.hid hb1
    clear hb1
    go_wp2_with fail
    go_ret
    exact ⟨rfl, HB1.out⟩

end Wn
end Go.Proofs.Ytikfjdpkjifcdaa
