/-
  reply.Encode and reply.Right of whatever answers.
-/
import Derived.Test.YtflmolhkbpicbaaDoorKRpyLyo
import Derived.Test.YtflmolhkbpicbaaDoorKRpyPlo
import Derived.Test.YtflmolhkbpicbaaDoorKGFor
namespace Go.Proofs.YtflmolhkbpicbaaDoor.Ry
open Go.RowKit

set_option maxRecDepth 100000 in
set_option maxHeartbeats 8000000 in
theorem encode_own (A : Option Addr) (cap : Nat) (L : List Qe) (w : World) (hA : RdQ w A cap L) (hl : longs (rs L) ≤ 3000) (hn : ∀ x ∈ rs L, N64 x) :
    Calls Tryd.prog 16 #[.slice A L.length cap] w fun e w' => (∃ v, e = .returned v ∧ BRow w' w.heap.size v (encs (rs L))) ∧ Below w.heap.size w w' := by
  have HA := Lib.hid hA
  have HN := Lib.hid hn
  have hll : L.length ≤ 3000 := by have := longs_len (rs L); rw [List.length_map] at this; omega
  clear hA hn
  go_enter Tryd.func16, Tryd.ntmps16
  go_wp2_with fail
  go_loopw [3, 8] (fun v i wr => ∃ j : Nat, j ≤ L.length ∧ i = .int .i64 j ∧ Hid (BRow wr w.heap.size v (encs (rs (L.take j)))) ∧ Hid (Below w.heap.size w wr)) (fun _ i _ => L.length - (intOf i).toNat)
  case atStart => exact ⟨0, Nat.zero_le _, rfl, BRow.nil _ _, Below.refl _ _⟩
  case round =>
    obtain ⟨j, hj, rfl, HR, H⟩ := hrel
    obtain ⟨V, n0, vc, rfl, hn0⟩ := HR.out.form
    clear hn0
    by_cases hlt : j < L.length
    · have hm : L[j] ∈ L := List.getElem_mem hlt
      have HRD := Lib.hid ((HA.out.rd hm).keep H.out)
      obtain ⟨a, rfl, c0, c1, c2, c3⟩ := (HA.out.reps.keep H.out).four hlt
      have hmr : L[j].1 ∈ rs L := List.mem_map_of_mem hm
      have hn1 := HN.out _ hmr
      have hl1 := longs_mem hmr
      have HS2 : Hid (encs (rs (L.take (j + 1))) = encs (rs (L.take j)) ++ enc L[j].1) := Lib.hid (by rw [rs_succ hlt, encs_append, encs_one])
      have hSl : (encs (rs (L.take j))).length ≤ 100000 := by
        have h1 := encs_len (l := rs (L.take j)) (by have := longs_take_le (rs L) j; rw [rs_take]; omega) (fun x hx => HN.out x (by rw [rs_take] at hx; exact List.mem_of_mem_take hx))
        have h2 := longs_take_le (rs L) j
        rw [← rs_take] at h2
        omega
      generalize encs (rs (L.take j)) = S at HR HS2 hSl
      have HP := Lib.hid (fun w (h : Rd4 w L[j].1 L[j].2.1 L[j].2.2) => plain_own L[j].1 L[j].2.1 L[j].2.2 w h (by omega))
      have HLY := Lib.hid (fun (B2 : Nat) (v : Value) (A : Option Addr) (cap : Nat) (w1 : World) (hv : BRow w1 w.heap.size v S) (hB : w.heap.size ≤ w1.heap.size) (hx : SRow w1 B2 (.slice A (plain L[j].1).l.length cap) ((plain L[j].1).l.map bat)) => lay_own w.heap.size B2 v S (plain L[j].1) A cap w1 hv hB hx (by have := long_plain L[j].1; omega) (n64_plain hn1) (by omega))
      rw [lay_plain] at HLY
      generalize L[j].1 = x at c0 c1 c2 c3 HS2 HP HLY HRD
      generalize L[j].2.1 = B at c3 HP HRD
      generalize L[j].2.2 = bc at c3 HP HRD
      have i1 : (j : Int) < (L.length : Int) := by omega
      clear hm hmr hn1 hl1
      go_wp2_with (refine wpList_store_only rfl 25 _ _ rfl wr.heap.size _ rfl rfl _ (Box.new wr _ z4) r_size rfl (by simp [Value.oneCell']) ?_)
      intro w3 p3 k3
      have P3 := Lib.hid p3
      have hb3 := k3.below ((Below.refl wr.heap.size wr).alloc (Nat.le_refl _) (.cells z4 25)) (fun x hx => by simp at hx; omega) (by simp)
      have HB3 := Lib.hid (H.out.trans (hb3.mono H.out.size))
      have HR3 := Lib.hid (HR.out.below hb3)
      have HD3 := Lib.hid (HRD.out.keep hb3)
      clear p3 k3 hb3
      have cc0 := P3.out.cell 0
      have cc1 := P3.out.cell 1
      have cc2 := P3.out.cell 2
      have cc3 := P3.out.cell 3
      simp only [List.getElem?_toArray, List.getElem?_cons_zero, List.getElem?_cons_succ] at cc0 cc1 cc2 cc3
      go_wp2_with fail
      refine (HP.out _ HD3.out).mono ?_
      rintro e w4 ⟨⟨A', c', rfl, hs4⟩, hb4⟩
      have HB4 := Lib.hid (HB3.out.trans (hb4.mono HB3.out.size))
      have HR4 := Lib.hid (HR3.out.below hb4)
      have HS4 := Lib.hid hs4
      clear hs4 hb4
      go_wp2_with fail
      refine (HLY.out _ _ _ _ _ HR4.out HB4.out.size HS4.out).mono ?_
      rintro e w5 ⟨v5, rfl, h5, g5⟩
      have HB5 := Lib.hid (HB4.out.trans g5.bel)
      have HR5 := Lib.hid h5
      clear h5 g5
      obtain ⟨A5, n5, c5, rfl, hn5⟩ := HR5.out.form
      clear hn5
      go_wp2_with fail
      go_roundw
      case rel => exact ⟨j + 1, by omega, by go_num, Lib.hid (by rw [HS2.out]; exact HR5.out), HB5.out⟩
      case measure => simp [intOf]; omega
    · have HE : Hid (BRow wr w.heap.size (.slice V n0 vc) (encs (rs L))) := Lib.hid (by have := HR.out; rwa [List.take_of_length_le (by omega)] at this)
      go_wp2_with fail
      go_ret
      exact ⟨⟨_, rfl, HE.out⟩, H.out⟩

set_option maxRecDepth 100000 in
set_option maxHeartbeats 8000000 in
theorem right_own (x : Rep) (A : Option Addr) (cap : Nat) (w : World) (hA : Rd4 w x A cap) (hl : longR x ≤ 3000) :
    Calls Tryd.prog 14 #[rv x A cap] w fun e w' => e = .returned (.bool (decide (plain x = x))) ∧ Below w.heap.size w w' := by
  have hlx : x.l.length ≤ 65000 := by unfold longR at hl; have := txL_len x.l; omega
  have hlp : (plain x).l.length ≤ 65000 := by have h := long_plain x; unfold longR at h; have := txL_len (plain x).l; unfold longR at hl; omega
  have HP := Lib.hid (fun w (h : Rd4 w x A cap) => plain_own x A cap w h hl)
  have HS := Lib.hid (fun (A' : Option Addr) (c' : Nat) (w : World) (h1 : Texts w A' ((plain x).l.map bat)) (h2 : Texts w A (x.l.map bat)) => same_own (plain x) x A' A c' cap w h1 h2 hlp hlx)
  generalize decide (plain x = x) = R at HS ⊢
  have HA := Lib.hid hA
  clear hA hl hlx hlp
  unfold rv
  have X1 : Hid (Box (w.alloc (.cells #[.int .i64 x.k, .string (bat x.t), .int .i64 x.n, .slice A x.l.length cap] 25)) w.heap.size 25 #[.int .i64 x.k, .string (bat x.t), .int .i64 x.n, .slice A x.l.length cap]) := Lib.hid (Box.new w _ _)
  have HB : Hid (Below w.heap.size w (w.alloc (.cells #[.int .i64 x.k, .string (bat x.t), .int .i64 x.n, .slice A x.l.length cap] 25))) := Lib.hid ((Below.refl _ w).alloc (Nat.le_refl _) _)
  go_enter Tryd.func14, Tryd.ntmps14
  go_wp2_with fail
  generalize (w.alloc (.cells #[.int .i64 x.k, .string (bat x.t), .int .i64 x.n, .slice A x.l.length cap] 25)) = W at HB X1 ⊢
  have q0 : W.cell? ⟨w.heap.size, 0, none⟩ = some (.int .i64 x.k) := X1.out.cell 0
  have q1 : W.cell? ⟨w.heap.size, 1, none⟩ = some (.string (bat x.t)) := X1.out.cell 1
  have q2 : W.cell? ⟨w.heap.size, 2, none⟩ = some (.int .i64 x.n) := X1.out.cell 2
  have q3 : W.cell? ⟨w.heap.size, 3, none⟩ = some (.slice A x.l.length cap) := X1.out.cell 3
  go_region_with (first | (go_at_call 13; refine (HP.out _ (by first | exact HA.out.keep HB.out | exact HA.out.keep (Below.drew HB.out) | exact HA.out.keep (Below.drew (Below.drew HB.out)))).mono ?_; rintro e w1 ⟨⟨A', c', rfl, hs1⟩, hb1⟩; have K1 : Hid (Box w1 w.heap.size 25 #[.int .i64 x.k, .string (bat x.t), .int .i64 x.n, .slice A x.l.length cap]) := Lib.hid (by first | exact Box.keep X1.out hb1 | exact Box.keep (Box.drew X1.out) hb1); have KB : Hid (Below w.heap.size w w1) := Lib.hid (by first | exact HB.out.trans (hb1.mono HB.out.size) | exact (Below.drew HB.out).trans (hb1.mono HB.out.size)); have KT : Hid (Texts w1 A' ((plain x).l.map bat)) := Lib.hid (SRow.texts hs1).2; clear hs1 hb1; have r0 : w1.cell? ⟨w.heap.size, 0, none⟩ = some (.int .i64 x.k) := K1.out.cell 0; have r1 : w1.cell? ⟨w.heap.size, 1, none⟩ = some (.string (bat x.t)) := K1.out.cell 1; have r2 : w1.cell? ⟨w.heap.size, 2, none⟩ = some (.int .i64 x.n) := K1.out.cell 2; have r3 : w1.cell? ⟨w.heap.size, 3, none⟩ = some (.slice A x.l.length cap) := K1.out.cell 3) | (go_at_call 18; refine (HS.out _ _ _ (by first | exact KT.out | exact KT.out.keep (Below.drew (Below.refl _ _))) (by first | exact HA.out.txs.keep KB.out | exact HA.out.txs.keep (Below.drew KB.out))).mono ?_; rintro e w2 ⟨rfl, hb2⟩; have KB2 : Hid (Below w.heap.size w w2) := Lib.hid (by first | exact KB.out.trans (hb2.mono KB.out.size) | exact (Below.drew KB.out).trans (hb2.mono KB.out.size)); clear hb2))
  all_goals
    go_wp2_with fail
    go_ret
    exact ⟨rfl, KB2.out⟩
end Go.Proofs.YtflmolhkbpicbaaDoor.Ry
