/-
  ReplyBack: what was answered is read as it was, all of it; cut short it is told to be.
-/
import Derived.Test.YtflmolhkbpicbaaDoorKRpyDes
namespace Go.Proofs.YtflmolhkbpicbaaDoor.Ry
open Go.RowKit
open Gw

def pA (x : Rep) (A : Option Addr) : Option Addr := if x.k = 6 then A else none
def pc (x : Rep) (c : Nat) : Nat := if x.k = 6 then c else 0
set_option maxRecDepth 100000 in
/-- Plain of the document, just so -/
theorem plain_exact (x : Rep) (A : Option Addr) (cap : Nat) (w : World) (ht : x.t.length ≤ 65536) :
    Calls Tryd.prog 11 #[rv x A cap] w fun e w' => e = .returned (rv (plain x) (pA x A) (pc x cap)) ∧ Below w.heap.size w w' := by
  refine (plain_calls x A cap w ht).mono ?_
  rintro e w1 ⟨⟨A1, c1, rfl, h⟩, hb⟩
  refine ⟨?_, hb⟩
  rcases h with ⟨h, rfl, rfl⟩ | ⟨h, rfl, rfl⟩
  · simp [pA, pc, h]
  · simp [pA, pc, h]
set_option maxRecDepth 100000 in
theorem plain_k (x : Rep) : (x.k = 6 ∧ (plain x).l = x.l) ∨ (x.k ≠ 6 ∧ (plain x).l = []) := by
  by_cases h : x.k = 6
  · left
    exact ⟨h, by simp [plain, h]⟩
  · right
    refine ⟨h, ?_⟩
    unfold plain
    split
    · rfl
    · split
      · rfl
      · split
        · rfl
        · split
          · rfl
          · rfl
set_option maxRecDepth 100000 in
theorem plain_12 {x : Rep} (h : (plain x).k = 1 ∨ (plain x).k = 2) : x.k = 1 ∨ x.k = 2 := by
  by_cases h1 : x.k = 1
  · exact Or.inl h1
  · by_cases h2 : x.k = 2
    · exact Or.inr h2
    · exfalso
      unfold plain at h
      rw [if_neg h1, if_neg h2] at h
      split at h
      · simp at h
      · split at h
        · simp at h
        · split at h <;> simp at h
set_option maxRecDepth 100000 in
theorem Rd4.plain {w : World} {x : Rep} {A : Option Addr} {cap : Nat} (h : Rd4 w x A cap) : Rd4 w (plain x) (pA x A) (pc x cap) := by
  rcases plain_k x with ⟨h6, hp⟩ | ⟨h6, hp⟩
  · unfold pA pc
    rw [if_pos h6, if_pos h6]
    exact ⟨by rw [hp]; exact h.txs, by rw [hp]; exact h.le, h.nil, fun q => h.tab (plain_12 q)⟩
  · unfold pA pc
    rw [if_neg h6, if_neg h6]
    exact rd_none w _ hp (fun q => h.tab (plain_12 q))

set_option maxHeartbeats 16000000 in
set_option maxRecDepth 100000 in
theorem back_law (C : YC) (A : Option Addr) (cap : Nat) (l : List Qe) (cut : Nat) (w : World) (hA : RdQ w A cap l) (hl : longs (rs l) ≤ 4611686018427387904) (hn : ∀ x ∈ rs l, N64 x) (hcut : cut < 65536) (hTB : Tb w) :
    Calls Tryd.prog 5 #[.slice A l.length cap, .int .u16 (cut : Nat)] w fun e w' => e = .returned (.bool true) ∧ Below w.heap.size w w' := by
  have HA := Lib.hid hA
  have HN := Lib.hid hn
  have HTB := Lib.hid hTB
  clear hA hn hTB
  have KC := known_calls C
  go_enter Tryd.func5, Tryd.ntmps5
  go_wp2_with fail
  refine (long_calls A cap l w HA.out.reps HA.out.txs hl).mono ?_
  rintro e w0 ⟨rfl, hw0⟩
  subst hw0
  by_cases hg : 1500 < longs (rs l)
  · have i1 : (1500 : Int) < (longs (rs l) : Int) := by omega
    go_wp2_with fail
    refine (KC _).mono ?_
    rintro e w1 ⟨rfl, hb1⟩
    go_wp2_with fail
    go_ret
    exact ⟨rfl, hb1⟩
  · have i1 : ¬ (1500 : Int) < (longs (rs l) : Int) := by omega
    have HG : Hid (longs (rs l) ≤ 1500) := Lib.hid (by omega)
    clear hg hl
    go_wp2_with fail
    refine (C.encode_ A cap l _ HA.out (by have := HG.out; omega) HN.out).mono ?_
    rintro e w1 ⟨⟨v, rfl, hv⟩, hb1⟩
    obtain ⟨BA, bc, rfl, hBt, hBl, hBn, -⟩ := hv.view
    have HFit : Hid (∀ x ∈ rs l, Fit x) := Lib.hid fun x hx => long_fit (by have := longs_mem hx; have := HG.out; omega) (HN.out x hx)
    have hbl : (encs (rs l)).length ≤ 65000 := by have := encs_len (l := rs l) (by have := HG.out; omega) HN.out; have := HG.out; omega
    have AC := C.all_ BA bc (encs (rs l)) w1 hBt hBl hBn hbl (HTB.out.keep hb1)
    rw [all_encs HFit.out] at AC
    obtain ⟨bn, hbn⟩ : ∃ bn, bn = (encs (rs l)).length := ⟨_, rfl⟩
    rw [← hbn] at AC hBl hbl ⊢
    have HBT := Lib.hid hBt
    have HBE := Lib.hid hbn
    have HB1 := Lib.hid hb1
    have HBN := Lib.hid hBn
    clear hb1 hBt hBn hbn hv i1
    go_wp2_with fail
    refine AC.mono ?_
    clear AC
    rintro e w2 ⟨⟨A3, c3, L3, rfl, hq3, hl3⟩, hb2⟩
    have hll : L3.length = l.length := by
      have := congrArg List.length hl3
      simpa [rs] using this
    obtain ⟨N, hN⟩ : ∃ N, N = l.length := ⟨_, rfl⟩
    rw [hll, ← hN]
    have HNN : Hid (l.length = N ∧ L3.length = N) := Lib.hid ⟨hN.symm, by omega⟩
    have hN1 : N ≤ 1500 := by have := longs_len (rs l); rw [List.length_map] at this; have := HG.out; omega
    have HQ := Lib.hid hq3
    have HL3 := Lib.hid hl3
    have HB2 := Lib.hid (HB1.out.trans (hb2.mono HB1.out.size))
    have HBT2 := Lib.hid (HBT.out.keep hb2)
    have HTB2 := Lib.hid (HTB.out.keep HB2.out)
    clear hb2 hq3 hl3 hll hN HB1 HBT
    go_wp2_with fail
    go_loopw [8, 9] (fun at0 i wr => ∃ (j m : Nat), j ≤ N ∧ m ≤ bn ∧ i = .int .i64 j ∧ at0 = .int .i64 m ∧ Hid (m = (encs (rs (l.take j))).length) ∧ Hid (Below w2.heap.size w2 wr)) (fun _ i _ => N - (intOf i).toNat)
    case atStart => exact ⟨0, 0, Nat.zero_le _, Nat.zero_le _, rfl, rfl, by simp [Hid, encs], Below.refl _ _⟩
    case round =>
      obtain ⟨j, m, hj, hm, rfl, rfl, HM, H⟩ := hrel
      by_cases hlt : j < N
      · have hj1 : j < L3.length := by rw [HNN.out.2]; exact hlt
        have hj2 : j < l.length := by rw [HNN.out.1]; exact hlt
        obtain ⟨a, rfl, c0, c1, c2, c3'⟩ := (HQ.out.reps.keep H.out).four hj1
        obtain ⟨a2, rfl, d0, d1, d2, d3⟩ := (HA.out.reps.keep (HB2.out.trans (H.out.mono HB2.out.size))).four hj2
        have i1 : (j : Int) < (N : Int) := by omega
        have hm2 : l[j] ∈ l := List.getElem_mem hj2
        have hmr : l[j].1 ∈ rs l := List.mem_map_of_mem hm2
        have hpx : L3[j].1 = plain l[j].1 := by
          have e1 : (rs L3)[j]? = ((rs l).map plain)[j]? := by rw [HL3.out]
          rw [List.getElem?_map, List.getElem?_map, List.getElem?_map, List.getElem?_eq_getElem hj1, List.getElem?_eq_getElem hj2] at e1
          simpa using e1
        have HR1 := Lib.hid ((HQ.out.rd (List.getElem_mem hj1)).keep H.out)
        have HR2 := Lib.hid ((HA.out.rd hm2).keep (HB2.out.trans (H.out.mono HB2.out.size)))
        have hx1 := longs_mem hmr
        have hx2 := HN.out _ hmr
        have HX3 := Lib.hid (HFit.out _ hmr)
        have hxl : longR l[j].1 ≤ 1500 := by have := HG.out; omega
        have HSP : Hid (encs (rs l) = encs (rs (l.take j)) ++ (enc l[j].1 ++ encs (rs (l.drop (j + 1)))) ∧ encs (rs (l.take (j + 1))) = encs (rs (l.take j)) ++ enc l[j].1) := Lib.hid (by
          have h1 : encs (rs (l.take (j + 1))) = encs (rs (l.take j)) ++ enc l[j].1 := by rw [rs_succ hj2, encs_append, encs_one]
          refine ⟨?_, h1⟩
          have h2 : rs l = rs (l.take (j + 1)) ++ rs (l.drop (j + 1)) := by
            unfold rs
            rw [← List.map_append, List.take_append_drop]
          rw [h2, encs_append, h1, List.append_assoc])
        rw [hpx] at c0 c1 c2 c3' HR1
        generalize l[j].1 = x at d0 d1 d2 d3 c0 c1 c2 c3' HR1 HR2 hx2 HX3 hxl HSP
        generalize L3[j].2.1 = B3 at c3' HR1
        generalize L3[j].2.2 = bc3 at c3' HR1
        generalize l[j].2.1 = B at d3 HR2
        generalize l[j].2.2 = xc at d3 HR2
        have hxt : x.t.length ≤ 65536 := by unfold longR at hxl; omega
        have hpl := long_plain x
        have hpn := n64_plain hx2
        have hpp := plain_plain x
        have PC : ∀ w', Hid (Below wr.heap.size wr w' → Calls Tryd.prog 11 #[rv x B xc] w' fun e w'' => e = .returned (rv (plain x) (pA x B) (pc x xc)) ∧ Below w'.heap.size w' w'') := fun w' => Lib.hid fun _ => plain_exact x B xc w' hxt
        have SC : ∀ w', Hid (Below wr.heap.size wr w' → Calls Tryd.prog 12 #[rv (plain x) B3 bc3, rv (plain x) (pA x B) (pc x xc)] w' fun e w'' => e = .returned (.bool true) ∧ Below w'.heap.size w' w'') := fun w' => Lib.hid fun hb => by
          have h1 : (plain x).l.length ≤ 1048576 := by have := txL_len (plain x).l; unfold longR at hpl hxl; omega
          have := rsame_calls (plain x) (plain x) B3 (pA x B) bc3 (pc x xc) w' (HR1.out.keep hb).txs (HR2.out.keep hb).plain.txs h1 h1
          rw [decide_eq_true rfl] at this
          exact this
        have RC : ∀ w', Hid (Below wr.heap.size wr w' → Calls Tryd.prog 14 #[rv (plain x) B3 bc3] w' fun e w'' => e = .returned (.bool true) ∧ Below w'.heap.size w' w'') := fun w' => Lib.hid fun hb => by
          have := C.right_ (plain x) B3 bc3 w' (HR1.out.keep hb) (by omega) hpn
          rw [decide_eq_true hpp] at this
          exact this
        generalize plain x = y at c0 c1 c2 c3' PC SC RC
        generalize pA x B = B4 at PC SC
        generalize pc x xc = bc4 at PC SC
        unfold rv at PC SC RC
        have D0 := Lib.hid d0
        have D1 := Lib.hid d1
        have D2 := Lib.hid d2
        have D3 := Lib.hid d3
        have g0 : ∀ g : Grow wr, g.w.cell? (a.add (j * 4)) = some (.int .i64 y.k) := fun g => g.keep c0
        have g1 : ∀ g : Grow wr, g.w.cell? ⟨(a.add (j * 4)).block, (a.add (j * 4)).off + 1, none⟩ = some (.string (bat y.t)) := fun g => g.keep c1
        have g2 : ∀ g : Grow wr, g.w.cell? ⟨(a.add (j * 4)).block, (a.add (j * 4)).off + 2, none⟩ = some (.int .i64 y.n) := fun g => g.keep c2
        have g3 : ∀ g : Grow wr, g.w.cell? ⟨(a.add (j * 4)).block, (a.add (j * 4)).off + 3, none⟩ = some (.slice B3 y.l.length bc3) := fun g => g.keep c3'
        have h0 : ∀ g : Grow wr, g.w.cell? (a2.add (j * 4)) = some (.int .i64 x.k) := fun g => g.keep d0
        have h1 : ∀ g : Grow wr, g.w.cell? ⟨(a2.add (j * 4)).block, (a2.add (j * 4)).off + 1, none⟩ = some (.string (bat x.t)) := fun g => g.keep d1
        have h2 : ∀ g : Grow wr, g.w.cell? ⟨(a2.add (j * 4)).block, (a2.add (j * 4)).off + 2, none⟩ = some (.int .i64 x.n) := fun g => g.keep d2
        have h3 : ∀ g : Grow wr, g.w.cell? ⟨(a2.add (j * 4)).block, (a2.add (j * 4)).off + 3, none⟩ = some (.slice B x.l.length xc) := fun g => g.keep d3
        clear hm2 hmr hpx hx1 hxt hpl hpn hpp c0 c1 c2 c3' d0 d1 d2 d3
        go_wp2_with fail
        refine wp_region_grow (by kernel_rfl) (by kernel_rfl) ?_
        repeat (go_big_quiet_step ((first | (go_at_call 11; exact grow_call ((PC _).out (Grow.below _))) | (go_at_call 12; exact grow_call ((SC _).out (Grow.below _))) | (go_at_call 14; exact grow_call ((RC _).out (Grow.below _))))))
        refine wpQuiet_nil ?_
        intro _ hw'
        obtain ⟨gq, hw''⟩ := hw'
        subst hw''
        have H5 := Lib.hid (H.out.trans (gq.below.mono H.out.size))
        have HR5 := Lib.hid (HR2.out.keep gq.below)
        have d0 := gq.keep D0.out
        have d1 := gq.keep D1.out
        have d2 := gq.keep D2.out
        have d3 := gq.keep D3.out
        clear g0 g1 g2 g3 h0 h1 h2 h3 PC SC RC D0 D1 D2 D3 H HR1 HR2
        generalize gq.w = w5 at H5 HR5 d0 d1 d2 d3 ⊢
        go_wp2_with fail
        have hb50 : Below w5.heap.size w5 (w5.alloc (.cells (qcells [(x, B, xc)]).toArray 25)) := (Below.refl _ _).alloc (Nat.le_refl _) _
        refine (C.encode_ (some ⟨w5.heap.size, 0, none⟩) 1 [(x, B, xc)] _ (RdQ.lit (heap_alloc_new w5 _) (HR5.out.keep hb50).one (fun y hy q => by simp [rs] at hy; subst hy; exact (HR5.out.keep hb50).tab q)) (by simp [longs]; omega) (by intro z hz; simp at hz; subst hz; exact hx2)).mono ?_
        rintro e w6 ⟨⟨v, rfl, hv⟩, hb6⟩
        rw [show encs (rs [(x, B, xc)]) = enc x from encs_one x] at hv
        obtain ⟨OA, oc, rfl, hOt, hOl, hOn, -⟩ := hv.view
        have hpos := enc_pos x
        obtain ⟨oa, rfl, -⟩ := hOt.at_ (i := 0) hpos
        obtain ⟨el, hel⟩ : ∃ el, el = (enc x).length := ⟨_, rfl⟩
        rw [← hel] at hpos hOl ⊢
        have H6 := Lib.hid (H5.out.trans ((hb50.trans (hb6.mono (by simp))).mono H5.out.size))
        have HOT := Lib.hid hOt
        have HEL := Lib.hid hel
        obtain ⟨kk, hkk⟩ : ∃ kk, kk = cut % el := ⟨_, rfl⟩
        have hk1 : kk < el := by rw [hkk]; exact Nat.mod_lt _ hpos
        have ec : (cut : Int) % (el : Int) = (kk : Int) := by rw [hkk]; push_cast; rfl
        have t3 : ((el : Int) == 0) = false := by rw [beq_eq_false_iff_ne]; omega
        have hmel : m + el ≤ bn := by
          have e1 := congrArg List.length HSP.out.1
          simp only [List.length_append] at e1
          rw [HBE.out, HM.out, hel]
          omega
        have hel9 : el ≤ 65000 := by omega
        have hko : kk ≤ oc := by omega
        obtain ⟨ba, rfl, -⟩ := HBT2.out.at_ (i := 0) (by rw [← HBE.out]; omega)
        have hs1 : kk ≤ el := by omega
        clear hb50 hb6 hOt hOn hv hkk hel d0 d1 d2 d3 H5 HR5
        go_wp2_with fail
        have DC := C.decode_ (some oa) oc ((enc x).take kk) w6 (HOT.out.take kk) (by rw [List.length_take]; omega) (by intro e; cases e) (by rw [List.length_take]; omega) (HTB2.out.keep H6.out)
        rw [dec_short HX3.out (by rw [← HEL.out]; exact hk1), List.length_take, Nat.min_eq_left (by rw [← HEL.out]; omega)] at DC
        refine DC.mono ?_
        clear DC
        rintro e w7 ⟨⟨A7, c7, rfl, -⟩, hb7⟩
        have H7 := Lib.hid (H6.out.trans (hb7.mono H6.out.size))
        clear hb7 H6
        have hmb : m ≤ bn := hm
        have hmc : m < bc := by omega
        have hmc2 : ¬ bc ≤ m := by omega
        go_wp2_with fail
        have hdl : ((encs (rs l)).drop m).length = bn - m := by rw [List.length_drop, ← HBE.out]
        have hdr : (encs (rs l)).drop m = enc x ++ encs (rs (l.drop (j + 1))) := by rw [HSP.out.1, HM.out]; simp
        have hbd : Bts w2 (some (ba.add m)) ((encs (rs l)).drop m) := by
          intro i hi
          rw [hdl] at hi
          obtain ⟨a', e, hcc⟩ := HBT2.out (m + i) (by rw [← HBE.out]; omega)
          injection e with e
          subst e
          exact ⟨_, rfl, by rw [Addr.add_add, List.getElem_drop]; exact hcc⟩
        have DC := C.decode_ (some (ba.add m)) (bc - m) ((encs (rs l)).drop m) (w7.alloc (.cells #[.int .i64 0, .string ⟨#[]⟩, .int .i64 0, .slice A7 0 c7] 25)) (hbd.keep (H7.out.alloc H7.out.size _)) (by rw [hdl]; omega) (by intro e; cases e) (by rw [hdl]; omega) (HTB2.out.keep (H7.out.alloc H7.out.size _))
        rw [hdl, hdr, dec_line HX3.out] at DC
        have hnum : bn - m - (encs (rs (l.drop (j + 1)))).length = el := by
          have := congrArg List.length hdr
          rw [hdl, List.length_append, ← HEL.out] at this
          omega
        refine DC.mono ?_
        clear DC hbd
        rintro e w8 ⟨⟨A8, c8, rfl, -⟩, hb8⟩
        rw [hnum]
        have H8 := Lib.hid ((H7.out.alloc H7.out.size _).trans (hb8.mono (by have := H7.out.size; simp; omega)))
        clear hb8 H7 hdl hdr hnum
        generalize plain x = y8
        unfold rv
        go_wp2_with fail
        go_roundw
        case rel => exact ⟨j + 1, m + el, by omega, hmel, by go_num, by go_num, Lib.hid (by rw [HSP.out.2, List.length_append, HM.out, HEL.out]), H8.out.alloc H8.out.size _⟩
        case measure => simp [intOf]; omega
      · have hmb : m = bn := by rw [HM.out, List.take_of_length_le (by rw [HNN.out.1]; omega), HBE.out]
        subst hmb
        have HB3 := Lib.hid (HB2.out.trans (H.out.mono HB2.out.size))
        go_wp2_with fail
        refine (KC _).mono ?_
        rintro e w9 ⟨rfl, hb9⟩
        have HB9 := Lib.hid (HB3.out.trans (hb9.mono HB3.out.size))
        clear hb9
        go_wp2_with fail
        go_ret
        exact ⟨rfl, HB9.out⟩
end Go.Proofs.YtflmolhkbpicbaaDoor.Ry
