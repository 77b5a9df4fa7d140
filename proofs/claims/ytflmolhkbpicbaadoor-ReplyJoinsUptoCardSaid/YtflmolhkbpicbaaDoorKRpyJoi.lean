/-
  ReplyJoins: two rows have the bytes of both; an answer is read the same, whatever is behind it.
-/
import Derived.Test.YtflmolhkbpicbaaDoorKRpyBck
namespace Go.Proofs.YtflmolhkbpicbaaDoor.Ry
open Go.RowKit
open Gw

set_option maxRecDepth 100000 in
/-- answers that lie anywhere, or nowhere, come behind -/
theorem wpList_append_reps {w : World} {ops : Array Oper} {o : Oper} {a : Go.Act} {rest : List Oper} {Q : Exit → Go.Act → World → Prop} (hgd : o.guard = none) (s x : Operand)
    (ho : o.op = .call { callee := .builtin .append, args := #[s, x], argTypes := #[22, 22] })
    (B : Nat) (v : Value) (l : List Qe) (hs : a.eval s = v) (hown : QRow w B v l) (A : Option Addr) (n cap : Nat) (m : List Qe) (hx : a.eval x = .slice A n cap) (hnm : n = m.length) (hnil : A = none → cap = 0)
    (hm : Reps w A m) (hn : l.length + m.length ≤ 20000) (hB : B ≤ w.heap.size)
    (h : ∀ v' w', QRow w' B v' (l ++ m) → w.grownBy w' v.ownBlock → wpList Tryd.prog ops Q rest (a.put o.dst v') w') : wpList Tryd.prog ops Q (o :: rest) a w := by
  obtain ⟨i0, hi, hz0, hz1, hz2⟩ := rep_parts
  subst hnm
  cases A with
  | none =>
    obtain rfl := hnil rfl
    obtain rfl : m = [] := by
      rcases Nat.eq_zero_or_pos m.length with h0 | h0
      · exact List.eq_nil_of_length_eq_zero h0
      · obtain ⟨a, e, _⟩ := hm 0 h0
        cases e
    refine wpList_append_own_none hgd s x 22 ho B 25 i0 4 Tryd.underlying22 hi v l.length (qcells l) hs hown hx ?_
    exact h v w (by simpa using hown) ⟨rfl, rfl, rfl, Nat.le_refl _, fun _ _ _ => rfl⟩
  | some ad =>
    refine wpList_append_own w hgd s x 22 ho B 25 i0 _ 4 56 Tryd.underlying22 hi hz0 hz1 hz2 rfl (by decide) v l.length (qcells l) hs hown ad m.length cap (qcells m) hx (qcells_length m) hm.cells (qcells_one _) (by unfold maxLen; omega) (by omega) hB (fun v' w' h2 h3 _ => h v' w' ?_ h3)
    have h2' := h2
    rw [← qcells_append] at h2'
    unfold QRow
    rw [List.length_append]
    exact h2'

set_option maxHeartbeats 16000000 in
set_option maxRecDepth 100000 in
theorem joins_law (C : YC) (A D T : Option Addr) (cap cap2 cap3 : Nat) (l m : List Qe) (t : Bytes) (w : World) (hA : RdQ w A cap l) (hD : RdQ w D cap2 m) (hT : Bts w T t) (_ht1 : t.length ≤ cap3) (ht2 : T = none → cap3 = 0) (ht3 : t.length ≤ 1048576)
    (hl : longs (rs l) + longs (rs m) ≤ 4611686018427387904) (hn : ∀ x ∈ rs l, N64 x) (hk : ∀ x ∈ rs m, N64 x) (hTB : Tb w) :
    Calls Tryd.prog 8 #[.slice A l.length cap, .slice D m.length cap2, .slice T t.length cap3] w fun e w' => e = .returned (.bool true) ∧ Below w.heap.size w w' := by
  have HA := Lib.hid hA
  have HD := Lib.hid hD
  have HT := Lib.hid hT
  have HN := Lib.hid hn
  have HK := Lib.hid hk
  have HT2 := Lib.hid ht2
  have HTB := Lib.hid hTB
  clear hA hD hT hn hk ht2 hTB
  have KC := known_calls C
  go_enter Tryd.func8, Tryd.ntmps8
  go_wp2_with fail
  refine (long_calls A cap l w HA.out.reps HA.out.txs (by omega)).mono ?_
  rintro e w0 ⟨rfl, hw0⟩
  subst hw0
  go_wp2_with fail
  refine (long_calls D cap2 m w HD.out.reps HD.out.txs (by omega)).mono ?_
  rintro e w0 ⟨rfl, hw0⟩
  subst hw0
  obtain ⟨s1, hs1⟩ : ∃ s1, s1 = longs (rs l) := ⟨_, rfl⟩
  obtain ⟨s2, hs2⟩ : ∃ s2, s2 = longs (rs m) := ⟨_, rfl⟩
  rw [← hs1, ← hs2] at hl ⊢
  have HS := Lib.hid (And.intro hs1 hs2)
  clear hs1 hs2
  by_cases hg : 1200 < s1 + s2
  · have i1 : (1200 : Int) < (s1 : Int) + (s2 : Int) := by omega
    go_wp2_with fail
    refine (KC _).mono ?_
    rintro e w1 ⟨rfl, hb1⟩
    go_wp2_with fail
    go_ret
    exact ⟨rfl, hb1⟩
  · have i1 : ¬ (1200 : Int) < (s1 : Int) + (s2 : Int) := by omega
    by_cases hg2 : 200 < t.length
    · have i2 : (200 : Int) < (t.length : Int) := by omega
      go_wp2_with fail
      refine (KC _).mono ?_
      rintro e w1 ⟨rfl, hb1⟩
      go_wp2_with fail
      go_ret
      exact ⟨rfl, hb1⟩
    · have i2 : ¬ (200 : Int) < (t.length : Int) := by omega
      have hlong : Hid (longs (rs l) + longs (rs m) ≤ 1200) := Lib.hid (by have := HS.out; omega)
      have hll : Hid (l.length ≤ 1200 ∧ m.length ≤ 1200) := Lib.hid (by
        have h1 := longs_len (rs l)
        have h2 := longs_len (rs m)
        rw [List.length_map] at h1 h2
        have := hlong.out
        omega)
      go_wp2_with (at_builtin; refine wpList_append_reps rfl _ _ rfl w.heap.size (.slice none 0 0) [] rfl (QRow.nil _ _) A l.length cap l rfl rfl HA.out.nil HA.out.reps ?b1 (Nat.le_refl _) ?_)
      case b1 => have := hll.out; simp; omega
      intro v3 w3 ho3 hg3
      have HB3 := Lib.hid (QRow.grown (QRow.nil w w.heap.size) hg3 (Below.refl _ _) (Nat.le_refl _))
      obtain ⟨V3, n3, c3, rfl, hn3⟩ := ho3.form
      have HO3 := Lib.hid ho3
      clear ho3 hg3 hn3
      go_wp2_with (at_builtin; refine wpList_append_reps rfl _ _ rfl w.heap.size (.slice V3 n3 c3) l rfl HO3.out D m.length cap2 m rfl rfl HD.out.nil (HD.out.reps.keep HB3.out) ?b2 HB3.out.size ?_)
      case b2 => have := hll.out; simp; omega
      intro v4 w4 ho4 hg4
      have HB4 := Lib.hid (QRow.grown HO3.out hg4 HB3.out HB3.out.size)
      obtain ⟨V4, c4, rfl, hv1, hv2, hv3⟩ := ho4.view
      have HQ4 : Hid (RdQ w4 V4 c4 (l ++ m)) := Lib.hid ⟨hv3, (fun x hx => by
        rcases List.mem_append.1 hx with hx | hx
        · exact (HA.out.txs.keep HB4.out) x hx
        · exact (HD.out.txs.keep HB4.out) x hx), hv1, hv2, fun y hy q => by
        rw [show rs (l ++ m) = rs l ++ rs m by simp [rs]] at hy
        rcases List.mem_append.1 hy with hy | hy
        · exact (HA.out.tab y hy q).keep HB4.out
        · exact (HD.out.tab y hy q).keep HB4.out⟩
      have HO4 := Lib.hid ho4
      have HLM : Hid (rs (l ++ m) = rs l ++ rs m) := Lib.hid (by simp [rs])
      obtain ⟨n4, hn4⟩ : ∃ n4, n4 = (l ++ m).length := ⟨_, rfl⟩
      rw [← hn4]
      have HN4 := Lib.hid hn4
      clear ho4 hg4 hv1 hv2 hv3 HO3 hn4
      go_wp2_with fail
      refine (C.encode_ A cap l w4 (HA.out.keep HB4.out) (by have := hlong.out; omega) HN.out).mono ?_
      rintro e w5 ⟨⟨v5, rfl, hr5⟩, hb5⟩
      have HB5 := Lib.hid (HB4.out.trans (hb5.mono HB4.out.size))
      have HQ5 := Lib.hid (HQ4.out.keep hb5)
      have HO5 := Lib.hid (HO4.out.below hb5)
      have HR5 := Lib.hid (hr5.lower HB4.out.size)
      obtain ⟨V5, n5, c5, rfl, -⟩ := hr5.form
      clear hr5 hb5 HQ4 HO4
      go_wp2_with fail
      refine (C.encode_ D cap2 m w5 (HD.out.keep HB5.out) (by have := hlong.out; omega) HK.out).mono ?_
      rintro e w6 ⟨⟨v6, rfl, hr6⟩, hb6⟩
      obtain ⟨V6, c6, rfl, hx1, hx2, hx3, -⟩ := hr6.view
      have HB6 := Lib.hid (HB5.out.trans (hb6.mono HB5.out.size))
      have HO6 := Lib.hid (HO5.out.below hb6)
      have HR6 := Lib.hid (HR5.out.below hb6)
      have HX6 := Lib.hid hx1
      have HX6n := Lib.hid hx3
      have HE6 : Hid ((encs (rs l)).length ≤ 60000 ∧ (encs (rs m)).length ≤ 60000) := Lib.hid (by
        have h1 := encs_len (l := rs l) (by have := hlong.out; omega) HN.out
        have h2 := encs_len (l := rs m) (by have := hlong.out; omega) HK.out
        have := hlong.out
        omega)
      obtain ⟨e6, he6⟩ : ∃ e6, e6 = (encs (rs m)).length := ⟨_, rfl⟩
      rw [← he6]
      have HEN := Lib.hid he6
      clear hr6 hb6 hx1 hx2 hx3 HO5 HR5 HQ5 he6
      go_wp2_with (at_builtin; refine wpList_append_bts rfl _ _ rfl w.heap.size _ _ rfl HR6.out V6 c6 _ (encs (rs m)) rfl HX6.out HEN.out HX6n.out ?c1 ?c2 ?_)
      case c1 => have := HE6.out; omega
      case c2 => exact HB6.out.size
      intro v7 w7 ho7 hg7
      have HB7 := Lib.hid (BRow.grown HR6.out hg7 HB6.out HB6.out.size)
      have HO7 : Hid (QRow w7 w.heap.size (.slice V4 n4 c4) (l ++ m)) := Lib.hid (by rw [HN4.out]; exact World.ownsRow.kept HO6.out hg7 (own_ne4 HO6.out HR6.out (by decide)))
      have HQ7 : Hid (RdQ w7 V4 c4 (l ++ m)) := Lib.hid (by
        have h1 := HO7.out
        rw [HN4.out] at h1
        obtain ⟨V, cc, e, hv1, hv2, hv3⟩ := h1.view
        injection e with e1 e2 e3
        subst e1 e3
        exact ⟨hv3, (fun x hx => by
          rcases List.mem_append.1 hx with hx | hx
          · exact (HA.out.txs.keep HB7.out) x hx
          · exact (HD.out.txs.keep HB7.out) x hx), hv1, hv2, fun y hy q => by
          rw [show rs (l ++ m) = rs l ++ rs m by simp [rs]] at hy
          rcases List.mem_append.1 hy with hy | hy
          · exact (HA.out.tab y hy q).keep HB7.out
          · exact (HD.out.tab y hy q).keep HB7.out⟩)
      obtain ⟨V7, c7, rfl, hy1, hy2, hy3, -⟩ := ho7.view
      have HY7 := Lib.hid hy1
      clear ho7 hg7 hy1 hy2 hy3 HO6 HR6 HX6 HX6n HO7
      obtain ⟨n7, hn7⟩ : ∃ n7, n7 = (encs (rs l) ++ encs (rs m)).length := ⟨_, rfl⟩
      rw [← hn7]
      have HN7 := Lib.hid hn7
      clear hn7
      go_wp2_with fail
      have EC := C.encode_ V4 c4 (l ++ m) w7 HQ7.out (by rw [HLM.out, longs_append]; have := hlong.out; omega) (by
        intro x hx
        rw [HLM.out] at hx
        rcases List.mem_append.1 hx with h | h
        · exact HN.out x h
        · exact HK.out x h)
      rw [← HN4.out] at EC
      refine EC.mono ?_
      clear EC
      rintro e w8 ⟨⟨v8, rfl, hr8⟩, hb8⟩
      rw [HLM.out, encs_append] at hr8
      obtain ⟨V8, c8, rfl, hz1, -⟩ := hr8.view
      have BC := bsame_calls V7 V8 c7 c8 (encs (rs l) ++ encs (rs m)) (encs (rs l) ++ encs (rs m)) w8 (HY7.out.keep hb8) hz1
      rw [decide_eq_true rfl, ← HN7.out] at BC
      rw [← HN7.out]
      have HB8 := Lib.hid (HB7.out.trans (hb8.mono HB7.out.size))
      clear hr8 hb8 hz1 HQ7 HY7
      go_wp2_with fail
      refine BC.mono ?_
      clear BC
      rintro e w9 ⟨rfl, hb9⟩
      have HB9 := Lib.hid (HB8.out.trans (hb9.mono HB8.out.size))
      clear hb9 HB8
      by_cases h0 : l.length = 0
      · have t1 : ((l.length : Int) == 0) = true := by rw [h0]; rfl
        clear h0
        go_wp2_with fail
        refine (KC _).mono ?_
        rintro e w10 ⟨rfl, hb10⟩
        have HB10 := Lib.hid (HB9.out.trans (hb10.mono HB9.out.size))
        clear hb10
        go_wp2_with fail
        go_ret
        exact ⟨rfl, HB10.out⟩
      · have hl0 : 0 < l.length := by omega
        have t1 : ((l.length : Int) == 0) = false := by rw [beq_eq_false_iff_ne]; omega
        have i3 : (0 : Int) < (l.length : Int) := by omega
        obtain ⟨a, rfl, d0, d1, d2, d3⟩ := HA.out.reps.four hl0
        rw [show a.add (0 * 4) = a from by simp [Addr.add]] at d0 d1 d2 d3
        have hm2 : l[0] ∈ l := List.getElem_mem hl0
        have hmr : l[0].1 ∈ rs l := List.mem_map_of_mem hm2
        have HR := Lib.hid (HA.out.rd hm2)
        have hx2 := HN.out _ hmr
        have hxl : longR l[0].1 ≤ 1200 := by have := longs_mem hmr; have := hlong.out; omega
        generalize l[0].1 = x at d0 d1 d2 d3 HR hx2 hxl
        generalize l[0].2.1 = XB at d3 HR
        generalize l[0].2.2 = xc at d3 HR
        have HX3 := Lib.hid (long_fit (by omega) hx2)
        have D0 := Lib.hid d0
        have D1 := Lib.hid d1
        have D2 := Lib.hid d2
        have D3 := Lib.hid d3
        replace d0 := keep2 HB9.out D0.out
        replace d1 := keep2 HB9.out D1.out
        replace d2 := keep2 HB9.out D2.out
        replace d3 := keep2 HB9.out D3.out
        clear hm2 hmr h0
        go_wp2_with fail
        have hb90 : Below w9.heap.size w9 (w9.alloc (.cells (qcells [(x, XB, xc)]).toArray 25)) := (Below.refl _ _).alloc (Nat.le_refl _) _
        refine (C.encode_ (some ⟨w9.heap.size, 0, none⟩) 1 [(x, XB, xc)] _ (RdQ.lit (heap_alloc_new w9 _) (HR.out.keep (HB9.out.alloc HB9.out.size _)).one (fun y hy q => by simp [rs] at hy; subst hy; exact (HR.out.keep (HB9.out.alloc HB9.out.size _)).tab q)) (by simp [longs]; omega) (by intro z hz; simp at hz; subst hz; exact hx2)).mono ?_
        rintro e w10 ⟨⟨v10, rfl, hr10⟩, hb10⟩
        rw [show encs (rs [(x, XB, xc)]) = enc x from encs_one x] at hr10
        have hb910 := hb90.trans (hb10.mono (by simp))
        have HB10 := Lib.hid (HB9.out.trans (hb910.mono HB9.out.size))
        have HR10 := Lib.hid (hr10.lower (by have := HB9.out.size; simp; omega : w.heap.size ≤ _))
        obtain ⟨V10, n10, c10, rfl, hn10⟩ := hr10.form
        have HE10 := Lib.hid hn10
        have hel : (enc x).length ≤ 60000 := by have := enc_len (x := x) (by omega) hx2; omega
        have HEL := Lib.hid hel
        obtain ⟨tn, htn⟩ : ∃ tn, tn = t.length := ⟨_, rfl⟩
        have HTN := Lib.hid htn
        clear hr10 hb10 hb90 hb910 hn10 d0 d1 d2 d3 HB9 hel htn
        go_wp2_with (at_builtin; refine wpList_append_bts rfl _ _ rfl w.heap.size _ _ rfl HR10.out T cap3 _ t rfl (HT.out.keep HB10.out) rfl HT2.out ?c1 ?c2 ?_)
        case c1 => have := HEL.out; omega
        case c2 => exact HB10.out.size
        intro v11 w11 ho11 hg11
        have HB11 := Lib.hid (BRow.grown HR10.out hg11 HB10.out HB10.out.size)
        obtain ⟨V11, c11, rfl, hy1, hy2, hy3, -⟩ := ho11.view
        have HY11 := Lib.hid hy1
        obtain ⟨el, hel⟩ : ∃ el, el = (enc x).length := ⟨_, rfl⟩
        obtain ⟨n11, hn11⟩ : ∃ n11, n11 = (enc x ++ t).length := ⟨_, rfl⟩
        rw [← hn11] at hy2 ⊢
        rw [show n10 = el by rw [HE10.out, hel]]
        have HEE := Lib.hid hel
        have HN11 := Lib.hid hn11
        have DC := C.decode_ V11 c11 (enc x ++ t) w11 HY11.out (by rw [← hn11]; exact hy2) hy3 (by rw [List.length_append]; have := HEL.out; omega) (HTB.out.keep HB11.out)
        rw [dec_line HX3.out, ← hn11] at DC
        have hnum : n11 - t.length = el := by rw [hn11, List.length_append, hel]; omega
        have HNUM := Lib.hid hnum
        clear ho11 hg11 hy1 hy2 hy3 HR10 hel hn11 hnum
        go_wp2_with fail
        refine DC.mono ?_
        clear DC
        rintro e w12 ⟨⟨A12, c12, rfl, hr12⟩, hb12⟩
        rw [HNUM.out]
        have HB12 := Lib.hid (HB11.out.trans (hb12.mono HB11.out.size))
        have HR12 := Lib.hid hr12
        have hpn := n64_plain hx2
        have hpl := long_plain x
        have hxt : x.t.length ≤ 65536 := by unfold longR at hxl; omega
        have PC : ∀ w', Hid (Below w.heap.size w w' → Calls Tryd.prog 11 #[rv x XB xc] w' fun e w'' => e = .returned (rv (plain x) (pA x XB) (pc x xc)) ∧ Below w'.heap.size w' w'') := fun w' => Lib.hid fun _ => plain_exact x XB xc w' hxt
        have SC : ∀ w', Hid (Below w12.heap.size w12 w' → Calls Tryd.prog 12 #[rv (plain x) A12 c12, rv (plain x) (pA x XB) (pc x xc)] w' fun e w'' => e = .returned (.bool true) ∧ Below w'.heap.size w' w'') := fun w' => Lib.hid fun hb => by
          have h1 : (plain x).l.length ≤ 1048576 := by have := txL_len (plain x).l; unfold longR at hpl hxl; omega
          have := rsame_calls (plain x) (plain x) A12 (pA x XB) c12 (pc x xc) w' (HR12.out.keep hb).txs (HR.out.keep (HB12.out.trans (hb.mono HB12.out.size))).plain.txs h1 h1
          rw [decide_eq_true rfl] at this
          exact this
        generalize plain x = y at PC SC
        generalize pA x XB = B4 at PC SC
        generalize pc x xc = bc4 at PC SC
        unfold rv at PC SC ⊢
        clear hb12 hr12 HB11 HR12 hpn hpl hxt
        go_wp2_with fail
        obtain ⟨W13, hW13⟩ : ∃ W13, W13 = w12.alloc (.cells #[.int .i64 y.k, .string (bat y.t), .int .i64 y.n, .slice A12 y.l.length c12] 25) := ⟨_, rfl⟩
        have hbx : Box W13 w12.heap.size 25 #[.int .i64 y.k, .string (bat y.t), .int .i64 y.n, .slice A12 y.l.length c12] := by rw [hW13]; exact Box.new _ _ _
        have hb13 : Below w12.heap.size w12 W13 := by rw [hW13]; exact (Below.refl _ _).alloc (Nat.le_refl _) _
        have hb13w : Below w.heap.size w W13 := HB12.out.trans (hb13.mono HB12.out.size)
        rw [← hW13]
        clear hW13
        have PC2 : ∀ w', Hid (Below W13.heap.size W13 w' → Calls Tryd.prog 11 #[rv x XB xc] w' fun e w'' => e = .returned (rv y B4 bc4) ∧ Below w'.heap.size w' w'') := fun w' => Lib.hid fun hb => (PC w').out (hb13w.trans (hb.mono hb13w.size))
        have SC2 : ∀ w', Hid (Below W13.heap.size W13 w' → Calls Tryd.prog 12 #[rv y A12 c12, rv y B4 bc4] w' fun e w'' => e = .returned (.bool true) ∧ Below w'.heap.size w' w'') := fun w' => Lib.hid fun hb => (SC w').out (hb13.trans (hb.mono hb13.size))
        unfold rv at PC2 SC2
        have b0 := hbx.cell 0
        have b1 := hbx.cell 1
        have b2 := hbx.cell 2
        have b3 := hbx.cell 3
        simp only [List.getElem?_toArray, List.getElem?_cons_zero, List.getElem?_cons_succ] at b0 b1 b2 b3
        have g0 : ∀ g : Grow W13, g.w.cell? ⟨w12.heap.size, 0, none⟩ = some (.int .i64 y.k) := fun g => g.keep b0
        have g1 : ∀ g : Grow W13, g.w.cell? ⟨w12.heap.size, 1, none⟩ = some (.string (bat y.t)) := fun g => g.keep b1
        have g2 : ∀ g : Grow W13, g.w.cell? ⟨w12.heap.size, 2, none⟩ = some (.int .i64 y.n) := fun g => g.keep b2
        have g3 : ∀ g : Grow W13, g.w.cell? ⟨w12.heap.size, 3, none⟩ = some (.slice A12 y.l.length c12) := fun g => g.keep b3
        have h0 : ∀ g : Grow W13, g.w.cell? a = some (.int .i64 x.k) := fun g => g.keep (keep2 hb13w D0.out)
        have h1 : ∀ g : Grow W13, g.w.cell? ⟨a.block, a.off + 1, none⟩ = some (.string (bat x.t)) := fun g => g.keep (keep2 hb13w D1.out)
        have h2 : ∀ g : Grow W13, g.w.cell? ⟨a.block, a.off + 2, none⟩ = some (.int .i64 x.n) := fun g => g.keep (keep2 hb13w D2.out)
        have h3 : ∀ g : Grow W13, g.w.cell? ⟨a.block, a.off + 3, none⟩ = some (.slice XB x.l.length xc) := fun g => g.keep (keep2 hb13w D3.out)
        have HB13 := Lib.hid hb13w
        clear PC SC b0 b1 b2 b3 hbx hb13 hb13w
        refine wp_region_grow (by kernel_rfl) (by kernel_rfl) ?_
        repeat (go_big_quiet_step ((first | (go_at_call 11; exact grow_call ((PC2 _).out (Grow.below _))) | (go_at_call 12; exact grow_call ((SC2 _).out (Grow.below _))) | (go_at_call 10; exact grow_call (KC _)))))
        refine wpQuiet_nil ?_
        intro _ hw'
        obtain ⟨gq, hw''⟩ := hw'
        subst hw''
        have HB14 := Lib.hid (HB13.out.trans (gq.below.mono HB13.out.size))
        clear g0 g1 g2 g3 h0 h1 h2 h3
        go_wp2_with fail
        go_ret
        exact ⟨rfl, HB14.out⟩
end Go.Proofs.YtflmolhkbpicbaaDoor.Ry
