/-
  reply.Decode and reply.All of whatever bytes.
-/
import Derived.Test.YtflmolhkbpicbaaDoorKRpyDco
import Derived.Test.YtflmolhkbpicbaaDoorKGQue
namespace Go.Proofs.YtflmolhkbpicbaaDoor.Ry
open Go.RowKit

set_option maxRecDepth 100000 in
set_option maxHeartbeats 4000000 in
theorem decode_nil (w : World) (hT : Tb w) :
    Calls Tryd.prog 19 #[.slice none 0 0] w fun e w' => YDecB (.err 8) 0 w.heap.size e w' ∧ Below w.heap.size w w' := by
  have HW := Lib.hid ((Below.refl w.heap.size w).alloc (Nat.le_refl _) (.cells z4 25))
  have HX := Lib.hid (Box.new w 25 z4)
  have HF := Lib.hid (first_own (bat []) _ (by decide) (hT.keep HW.out))
  have g0 : ∀ w, (convert 32 9 (.slice none 0 0)).run Tryd.prog w = .ok (.string (bat [])) w := fun w => by kernel_rfl
  rw [show decR (bat []).data.toList = .err 8 from rfl] at HF
  clear hT
  go_enter Tryd.func19, Tryd.ntmps19
  go_wp2
  go_loop [5] (fun v => v = .int .i64 0) (fun _ => 0)
  case atStart => rfl
  case round =>
    subst hrel
    go_wp2_with fail
    refine HF.out.mono ?_
    rintro x w2 ⟨⟨A1, c1, rfl, hrd⟩, hb2⟩
    have HB2 := Lib.hid (HW.out.trans (hb2.mono HW.out.size))
    have X2 := Lib.hid (Box.keep HX.out hb2)
    have HRD := Lib.hid hrd
    clear hb2 hrd
    go_wp2_with (refine wpList_store_only rfl 25 _ _ rfl w2.heap.size _ rfl rfl _ (Box.new w2 _ z4) r_size rfl (by simp [Value.oneCell']) ?_)
    intro w3 p3 k3
    have P3 := Lib.hid p3
    have hne3 : w.heap.size ∉ [w2.heap.size] := by have := X2.out.lt; simp; omega
    have HB3 := Lib.hid (k3.below (HB2.out.alloc HB2.out.size (.cells z4 25)) (fun x hx => by simp at hx; have := HB2.out.size; omega) (by have := HB2.out.size; simp; omega))
    have X3 := Lib.hid (box_only (Box.alloc X2.out _) k3 hne3)
    clear p3 k3
    have cc0 := P3.out.cell 0
    have cc1 := P3.out.cell 1
    have cc2 := P3.out.cell 2
    have cc3 := P3.out.cell 3
    simp only [List.getElem?_toArray, List.getElem?_cons_zero, List.getElem?_cons_succ] at cc0 cc1 cc2 cc3
    go_wp2_with (refine wpList_store_only rfl 25 _ _ rfl w.heap.size _ rfl rfl _ X3.out r_size rfl (by simp [Value.oneCell']) ?_)
    intro w4 p4 k4
    have P4 := Lib.hid p4
    have HB4 := Lib.hid (k4.below HB3.out (fun x hx => by simp at hx; omega) HB3.out.size)
    clear p4 k4
    go_wp2_with fail
    refine ret_r3 Tryd.results19 rfl rfl rfl rfl P4.out ?_
    exact ⟨⟨A1, c1, rfl, no_texts' _ HRD.out, HRD.out.le, HRD.out.nil, zero_tab _⟩, HB4.out⟩
set_option maxRecDepth 100000 in
theorem decode_own (A : Option Addr) (cap : Nat) (l : Bytes) (w : World) (hA : Bts w A l) (hcap : l.length ≤ cap) (hnil : A = none → cap = 0) (hl : l.length ≤ 65000) (hT : Tb w) :
    Calls Tryd.prog 19 #[.slice A l.length cap] w fun e w' => YDecB (decR l) l.length w.heap.size e w' ∧ Below w.heap.size w w' := by
  cases A with
  | some a => exact decode_some a cap l w hA hcap hl hT
  | none =>
    obtain rfl := hnil rfl
    obtain rfl : l = [] := List.eq_nil_of_length_eq_zero (by omega)
    exact decode_nil w hT
/-- what is left, what was read -/
def AllIn2 (l : Bytes) (R : List Rep × Nat) (w : World) (b v : Value) (wr : World) : Prop :=
  ∃ (r : Bytes) (A : Option Addr) (cap : Nat) (L : List Qe), b = .slice A r.length cap ∧ r.length ≤ cap ∧ (A = none → cap = 0) ∧ L.length + r.length ≤ l.length ∧ Hid (Bts w A r ∧ QRow wr w.heap.size v L ∧ Mine wr w.heap.size L ∧ Below w.heap.size w wr) ∧ Hid (fin (rs L) (all r) = R)

set_option maxHeartbeats 4000000 in
set_option maxRecDepth 100000 in
theorem all_own (A : Option Addr) (cap : Nat) (l : Bytes) (w : World) (hA : Bts w A l) (hl : l.length ≤ 65000) (hcap : l.length ≤ cap) (hnil : A = none → cap = 0) (hT : Tb w) :
    Calls Tryd.prog 21 #[.slice A l.length cap] w fun e w' => AllRes (all l) w.heap.size e w' ∧ Below w.heap.size w w' := by
  generalize hR : all l = R
  have HR := Lib.hid hR
  have HA := Lib.hid hA
  have HT := Lib.hid hT
  clear hR hA hT
  go_enter Tryd.func21, Tryd.ntmps21
  go_wp2_with fail
  go_loopw [0, 4] (fun b v wr => AllIn2 l R w b v wr) (fun b _ _ => slenOf b)
  case atStart => exact ⟨l, A, cap, [], rfl, hcap, hnil, by simp, Lib.hid ⟨HA.out, QRow.nil _ _, Mine.nil _ _, Below.refl _ _⟩, Lib.hid (by rw [← HR.out]; exact fin_nil)⟩
  case round =>
    clear hnil
    obtain ⟨r, A, cap, L, rfl, hc, hnl, hlen, H, HF⟩ := hrel
    obtain ⟨V, n0, vc, rfl, hn0⟩ := H.out.2.1.form
    have HN0 := Lib.hid hn0
    clear hn0 HR HA
    by_cases h0 : r = []
    · subst h0
      have HE : Hid (R = (rs L, 0)) := Lib.hid (by rw [← HF.out]; exact fin_end)
      clear HF
      go_wp2_with fail
      go_ret2
      rw [HE.out]
      exact ⟨.inl ⟨rfl, _, L, rfl, H.out.2.1, H.out.2.2.1, rfl⟩, H.out.2.2.2⟩
    · have hpos := List.length_pos_iff.2 h0
      have i1 : (0 : Int) < (r.length : Int) := by omega
      have DC := fun w h => decode_own A cap r w h hc hnl (by omega)
      have H0 := Lib.hid h0
      clear h0
      cases hd : decR r with
      | err k =>
        rw [hd] at DC
        obtain ⟨he, hk⟩ := fin_err (p := rs L) H0.out hd
        have HE : Hid (R = ([], k)) := Lib.hid (by rw [← HF.out]; exact he)
        have t1 : ((k : Int) != 0) = true := by rw [bne_iff_ne]; omega
        clear HF he hd
        go_wp2_with fail
        refine (DC _ (H.out.1.keep H.out.2.2.2) (HT.out.keep H.out.2.2.2)).mono ?_
        rintro e w1 ⟨⟨A1, c1, rfl, hrd⟩, hb1⟩
        have HB := Lib.hid (H.out.2.2.2.trans (hb1.mono H.out.2.2.2.size))
        clear hb1 H DC hrd
        go_wp2_with fail
        go_ret2
        rw [HE.out]
        exact ⟨.inr ⟨by simp; omega, rfl, rfl⟩, HB.out.alloc HB.out.size _⟩
      | ok x q =>
        rw [hd] at DC
        have hq := dec_len hd
        have HE := Lib.hid ((fin_ok (p := rs L) hd).symm.trans HF.out)
        obtain ⟨en, hen⟩ : ∃ en, en = enc x := ⟨_, rfl⟩
        have hr := (dec_ok hd).2
        obtain ⟨n, hn⟩ : ∃ n, n = r.length - q.length := ⟨_, rfl⟩
        have hqd : q = r.drop n := by
          rw [hn, hr]
          simp
        have HQD := Lib.hid hqd
        clear HF hd hr hqd hen en
        go_wp2_with fail
        refine (DC _ (H.out.1.keep H.out.2.2.2) (HT.out.keep H.out.2.2.2)).mono ?_
        rintro e w1 ⟨⟨A1, c1, rfl, hs1⟩, hb1⟩
        rw [← hn]
        have HBT := Lib.hid H.out.1
        have H1 : Hid (QRow w1 w.heap.size (.slice V n0 vc) L ∧ Mine w1 w.heap.size L ∧ Below w.heap.size w w1 ∧ SRow w1 w.heap.size (qlv (x, A1, c1)) (x.l.map bat)) := Lib.hid ⟨H.out.2.1.below hb1, H.out.2.2.1.below hb1, H.out.2.2.2.trans (hb1.mono H.out.2.2.2.size), hs1.lower H.out.2.2.2.size⟩
        have HLN : Hid (L.length ≤ 1048576) := Lib.hid (by omega)
        have HM : Hid (1 ≤ n ∧ q.length = r.length - n) := Lib.hid (by omega)
        have hn1 : n ≤ r.length := by omega
        obtain ⟨a, rfl, -⟩ := HBT.out.at_ (i := 0) hpos
        clear hs1 hb1 H DC hn hq
        go_wp2_with (at_builtin; refine wpList_append_rep rfl _ _ rfl w.heap.size _ L rfl ((H1.out.1.alloc _).alloc _) (w1.heap.size + 1) (x, A1, c1) rfl (Box.new1 _ _ _ _) HLN.out ?c5 ?_)
        case c5 => have := H1.out.2.2.1.size; simp; omega
        intro v3 w10 ho10 hg10
        have HB10 := Lib.hid (QRow.grown ((H1.out.1.alloc _).alloc _) hg10 ((H1.out.2.2.1.alloc H1.out.2.2.1.size _).alloc (by have := H1.out.2.2.1.size; simp; omega) _) (by have := H1.out.2.2.1.size; simp; omega))
        have HM10 := Lib.hid (Mine.push ((H1.out.2.1.alloc _).alloc _) ((H1.out.2.2.2.alloc _).alloc _) ((H1.out.1.alloc _).alloc _) hg10)
        have HO10 := Lib.hid ho10
        clear ho10 hg10 H1
        by_cases hcn : n = cap
        · have hq0 : q = [] := List.eq_nil_of_length_eq_zero (by have := HM.out; omega)
          go_wp2_with fail
          go_roundw
          case rel => exact ⟨[], some a, 0, L ++ [(x, A1, c1)], rfl, by simp, (fun q => by cases q), by have := HM.out; simp; omega, Lib.hid ⟨fun i hi => absurd hi (by simp), HO10.out, HM10.out, HB10.out⟩, Lib.hid (by rw [← HE.out, hq0]; simp [rs])⟩
          case measure => have := HM.out; simp [slenOf]; omega
        · have hn2 : n < cap := by omega
          have hn3 : ¬ cap ≤ n := by omega
          go_wp2_with fail
          go_roundw
          case rel =>
            refine ⟨r.drop n, some (a.add n), cap - n, L ++ [(x, A1, c1)], ?_, by rw [List.length_drop]; omega, (fun q => by cases q), by have := HM.out; rw [List.length_append, List.length_drop]; simp; omega, Lib.hid ⟨?_, HO10.out, HM10.out, HB10.out⟩, Lib.hid (by rw [← HE.out, ← HQD.out]; simp [rs])⟩
            · rw [List.length_drop]
            · intro i hi
              rw [List.length_drop] at hi
              obtain ⟨a', e, hcc⟩ := HBT.out (n + i) (by omega)
              injection e with e
              subst e
              exact ⟨_, rfl, by rw [Addr.add_add, List.getElem_drop]; exact hcc⟩
          case measure => have := HM.out; simp [slenOf]; omega
set_option maxRecDepth 100000 in
/-- what was read, handed about -/
theorem all_yall {R : List Rep × Nat} {B : Nat} {e : Ending} {w' : World} (hT : Tb w') (h : AllRes R B e w') : YAll R e w' := by
  rcases h with ⟨h0, v, L, rfl, hq, hm, hr⟩ | ⟨h0, h1, rfl⟩
  · obtain ⟨A, cap, rfl, hle, hnil, hreps⟩ := hq.view
    exact ⟨A, cap, L, by rw [h0]; rfl, ⟨hreps, hm.txs, hle, hnil, fun _ _ _ => hT⟩, hr⟩
  · exact ⟨none, 0, [], rfl, ⟨Reps.nil _ _, (fun x hx => by cases hx), Nat.le_refl _, (fun _ => rfl), fun _ _ _ => hT⟩, h1.symm⟩
set_option maxRecDepth 100000 in
theorem dec_ydec {R : Rd Rep} {n B : Nat} {e : Ending} {w' : World} (hT : Tb w') (h : YDecB R n B e w') : YDec R n e w' := by
  cases R with
  | ok x r =>
    obtain ⟨A, c, he, hrow⟩ := h
    obtain ⟨_, h1, h2⟩ := row_cap hrow
    rw [List.length_map] at h1
    exact ⟨A, c, he, (SRow.texts hrow).2, h1, h2, fun _ => hT⟩
  | err k => exact h
end Go.Proofs.YtflmolhkbpicbaaDoor.Ry
