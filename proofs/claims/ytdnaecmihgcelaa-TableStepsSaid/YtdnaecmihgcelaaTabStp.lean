/-
  The walk of TableSteps.
-/
import Derived.Test.YtdnaecmihgcelaaTabRfG
import Derived.Test.YtdnaecmihgcelaaTabRom
import Derived.Deep.RegionWith
namespace Go.Proofs.Ytdnaecmihgcelaa.Tb
open Go.RowKit
namespace Pr

theorem Mine.drew' {w0 w : World} {t room : Nat} {l : PL} (h : Mine w0 w t room l) : Mine w0 w.drew t room l := h.drewN 1
theorem PR.drew {w : World} {A : Option Addr} {l : PL} (h : PR w A l) : PR w.drew A l := h.drewN 1
theorem Mine.set2 {w0 w : World} {t room ub : Nat} {l : PL} {x y : Value} (h : Mine w0 w t room l) (hb : Box w ub 29 #[x, y]) (hu : w0.heap.size ≤ ub) (a c : Value) :
    Mine w0 ((w.setCell ⟨ub, 0, none⟩ a).setCell ⟨ub, 1, none⟩ c) t room l := by
  obtain ⟨h1, own, h2, h3⟩ := h
  refine ⟨below_set2 h1 hu _ _, own, h2.keep (o2 := [ub]) (((Only.refl _ _).set (by simp) _).set (by simp) _) (fun x hx hc => ?_), h3⟩
  simp only [List.mem_singleton] at hc
  subst hc
  exact h2.apart hb (by decide) hx

/-- the document's table lies in the box ub -/
def Doc (w wr : World) (ub room : Nat) (p : PL) (A : Option Addr) (cap : Nat) : Prop :=
  Box wr ub 29 (tc room A p.length cap) ∧ PR wr A p ∧ w.heap.size ≤ ub
theorem Doc.below {w wr w' : World} {ub room cap : Nat} {p : PL} {A : Option Addr} (h : Doc w wr ub room p A cap) (hb : Below wr.heap.size wr w') : Doc w w' ub room p A cap := ⟨h.1.keep hb, h.2.1.keep hb, h.2.2⟩
theorem Doc.far {w wr w' : World} {ub room cap : Nat} {p : PL} {A : Option Addr} (h : Doc w wr ub room p A cap) (hf : Far wr w') : Doc w w' ub room p A cap := ⟨hf _ _ _ _ h.1 (by decide), h.2.1.far hf, h.2.2⟩
theorem Doc.drew {w wr : World} {ub room cap : Nat} {p : PL} {A : Option Addr} (h : Doc w wr ub room p A cap) : Doc w wr.drew ub room p A cap := ⟨h.1.drew, h.2.1.drew, h.2.2⟩
theorem Doc.c0 {w wr : World} {ub room cap : Nat} {p : PL} {A : Option Addr} (h : Doc w wr ub room p A cap) : wr.cell? ⟨ub, 0, none⟩ = some (.int .i64 (room : Nat)) := h.1.cell 0
theorem Doc.c1 {w wr : World} {ub room cap : Nat} {p : PL} {A : Option Addr} (h : Doc w wr ub room p A cap) : wr.cell? ⟨ub, 1, none⟩ = some (.slice A p.length cap) := h.1.cell 1
/-- and what it is next lies in the box vb -/
def Nxt (w wr : World) (t ub vb room : Nat) (p q : PL) (A A2 : Option Addr) (cap cap2 : Nat) : Prop :=
  Mine w wr t room q ∧ Doc w wr ub room p A cap ∧ Box wr vb 29 (tc room A2 q.length cap2) ∧ PR wr A2 q ∧ ub ≠ vb
theorem Nxt.over {w wr : World} {t ub vb room : Nat} {p q : PL} {A A2 : Option Addr} {cap cap2 : Nat} (h : Nxt w wr t ub vb room p q A A2 cap cap2) :
    Mine w ((wr.setCell ⟨ub, 0, none⟩ (.int .i64 (room : Nat))).setCell ⟨ub, 1, none⟩ (.slice A2 q.length cap2)) t room q ∧ Doc w ((wr.setCell ⟨ub, 0, none⟩ (.int .i64 (room : Nat))).setCell ⟨ub, 1, none⟩ (.slice A2 q.length cap2)) ub room q A2 cap2 :=
  ⟨Mine.set2 h.1 h.2.1.1 h.2.1.2.2 _ _, h.2.1.1.set2 _ _, h.2.2.2.1.set2 h.2.1.1 _ _, h.2.1.2.2⟩

theorem Nxt.made {w w4 w5 : World} {t ub room : Nat} {p q : PL} {A A2 : Option Addr} {cap cap2 : Nat} (H : Mine w w4 t room q) (D : Doc w w4 ub room p A cap) (hb : Below (w4.alloc (tbox 0 none 0 0)).drew.heap.size (w4.alloc (tbox 0 none 0 0)).drew w5) (hp : PR w5 A2 q) :
    Nxt w ((w5.setCell ⟨w4.heap.size, 0, none⟩ (.int .i64 (room : Nat))).setCell ⟨w4.heap.size, 1, none⟩ (.slice A2 q.length cap2)) t ub w4.heap.size room p q A A2 cap cap2 := by
  have BV : Box w5 w4.heap.size 29 (tc 0 none 0 0) := (Box.drew (Box.new w4 _ _)).keep hb
  have h1 : Mine w w5 t room q := (Mine.drew' (H.alloc (tbox 0 none 0 0))).below hb
  have h2 : Doc w w5 ub room p A cap := ((D.below ((Below.refl _ _).alloc (Nat.le_refl _) (tbox 0 none 0 0))).drew).below hb
  have hne : ub ≠ w4.heap.size := by have := D.1.lt; omega
  exact ⟨Mine.set2 h1 BV H.1.size _ _, ⟨h2.1.far2 hne _ _, h2.2.1.set2 BV _ _, h2.2.2⟩, BV.set2 _ _, hp.set2 BV _ _, hne⟩

theorem Nxt.made2 {w w4 w5 : World} {t ub room : Nat} {p q : PL} {A A2 : Option Addr} {cap cap2 : Nat} (H : Mine w w4 t room q) (D : Doc w w4 ub room p A cap) (hb : Below w4.drew.heap.size w4.drew w5) (hp : PR w5 A2 q) :
    Nxt w (w5.alloc (tbox room A2 q.length cap2)) t ub w5.heap.size room p q A A2 cap cap2 := by
  have h1 : Mine w w5 t room q := (Mine.drew' H).below hb
  have h2 : Doc w w5 ub room p A cap := D.drew.below hb
  have hne : ub ≠ w5.heap.size := by have := h2.1.lt; omega
  exact ⟨h1.alloc _, h2.below ((Below.refl _ _).alloc (Nat.le_refl _) _), Box.new _ _ _, hp.alloc _, hne⟩

set_option maxRecDepth 100000 in
set_option maxHeartbeats 4000000 in
theorem steps_law (R : Int) (hR : -9223372036854775808 ≤ R ∧ R < 9223372036854775808) (A : Option Addr) (cap : Nat) (L : List Act) (key : ByteArray) (w : World) (hD : Dos w A L) (hK : Keyed L) (hZ : L.length ≤ maxLen) (hk : key.size ≤ maxLen) :
    Calls Try.prog 3 #[.int .i64 R, .slice A L.length cap, .string key] w fun e w' => e = .returned (.bool true) ∧ Below w.heap.size w w' := by
  have hZ2 : L.length ≤ 9223372036854775807 := by unfold maxLen at hZ; omega
  have hk2 : key.size ≤ 9223372036854775807 := by unfold maxLen at hk; omega
  have HR := Lib.hid hR
  clear hZ hR
  by_cases h60 : 60 < L.length
  · have t1 : decide ((60 : Int) < (L.length : Int)) = true := decide_eq_true (by omega)
    clear hD hK
    go_enter Try.func3, Try.ntmps3
    go_wp2_with fail
    refine (known_calls _).mono ?_
    rintro e w8 ⟨rfl, hb8⟩
    go_wp2_with fail
    go_ret
    exact ⟨rfl, hb8⟩
  · have t1 : decide ((60 : Int) < (L.length : Int)) = false := decide_eq_false (by omega)
    have HD := Lib.hid hD
    have HK := Lib.hid hK
    have HKK := Lib.hid hk
    clear hD hK hk
    go_enter Try.func3, Try.ntmps3
    go_wp2_with fail
    refine (Long_calls A cap L w HD.out (by omega)).mono ?_
    rintro e w1 ⟨⟨m, rfl⟩, hb1⟩
    have B1 := Lib.hid hb1
    clear hb1
    by_cases h8 : 800 < m
    · go_wp2_with fail
      refine (known_calls _).mono ?_
      rintro e w8 ⟨rfl, hb8⟩
      go_wp2_with fail
      go_ret
      exact ⟨rfl, B1.out.trans (hb8.mono B1.out.size)⟩
    · by_cases h9 : 100 < key.size
      · go_wp2_with fail
        refine (known_calls _).mono ?_
        rintro e w8 ⟨rfl, hb8⟩
        go_wp2_with fail
        go_ret
        exact ⟨rfl, B1.out.trans (hb8.mono B1.out.size)⟩
      · go_wp2_with fail
        refine (mNew R HR.out B1.out).mono ?_
        rintro e w2 ⟨t, rfl, h2, -⟩
        have H2 : Hid (Mine w w2 t (clipR R) []) := Lib.hid h2
        clear h2 B1
        go_wp2_with fail
        refine (rnew_calls R HR.out w2).mono ?_
        rintro e w3 ⟨rfl, hb3⟩
        have hro := clipR_le R
        generalize clipR R = room at H2 hro ⊢
        have H3 : Hid (Mine w (w3.alloc (tbox room none 0 0)) t room []) := Lib.hid ((H2.out.below hb3).alloc _)
        have D3 : Hid (Doc w (w3.alloc (tbox room none 0 0)) w3.heap.size room [] none 0) := Lib.hid ⟨Box.new _ _ _, PR.nil _ _, by have := H2.out.1.size; have := hb3.size; omega⟩
        have HRO := Lib.hid hro
        clear hb3 H2 hro
        go_wp2_with fail
        generalize hub : w3.heap.size = ub at D3 ⊢
        clear hub
        go_loopw [9] (fun i wr => ∃ k : Nat, k ≤ L.length ∧ i = .int .i64 (k : Nat) ∧ Hid (∃ p A1 c1, Mine w wr t room p ∧ Sized p ∧ Doc w wr ub room p A1 c1)) (fun i _ => L.length - (intOf i).toNat)
        case atStart => exact ⟨0, Nat.zero_le _, rfl, _, _, _, H3.out, Sized.nil, D3.out⟩
        case round =>
          obtain ⟨k, hk, rfl, HM⟩ := hrel
          obtain ⟨p, A1, cap1, hM, hS, hDo⟩ := HM.out
          have HS := Lib.hid hS
          have D0 := Lib.hid hDo
          have HPL := Lib.hid (show p.length ≤ 10000 by have := hM.len_le; omega)
          clear HM hS hDo
          by_cases hlt : k < L.length
          · obtain ⟨a, rfl, c0, c1, c2⟩ := (HD.out.keep hM.1).at_ hlt
            have hkk := HK.out L[k] (List.getElem_mem hlt)
            have HAT := Lib.hid (fun (w' : World) (hb : Below w.heap.size w w') => (HD.out.keep hb).at_ hlt)
            generalize L[k] = d at c0 c1 c2 hkk HAT
            obtain ⟨kd, ky, nn⟩ := d
            simp only at c0 c1 c2 hkk
            have HKD := Lib.hid hkk
            have H0 := Lib.hid hM
            clear hM hkk
            go_wp2_with fail
            refine (mDid H0.out (kd, ky, nn) HKD.out).mono ?_
            rintro e w4 ⟨rfl, h4, f4⟩
            have HST := Lib.hid (fun W (hp : PR W A1 p) => rstep_calls room p A1 p.length cap1 (kd, ky, nn) W rfl hp HPL.out)
            have SQ := Lib.hid (HS.out.step (kd, ky, nn) HKD.out room)
            generalize (stepL room p (kd, ky, nn)).1 = q at h4 SQ HST
            generalize (stepL room p (kd, ky, nn)).2.2 = b at HST ⊢
            generalize (stepL room p (kd, ky, nn)).2.1 = x at HST ⊢
            have H4 := Lib.hid h4
            have D4 := Lib.hid (D0.out.far f4)
            have HQL := Lib.hid (show q.length ≤ 10000 by have := h4.len_le; omega)
            obtain ⟨a4, ea4, c40, c41, c42⟩ := HAT.out w4 h4.1
            injection ea4 with ea4
            subst ea4
            clear h4 f4 c0 c1 c2 H0 D0 HAT
            have i1 : (k : Int) < (L.length : Int) := by omega
            have i0 : ¬ (k : Int) < 0 := by omega
            have u0 := D4.out.c0
            have u1 := D4.out.c1
            go_upto_region 9 with (fail)
            go_cut [12, 13, 14] (fun s12 s13 s14 wx => ∃ vb A2 cap2, s12 = .pointer (some ⟨vb, 0, none⟩) ∧ s13 = .int .i64 x ∧ s14 = .bool b ∧ Hid (Nxt w wx t ub vb room p q A1 A2 cap1 cap2))
            case first =>
              have hubl := D4.out.1.lt
              have zb : (a.add (k * 3)).block < w4.heap.size := World.block_lt_of_cell? w4 _ c40
              go_region_with (go_at_call 14; first | (refine (HST.out _ D4.out.2.1.drew).mono ?_; rintro e w5 ⟨A5, n5, cap5, rfl, ⟨hn5, hp5⟩, hb5⟩; subst hn5; have HN5 := Lib.hid (Nxt.made2 (cap2 := cap5) H4.out D4.out hb5 hp5); clear hp5 hb5) | (refine (HST.out _ (D4.out.2.1.alloc _).drew).mono ?_; rintro e w5 ⟨A5, n5, cap5, rfl, ⟨hn5, hp5⟩, hb5⟩; subst hn5; have BV5 : Box w5 w4.heap.size 29 (tc 0 none 0 0) := (Box.drew (Box.new w4 _ _)).keep hb5; have v50 : w5.cell? ⟨w4.heap.size, 0, none⟩ = some (.int .i64 (0 : Nat)) := BV5.cell 0; have v51 : w5.cell? ⟨w4.heap.size, 1, none⟩ = some (.slice none 0 0) := BV5.cell 1; have vf0 := BV5.free 0; have vf1 := BV5.free 1; have HN5 := Lib.hid (Nxt.made (cap2 := cap5) H4.out D4.out hb5 hp5); clear hp5 hb5 BV5))
              all_goals
                go_wp2_with fail
                go_meet
                case rel => exact ⟨_, _, _, rfl, rfl, rfl, HN5.out⟩
            case rest =>
              obtain ⟨vb, A2, cap2, rfl, rfl, rfl, HC⟩ := hcut
              have NX := Lib.hid (show Nxt w wc t ub vb room p q A1 A2 cap1 cap2 from HC)
              clear H4 D4 c40 c41 c42 u0 u1 HC HST HS HPL HKD
              have v0 : wc.cell? ⟨vb, 0, none⟩ = some (.int .i64 (room : Nat)) := NX.out.2.2.1.cell 0
              have v1 : wc.cell? ⟨vb, 1, none⟩ = some (.slice A2 q.length cap2) := NX.out.2.2.1.cell 1
              have u0 := NX.out.2.1.c0
              have u1 := NX.out.2.1.c1
              have uf0 := NX.out.2.1.1.free 0
              have uf1 := NX.out.2.1.1.free 1
              have HO := Lib.hid NX.out.over
              go_wp2_with fail
              refine (mPeek HO.out.1 key HKK.out).mono ?_
              rintro e w6 ⟨rfl, h6, hb6⟩
              have H6 := Lib.hid h6
              have D6 := Lib.hid (HO.out.2.below hb6)
              clear h6 hb6 v0 v1 u0 u1 uf0 uf1 HO NX
              have u0 := D6.out.c0
              have u1 := D6.out.c1
              go_wp2_with fail
              refine (rpeek_calls room q A2 q.length cap2 key _ rfl D6.out.2.1 HQL.out).mono ?_
              rintro e w7 ⟨rfl, hb7⟩
              have H7 := Lib.hid (H6.out.below hb7)
              have D7 := Lib.hid (D6.out.below hb7)
              clear hb7 u0 u1 H6 D6
              go_wp2_with fail
              refine (mNext H7.out key HKK.out).mono ?_
              rintro e w8 ⟨rfl, h8, hb8⟩
              have H8 := Lib.hid h8
              have D8 := Lib.hid (D7.out.below hb8)
              clear h8 hb8 H7 D7
              have u0 := D8.out.c0
              have u1 := D8.out.c1
              go_wp2_with fail
              refine (rnext_calls room q A2 q.length cap2 key _ rfl D8.out.2.1 HQL.out).mono ?_
              rintro e w9 ⟨rfl, hb9⟩
              have H9 := Lib.hid (H8.out.below hb9)
              have D9 := Lib.hid (D8.out.below hb9)
              clear hb9 u0 u1 H8 D8
              have u0 := D9.out.c0
              have u1 := D9.out.c1
              generalize (nxt q key).1 = nk
              generalize (nxt q key).2 = nb
              generalize getv q key = gv
              generalize has q key = hs
              have tx : (x != x) = false := bne_self_eq_false x
              have tb : (b == b) = true := beq_self_eq_true b
              have tg : (gv != gv) = false := bne_self_eq_false gv
              have th : (hs == hs) = true := beq_self_eq_true hs
              have tn : (nk.toList == nk.toList) = true := str_eq rfl
              have tm : (nb == nb) = true := beq_self_eq_true nb
              have tl : ((q.length : Int) != (q.length : Int)) = false := bne_self_eq_false _
              go_upto_region 15 with (fail)
              go_cut [137] (fun s137 wx => s137 = .bool false ∧ Hid (Mine w wx t room q ∧ Doc w wx ub room q A2 cap2))
              case first =>
                refine wp_region_any (by kernel_rfl) ?_
                try (change wpAny _ _ _ _ _ _ _ (World.drew _))
                refine wpAny_take (i := 0) (v := ?_) rfl (by kernel_rfl) (by kernel_rfl) (by kernel_rfl) (fun _ _ _ h => h) (Or.inl ⟨by kernel_rfl, ?_⟩) ?_
                rotate_left 1
                focus (intro w; go_simp; try with_reducible rfl)
                refine wpAny_take (i := 1) (v := ?_) rfl (by kernel_rfl) (by kernel_rfl) (by kernel_rfl) (fun _ _ _ h => h) (Or.inl ⟨by kernel_rfl, ?_⟩) ?_
                rotate_left 1
                focus (intro w; go_simp; try with_reducible rfl)
                refine wpAny_take (i := 2) (v := ?_) rfl (by kernel_rfl) (by kernel_rfl) (by kernel_rfl) (fun _ _ _ h => h) (Or.inl ⟨by kernel_rfl, ?_⟩) ?_
                rotate_left 1
                focus (intro w; go_simp; try with_reducible rfl)
                refine wpAny_take (i := 3) (v := ?_) rfl (by kernel_rfl) (by kernel_rfl) (by kernel_rfl) (fun _ _ _ h => h) (Or.inl ⟨by kernel_rfl, ?_⟩) ?_
                rotate_left 1
                focus (intro w; go_simp; try with_reducible rfl)
                refine wpAny_take (i := 4) (v := ?_) rfl (by kernel_rfl) (by kernel_rfl) (by kernel_rfl) (fun _ _ _ h => h) (Or.inl ⟨by kernel_rfl, ?_⟩) ?_
                rotate_left 1
                focus (intro w; go_simp; try with_reducible rfl)
                refine wpAny_take (i := 5) (v := ?_) rfl (by kernel_rfl) (by kernel_rfl) (by kernel_rfl) (fun _ _ _ h => h) (Or.inl ⟨by kernel_rfl, ?_⟩) ?_
                rotate_left 1
                focus (intro w; go_simp; try with_reducible rfl)
                refine wpAny_take (i := 6) (v := ?_) rfl (by kernel_rfl) (by kernel_rfl) (by kernel_rfl) (fun _ _ _ h => h) (Or.inl ⟨by kernel_rfl, ?_⟩) ?_
                rotate_left 1
                focus (intro w; go_simp; try with_reducible rfl)
                refine wpAny_take (i := 7) (v := ?_) rfl (by kernel_rfl) (by kernel_rfl) (by kernel_rfl) (fun _ _ _ h => h) (Or.inl ⟨by kernel_rfl, ?_⟩) ?_
                rotate_left 1
                focus (intro w; go_simp; try with_reducible rfl)
                refine wpAny_take (i := 8) (v := ?_) rfl (by kernel_rfl) (by kernel_rfl) (by kernel_rfl) (fun _ _ _ h => h) (Or.inl ⟨by kernel_rfl, ?_⟩) ?_
                rotate_left 1
                focus (intro w; go_simp; try with_reducible rfl)
                refine wpAny_take (i := 9) (v := ?_) rfl (by kernel_rfl) (by kernel_rfl) (by kernel_rfl) (fun _ _ _ h => h) (Or.inl ⟨by kernel_rfl, ?_⟩) ?_
                rotate_left 1
                focus (intro w; go_simp; try with_reducible rfl)
                refine wpAny_take (i := 10) (v := ?_) rfl (by kernel_rfl) (by kernel_rfl) (by kernel_rfl) (fun _ _ _ h => h) (Or.inl ⟨by kernel_rfl, ?_⟩) ?_
                rotate_left 1
                focus (intro w; go_simp; try with_reducible rfl)
                refine wpAny_take (i := 11) (v := ?_) rfl (by kernel_rfl) (by kernel_rfl) (by kernel_rfl) (fun _ _ _ h => h) (Or.inl ⟨by kernel_rfl, ?_⟩) ?_
                rotate_left 1
                focus (intro w; go_simp; try with_reducible rfl)
                refine wpAny_take (i := 12) (v := ?_) rfl (by kernel_rfl) (by kernel_rfl) (by kernel_rfl) (fun _ _ _ h => h) (Or.inl ⟨by kernel_rfl, ?_⟩) ?_
                rotate_left 1
                focus (intro w; go_simp; try with_reducible rfl)
                refine wpAny_take (i := 13) (v := ?_) rfl (by kernel_rfl) (by kernel_rfl) (by kernel_rfl) (fun _ _ _ h => h) (Or.inl ⟨by kernel_rfl, ?_⟩) ?_
                rotate_left 1
                focus (intro w; go_simp; try with_reducible rfl)
                refine wpAny_take (i := 14) (v := ?_) rfl (by kernel_rfl) (by kernel_rfl) (by kernel_rfl) (fun _ _ _ h => h) (Or.inl ⟨by kernel_rfl, ?_⟩) ?_
                rotate_left 1
                focus (intro w; go_simp; try with_reducible rfl)
                refine wpAny_take (i := 15) (v := ?_) rfl (by kernel_rfl) (by kernel_rfl) (by kernel_rfl) (fun _ _ _ h => h) (Or.inl ⟨by kernel_rfl, ?_⟩) ?_
                rotate_left 1
                focus (intro w; go_simp; try with_reducible rfl)
                refine wpAny_take (i := 16) (v := ?_) rfl (by kernel_rfl) (by kernel_rfl) (by kernel_rfl) (fun _ _ _ h => h) (Or.inl ⟨by kernel_rfl, ?_⟩) ?_
                rotate_left 1
                focus (intro w; go_simp; try with_reducible rfl)
                refine wpAny_take (i := 17) (v := ?_) rfl (by kernel_rfl) (by kernel_rfl) (by kernel_rfl) (fun _ _ _ h => h) (Or.inl ⟨by kernel_rfl, ?_⟩) ?_
                rotate_left 1
                focus (intro w; go_simp; try with_reducible rfl)
                refine wpAny_take (i := 18) (v := ?_) rfl (by kernel_rfl) (by kernel_rfl) (by kernel_rfl) (fun _ _ _ h => h) (Or.inl ⟨by kernel_rfl, ?_⟩) ?_
                rotate_left 1
                focus (intro w; go_simp; try with_reducible rfl)
                refine wpAny_take (i := 19) (v := ?_) rfl (by kernel_rfl) (by kernel_rfl) (by kernel_rfl) (fun _ _ _ h => h) (Or.inl ⟨by kernel_rfl, ?_⟩) ?_
                rotate_left 1
                focus (intro w; go_simp; try with_reducible rfl)
                refine wpAny_take (i := 20) (v := ?_) rfl (by kernel_rfl) (by kernel_rfl) (by kernel_rfl) (fun _ _ _ h => h) (Or.inl ⟨by kernel_rfl, ?_⟩) ?_
                rotate_left 1
                focus (intro w; go_simp; try with_reducible rfl)
                refine wpAny_take (i := 21) (v := ?_) rfl (by kernel_rfl) (by kernel_rfl) (by kernel_rfl) (fun _ _ _ h => h) (Or.inl ⟨by kernel_rfl, ?_⟩) ?_
                rotate_left 1
                focus (intro w; go_simp; try with_reducible rfl)
                refine wpAny_take (i := 22) (v := ?_) rfl (by kernel_rfl) (by kernel_rfl) (by kernel_rfl) (fun _ _ _ h => h) (Or.inl ⟨by kernel_rfl, ?_⟩) ?_
                rotate_left 1
                focus (intro w; go_simp; try with_reducible rfl)
                refine wpAny_take (i := 23) (v := ?_) rfl (by kernel_rfl) (by kernel_rfl) (by kernel_rfl) (fun _ _ _ h => h) (Or.inl ⟨by kernel_rfl, ?_⟩) ?_
                rotate_left 1
                focus (intro w; go_simp; try with_reducible rfl)
                refine wpAny_take (i := 24) (v := ?_) rfl (by kernel_rfl) (by kernel_rfl) (by kernel_rfl) (fun _ _ _ h => h) (Or.inl ⟨by kernel_rfl, ?_⟩) ?_
                rotate_left 1
                focus (intro w; go_simp; try with_reducible rfl)
                refine wpAny_take (i := 25) (v := ?_) rfl (by kernel_rfl) (by kernel_rfl) (by kernel_rfl) (fun _ _ _ h => h) (Or.inl ⟨by kernel_rfl, ?_⟩) ?_
                rotate_left 1
                focus (intro w; go_simp; try with_reducible rfl)
                refine wpAny_take (i := 26) (v := ?_) rfl (by kernel_rfl) (by kernel_rfl) (by kernel_rfl) (fun _ _ _ h => h) (Or.inl ⟨by kernel_rfl, ?_⟩) ?_
                rotate_left 1
                focus (intro w; go_simp; try with_reducible rfl)
                refine wpAny_take (i := 27) (v := ?_) rfl (by kernel_rfl) (by kernel_rfl) (by kernel_rfl) (fun _ _ _ h => h) (Or.inl ⟨by kernel_rfl, ?_⟩) ?_
                rotate_left 1
                focus (intro w; go_simp; try with_reducible rfl)
                refine wpAny_take (i := 28) (v := ?_) rfl (by kernel_rfl) (by kernel_rfl) (by kernel_rfl) (fun _ _ _ h => h) (Or.inl ⟨by kernel_rfl, ?_⟩) ?_
                rotate_left 1
                focus (intro w; go_simp; try with_reducible rfl)
                refine wpAny_take (i := 29) (v := ?_) rfl (by kernel_rfl) (by kernel_rfl) (by kernel_rfl) (fun _ _ _ h => h) (Or.inl ⟨by kernel_rfl, ?_⟩) ?_
                rotate_left 1
                focus (intro w; go_simp; try with_reducible rfl)
                refine wpAny_ready (rs := [30, 31]) (by kernel_rfl) (by simp) ?_
                refine AllReady.cons rfl (fun K hK => ?_) (AllReady.cons rfl (fun K hK => ?_) AllReady.nil)
                · go_simp
                  go_wp2_with (go_at_call 20; refine (mKeys (Mine.drew' H9.out)).mono ?_; rintro e w10 ⟨A10, cap10, rfl, hr10, h10, hb10⟩; have H10 := Lib.hid h10; have R10 := Lib.hid hr10; have D10 := Lib.hid (D9.out.drew.below hb10); have x0 := D10.out.c0; have x1 := D10.out.c1; clear hr10 h10 hb10)
                  refine wpAny_ready (rs := [31]) (by kernel_rfl) (by simp) ?_
                  refine AllReady.cons rfl (fun K hK => ?_) AllReady.nil
                  go_simp
                  refine hK _ _ ?_
                  clear hK K
                  refine wpAny_ready (rs := [32]) (by kernel_rfl) (by simp) ?_
                  refine AllReady.cons rfl (fun K hK => ?_) AllReady.nil
                  go_simp
                  go_wp2_with (go_at_call 21; refine (rkeys_calls room q A2 q.length cap2 _ rfl D10.out.2.1 HQL.out).mono ?_; rintro e w11 ⟨A11, n11, cap11, rfl, hr11, hb11⟩; have H11 := Lib.hid (H10.out.below hb11); have R11 := Lib.hid (R10.out.below hb11); have S11 := Lib.hid hr11; have D11 := Lib.hid (D10.out.below hb11); have y0 := D11.out.c0; have y1 := D11.out.c1; clear hr11 hb11)
                  refine wpAny_ready (rs := [33]) (by kernel_rfl) (by simp) ?_
                  refine AllReady.cons rfl (fun K hK => ?_) AllReady.nil
                  go_simp
                  go_wp2_with (go_at_call 19; refine (mSame R11.out S11.out (by rw [List.length_map]; have := HQL.out; omega)).mono ?_; rintro e w12 ⟨rfl, hb12⟩; have H12 := Lib.hid (H11.out.below hb12); have D12 := Lib.hid (D11.out.below hb12); have z0 := D12.out.c0; have z1 := D12.out.c1; clear hb12)
                  refine wpAny_take (i := 34) (v := ?_) rfl (by kernel_rfl) (by kernel_rfl) (by kernel_rfl) (fun _ _ _ h => h) (Or.inl ⟨by kernel_rfl, ?_⟩) ?_
                  rotate_left 1
                  focus (intro w; go_simp; try with_reducible rfl)
                  refine wpAny_take (i := 35) (v := ?_) rfl (by kernel_rfl) (by kernel_rfl) (by kernel_rfl) (fun _ _ _ h => h) (Or.inl ⟨by kernel_rfl, ?_⟩) ?_
                  rotate_left 1
                  focus (intro w; go_simp; try with_reducible rfl)
                  refine wpAny_take (i := 36) (v := ?_) rfl (by kernel_rfl) (by kernel_rfl) (by kernel_rfl) (fun _ _ _ h => h) (Or.inl ⟨by kernel_rfl, ?_⟩) ?_
                  rotate_left 1
                  focus (intro w; go_simp; try with_reducible rfl)
                  refine wpAny_take (i := 37) (v := ?_) rfl (by kernel_rfl) (by kernel_rfl) (by kernel_rfl) (fun _ _ _ h => h) (Or.inl ⟨by kernel_rfl, ?_⟩) ?_
                  rotate_left 1
                  focus (intro w; go_simp; try with_reducible rfl)
                  refine wpAny_take (i := 39) (v := ?_) rfl (by kernel_rfl) (by kernel_rfl) (by kernel_rfl) (fun _ _ _ h => h) (Or.inl ⟨by kernel_rfl, ?_⟩) ?_
                  rotate_left 1
                  focus (intro w; go_simp; try with_reducible rfl)
                  refine wpAny_ready (rs := [38, 40]) (by kernel_rfl) (by simp) ?_
                  refine AllReady.cons rfl (fun K hK => ?_) (AllReady.cons rfl (fun K hK => ?_) AllReady.nil)
                  · go_simp
                    go_wp2_with (go_at_call 22; refine (mLen H12.out).mono ?_; rintro e w13 ⟨rfl, e13⟩; subst e13)
                    refine wpAny_ready (rs := [40]) (by kernel_rfl) (by simp) ?_
                    refine AllReady.cons rfl (fun K hK => ?_) AllReady.nil
                    go_simp
                    refine hK _ _ ?_
                    clear hK K
                    refine wpAny_take (i := 41) (v := ?_) rfl (by kernel_rfl) (by kernel_rfl) (by kernel_rfl) (fun _ _ _ h => h) (Or.inl ⟨by kernel_rfl, ?_⟩) ?_
                    rotate_left 1
                    focus (intro w; go_simp; try with_reducible rfl)
                    refine wpAny_take (i := 42) (v := ?_) rfl (by kernel_rfl) (by kernel_rfl) (by kernel_rfl) (fun _ _ _ h => h) (Or.inl ⟨by kernel_rfl, ?_⟩) ?_
                    rotate_left 1
                    focus (intro w; go_simp; try with_reducible rfl)
                    refine wpAny_take (i := 43) (v := ?_) rfl (by kernel_rfl) (by kernel_rfl) (by kernel_rfl) (fun _ _ _ h => h) (Or.inl ⟨by kernel_rfl, ?_⟩) ?_
                    rotate_left 1
                    focus (intro w; go_simp; try with_reducible rfl)
                    refine wpAny_done (by kernel_rfl) ?_ _
                    go_wp2_with fail
                    go_meet
                    case rel => exact ⟨rfl, H12.out, D12.out⟩
                  · go_simp
                    refine hK _ _ ?_
                    clear hK K
                    refine wpAny_take (i := 41) (v := ?_) rfl (by kernel_rfl) (by kernel_rfl) (by kernel_rfl) (fun _ _ _ h => h) (Or.inl ⟨by kernel_rfl, ?_⟩) ?_
                    rotate_left 1
                    focus (intro w; go_simp; try with_reducible rfl)
                    refine wpAny_ready (rs := [38]) (by kernel_rfl) (by simp) ?_
                    refine AllReady.cons rfl (fun K hK => ?_) AllReady.nil
                    go_simp
                    go_wp2_with (go_at_call 22; refine (mLen H12.out).mono ?_; rintro e w13 ⟨rfl, e13⟩; subst e13)
                    refine wpAny_take (i := 42) (v := ?_) rfl (by kernel_rfl) (by kernel_rfl) (by kernel_rfl) (fun _ _ _ h => h) (Or.inl ⟨by kernel_rfl, ?_⟩) ?_
                    rotate_left 1
                    focus (intro w; go_simp; try with_reducible rfl)
                    refine wpAny_take (i := 43) (v := ?_) rfl (by kernel_rfl) (by kernel_rfl) (by kernel_rfl) (fun _ _ _ h => h) (Or.inl ⟨by kernel_rfl, ?_⟩) ?_
                    rotate_left 1
                    focus (intro w; go_simp; try with_reducible rfl)
                    refine wpAny_done (by kernel_rfl) ?_ _
                    go_wp2_with fail
                    go_meet
                    case rel => exact ⟨rfl, H12.out, D12.out⟩
                · go_simp
                  refine hK _ _ ?_
                  clear hK K
                  refine wpAny_ready (rs := [30]) (by kernel_rfl) (by simp) ?_
                  refine AllReady.cons rfl (fun K hK => ?_) AllReady.nil
                  go_simp
                  go_wp2_with (go_at_call 20; refine (mKeys (Mine.drew' H9.out)).mono ?_; rintro e w10 ⟨A10, cap10, rfl, hr10, h10, hb10⟩; have H10 := Lib.hid h10; have R10 := Lib.hid hr10; have D10 := Lib.hid (D9.out.drew.below hb10); have x0 := D10.out.c0; have x1 := D10.out.c1; clear hr10 h10 hb10)
                  refine wpAny_ready (rs := [32]) (by kernel_rfl) (by simp) ?_
                  refine AllReady.cons rfl (fun K hK => ?_) AllReady.nil
                  go_simp
                  go_wp2_with (go_at_call 21; refine (rkeys_calls room q A2 q.length cap2 _ rfl D10.out.2.1 HQL.out).mono ?_; rintro e w11 ⟨A11, n11, cap11, rfl, hr11, hb11⟩; have H11 := Lib.hid (H10.out.below hb11); have R11 := Lib.hid (R10.out.below hb11); have S11 := Lib.hid hr11; have D11 := Lib.hid (D10.out.below hb11); have y0 := D11.out.c0; have y1 := D11.out.c1; clear hr11 hb11)
                  refine wpAny_ready (rs := [33]) (by kernel_rfl) (by simp) ?_
                  refine AllReady.cons rfl (fun K hK => ?_) AllReady.nil
                  go_simp
                  go_wp2_with (go_at_call 19; refine (mSame R11.out S11.out (by rw [List.length_map]; have := HQL.out; omega)).mono ?_; rintro e w12 ⟨rfl, hb12⟩; have H12 := Lib.hid (H11.out.below hb12); have D12 := Lib.hid (D11.out.below hb12); have z0 := D12.out.c0; have z1 := D12.out.c1; clear hb12)
                  refine wpAny_take (i := 34) (v := ?_) rfl (by kernel_rfl) (by kernel_rfl) (by kernel_rfl) (fun _ _ _ h => h) (Or.inl ⟨by kernel_rfl, ?_⟩) ?_
                  rotate_left 1
                  focus (intro w; go_simp; try with_reducible rfl)
                  refine wpAny_take (i := 35) (v := ?_) rfl (by kernel_rfl) (by kernel_rfl) (by kernel_rfl) (fun _ _ _ h => h) (Or.inl ⟨by kernel_rfl, ?_⟩) ?_
                  rotate_left 1
                  focus (intro w; go_simp; try with_reducible rfl)
                  refine wpAny_take (i := 36) (v := ?_) rfl (by kernel_rfl) (by kernel_rfl) (by kernel_rfl) (fun _ _ _ h => h) (Or.inl ⟨by kernel_rfl, ?_⟩) ?_
                  rotate_left 1
                  focus (intro w; go_simp; try with_reducible rfl)
                  refine wpAny_take (i := 37) (v := ?_) rfl (by kernel_rfl) (by kernel_rfl) (by kernel_rfl) (fun _ _ _ h => h) (Or.inl ⟨by kernel_rfl, ?_⟩) ?_
                  rotate_left 1
                  focus (intro w; go_simp; try with_reducible rfl)
                  refine wpAny_take (i := 39) (v := ?_) rfl (by kernel_rfl) (by kernel_rfl) (by kernel_rfl) (fun _ _ _ h => h) (Or.inl ⟨by kernel_rfl, ?_⟩) ?_
                  rotate_left 1
                  focus (intro w; go_simp; try with_reducible rfl)
                  refine wpAny_ready (rs := [38, 40]) (by kernel_rfl) (by simp) ?_
                  refine AllReady.cons rfl (fun K hK => ?_) (AllReady.cons rfl (fun K hK => ?_) AllReady.nil)
                  · go_simp
                    go_wp2_with (go_at_call 22; refine (mLen H12.out).mono ?_; rintro e w13 ⟨rfl, e13⟩; subst e13)
                    refine wpAny_ready (rs := [40]) (by kernel_rfl) (by simp) ?_
                    refine AllReady.cons rfl (fun K hK => ?_) AllReady.nil
                    go_simp
                    refine hK _ _ ?_
                    clear hK K
                    refine wpAny_take (i := 41) (v := ?_) rfl (by kernel_rfl) (by kernel_rfl) (by kernel_rfl) (fun _ _ _ h => h) (Or.inl ⟨by kernel_rfl, ?_⟩) ?_
                    rotate_left 1
                    focus (intro w; go_simp; try with_reducible rfl)
                    refine wpAny_take (i := 42) (v := ?_) rfl (by kernel_rfl) (by kernel_rfl) (by kernel_rfl) (fun _ _ _ h => h) (Or.inl ⟨by kernel_rfl, ?_⟩) ?_
                    rotate_left 1
                    focus (intro w; go_simp; try with_reducible rfl)
                    refine wpAny_take (i := 43) (v := ?_) rfl (by kernel_rfl) (by kernel_rfl) (by kernel_rfl) (fun _ _ _ h => h) (Or.inl ⟨by kernel_rfl, ?_⟩) ?_
                    rotate_left 1
                    focus (intro w; go_simp; try with_reducible rfl)
                    refine wpAny_done (by kernel_rfl) ?_ _
                    go_wp2_with fail
                    go_meet
                    case rel => exact ⟨rfl, H12.out, D12.out⟩
                  · go_simp
                    refine hK _ _ ?_
                    clear hK K
                    refine wpAny_take (i := 41) (v := ?_) rfl (by kernel_rfl) (by kernel_rfl) (by kernel_rfl) (fun _ _ _ h => h) (Or.inl ⟨by kernel_rfl, ?_⟩) ?_
                    rotate_left 1
                    focus (intro w; go_simp; try with_reducible rfl)
                    refine wpAny_ready (rs := [38]) (by kernel_rfl) (by simp) ?_
                    refine AllReady.cons rfl (fun K hK => ?_) AllReady.nil
                    go_simp
                    go_wp2_with (go_at_call 22; refine (mLen H12.out).mono ?_; rintro e w13 ⟨rfl, e13⟩; subst e13)
                    refine wpAny_take (i := 42) (v := ?_) rfl (by kernel_rfl) (by kernel_rfl) (by kernel_rfl) (fun _ _ _ h => h) (Or.inl ⟨by kernel_rfl, ?_⟩) ?_
                    rotate_left 1
                    focus (intro w; go_simp; try with_reducible rfl)
                    refine wpAny_take (i := 43) (v := ?_) rfl (by kernel_rfl) (by kernel_rfl) (by kernel_rfl) (fun _ _ _ h => h) (Or.inl ⟨by kernel_rfl, ?_⟩) ?_
                    rotate_left 1
                    focus (intro w; go_simp; try with_reducible rfl)
                    refine wpAny_done (by kernel_rfl) ?_ _
                    go_wp2_with fail
                    go_meet
                    case rel => exact ⟨rfl, H12.out, D12.out⟩
              case rest =>
                obtain ⟨rfl, HC⟩ := hcut
                clear H9 D9 u0 u1 tx tb tg th tn tm tl
                cases q with
                | nil =>
                  have H14 : Hid (Mine w wc t room []) := Lib.hid HC.out.1
                  have D14 : Hid (Doc w wc ub room [] A2 cap2) := Lib.hid HC.out.2
                  clear HC
                  go_wp2_with fail
                  refine (mOldest0 H14.out).mono ?_
                  rintro e w15 ⟨rfl, h15, hb15⟩
                  have H15 := Lib.hid h15
                  have D15 := Lib.hid (D14.out.below hb15)
                  clear h15 hb15 H14 D14
                  have u1 : w15.cell? ⟨ub, 1, none⟩ = some (.slice A2 0 cap2) := D15.out.c1
                  go_wp2_with fail
                  go_roundw
                  case rel => exact ⟨k + 1, by omega, by go_num, [], A2, cap2, H15.out, SQ.out, D15.out⟩
                  case measure => simp [intOf]; omega
                | cons e r =>
                  obtain ⟨kq, vq⟩ := e
                  have H14 : Hid (Mine w wc t room ((kq, vq) :: r)) := Lib.hid HC.out.1
                  have D14 : Hid (Doc w wc ub room ((kq, vq) :: r) A2 cap2) := Lib.hid HC.out.2
                  clear HC
                  go_wp2_with fail
                  refine (mOldest1 H14.out).mono ?_
                  rintro e w15 ⟨rfl, h15, hb15⟩
                  have H15 := Lib.hid h15
                  have D15 := Lib.hid (D14.out.below hb15)
                  clear h15 hb15 H14 D14
                  have u1 : w15.cell? ⟨ub, 1, none⟩ = some (.slice A2 (r.length + 1) cap2) := D15.out.c1
                  obtain ⟨a2, ea2, q0, q1⟩ := D15.out.2.1.1.at_ (i := 0) (by simp)
                  subst ea2
                  have e0 : a2.add (0 * 2) = a2 := by simp [Addr.add]
                  rw [e0] at q0 q1
                  simp only [List.getElem_cons_zero] at q0 q1
                  have j1 : (0 : Int) < (r.length : Int) + 1 := by omega
                  go_wp2_with fail
                  go_roundw
                  case rel => exact ⟨k + 1, by omega, by go_num, (kq, vq) :: r, _, cap2, H15.out, SQ.out, D15.out⟩
                  case measure => simp [intOf]; omega
          · have H3 := Lib.hid hM
            clear hM
            go_wp2_with fail
            refine (known_calls _).mono ?_
            rintro e w8 ⟨rfl, hb8⟩
            have H8 := Lib.hid (H3.out.below hb8)
            clear hb8
            go_wp2_with fail
            go_ret
            exact ⟨rfl, H8.out.1⟩

end Pr
end Go.Proofs.Ytdnaecmihgcelaa.Tb
