/-
  The walk of RespFeeds.
-/
import Derived.Test.YtgjedhdnnfdcgaaRspFed
namespace Go.Proofs.Ytgjedhdnnfdcgaa.Rp
open Go.RowKit
open Gw

theorem len_take_sum {l : List Bytes} {k : Nat} (h : k < l.length) : (l.take (k + 1)).flatten.length = (l.take k).flatten.length + (l[k]).length := by
  rw [flat_take h, List.length_append]
/-- the loop's relation -/
def FeedInv (C : RC) (l : List Bytes) (w : World) (v : Nat) (told i : Value) (wr : World) : Prop :=
  ∃ k td : Nat, k ≤ l.length ∧ i = .int .i64 (k : Nat) ∧ told = .int .i64 (td : Nat) ∧ td ≤ 1048576 ∧ Hid (td = (cmds (l.take k).flatten).length) ∧ Hid (∃ own, One C w wr own v (l.take k).flatten)

set_option maxHeartbeats 4000000 in
set_option maxRecDepth 100000 in
theorem feeds_law (C : RC) (A : Option Addr) (cap : Nat) (l : List Bytes) (w : World) (hA : BRows (fun x => x < w.heap.size) w A l) (hAc : l.length ≤ cap) (hs : l.length + l.flatten.length ≤ 1048576) :
    Calls Try.prog 3 #[.slice A l.length cap] w fun e w' => e = .returned (.bool true) ∧ Below w.heap.size w w' := by
  have HA := Lib.hid hA
  clear hA
  go_enter Try.func3, Try.ntmps3
  go_wp2_with fail
  go_loopw [3, 4] (fun n i wr => ∃ k s : Nat, k ≤ l.length ∧ i = .int .i64 (k : Nat) ∧ n = .int .i64 (s : Nat) ∧ s ≤ 1048576 ∧ wr = w ∧ Hid (s = (l.take k).flatten.length)) (fun _ i _ => l.length - (intOf i).toNat)
  case atStart => exact ⟨0, 0, Nat.zero_le _, rfl, rfl, by omega, rfl, Lib.hid (by simp)⟩
  case round =>
    obtain ⟨k, s, hk, rfl, rfl, hs2, rfl, HS⟩ := hrel
    by_cases hlt : k < l.length
    · obtain ⟨a, rfl, -, X, xc, c0, -⟩ := HA.out.at_ hlt
      have E := Lib.hid (len_take_sum hlt)
      have hfl := flat_le l (k + 1)
      have hs3 : s + (l[k]).length ≤ 1048576 := by have := E.out; have := HS.out; omega
      have i1 : (k : Int) < (l.length : Int) := by omega
      generalize hxn : (l[k]).length = xn at c0 E hs3
      clear hxn
      go_wp2_with fail
      go_roundw
      case rel => exact ⟨k + 1, s + xn, by omega, by go_num, by go_num, hs3, trivial, Lib.hid (by rw [E.out, ← HS.out])⟩
      case measure => simp [intOf]; omega
    · have hke : l.take k = l := List.take_of_length_le (by omega)
      have i1 : ¬ (k : Int) < (l.length : Int) := by omega
      by_cases h1 : 30 < l.length
      · have t1 : (30 : Int) < (l.length : Int) := by omega
        clear h1 hlt hke
        go_wp2_with fail
        refine (known_calls C _).mono ?_
        rintro e w9 ⟨rfl, hk9⟩
        have HB9 := Lib.hid hk9
        clear hk9
        go_wp2_with fail
        go_ret
        exact ⟨rfl, HB9.out⟩
      · have t1 : ¬ (30 : Int) < (l.length : Int) := by omega
        by_cases h2 : 600 < s
        · have t2 : (600 : Int) < (s : Int) := by omega
          clear h1 h2 hlt hke
          go_wp2_with fail
          refine (known_calls C _).mono ?_
          rintro e w9 ⟨rfl, hk9⟩
          have HB9 := Lib.hid hk9
          clear hk9
          go_wp2_with fail
          go_ret
          exact ⟨rfl, HB9.out⟩
        · have t2 : ¬ (600 : Int) < (s : Int) := by omega
          have hfl : l.flatten.length ≤ 600 := by have := HS.out; rw [hke] at this; omega
          clear h1 h2 hlt hke HS hs2
          go_wp2_with fail
          refine (C.new_ _).mono ?_
          rintro e w1 ⟨v, o1, rfl, a1, b1, l1⟩
          have HO1 : Hid (∃ own, One C wr w1 own v (l.take 0).flatten) := Lib.hid ⟨o1, b1, a1, l1⟩
          clear a1 b1 l1
          go_wp2_with fail
          go_loopw [6, 7] (fun td i wx => FeedInv C l wr v td i wx) (fun _ i _ => l.length - (intOf i).toNat)
          case atStart => exact ⟨0, 0, Nat.zero_le _, rfl, rfl, by omega, Lib.hid rfl, HO1⟩
          case round =>
            clear HO1
            rename World => w2
            obtain ⟨k, td, hk, rfl, rfl, htd, HTD, HO⟩ := hrel
            obtain ⟨own, ho⟩ := Hid.out HO
            have HOO := Lib.hid ho
            clear HO ho
            by_cases hlt : k < l.length
            · obtain ⟨a, ea, -, X, xc, c0, hx⟩ := (HA.out.goes HOO.out.begun).at_ hlt
              subst ea
              have E := Lib.hid (flat_take hlt)
              have hfl2 := flat_le l (k + 1)
              rw [E.out, List.length_append] at hfl2
              have HTK := Lib.hid (HA.out.take (k + 1))
              have htl : k + 1 = (l.take (k + 1)).length := by rw [List.length_take]; omega
              have HTL := Lib.hid htl
              have i1 : (k : Int) < (l.length : Int) := by omega
              have hkc : k + 1 ≤ cap := by omega
              generalize l[k] = x at c0 hx E hfl2
              generalize hb0 : (l.take k).flatten = b0 at HOO HTD E hfl2
              obtain ⟨bs, hbs⟩ : ∃ bs, bs = b0 ++ x := ⟨_, rfl⟩
              have hbl : bs.length ≤ 600 := by rw [hbs, List.length_append]; omega
              have hcn := cmds_news b0 x
              rw [← hbs] at E hcn
              have hcl := cmds_len bs
              have HX := Lib.hid hx
              have HCN := Lib.hid hcn
              obtain ⟨xn, hxn⟩ : ∃ xn, xn = x.length := ⟨_, rfl⟩
              rw [← hxn] at c0 hfl2
              have HXN := Lib.hid hxn
              have HBS := Lib.hid hbs
              clear hx hcn hxn hb0 htl hbs
              go_wp2_with fail
              have hf := C.feed_ HOO.out.2.1 X xc x HX.out (by rw [← HXN.out]; omega)
              rw [← HXN.out, ← HBS.out] at hf
              refine hf.mono ?_
              clear hf
              rintro e w3 ⟨own', A3, c3, L3, rfl, -, hL3, hH3, a3, k3⟩
              have HO3 := Lib.hid (HOO.out.turn a3 k3)
              have hr3 := (hH3.mono (fun _ h => h.1)).rows
              rw [hL3] at hr3
              have HR3 := Lib.hid hr3
              have hn3 : L3.length = (news b0 x).length := by rw [← hL3, List.length_map]
              rw [hn3]
              obtain ⟨n3, hn⟩ : ∃ n3, n3 = (news b0 x).length := ⟨_, rfl⟩
              rw [← hn]
              have HN3 := Lib.hid hn
              have HJ : Hid (BRows (fun x => x < w3.heap.size) w3 (some a) (l.take (k + 1))) := Lib.hid (HTK.out.goes fun x hx => ⟨(HO3.out.begun x hx).1, (HO3.out.begun x hx).2.1⟩)
              have HFL : Hid ((l.take (k + 1)).flatten.length ≤ 1048576) := Lib.hid (by rw [E.out]; omega)
              have HTLL : Hid ((l.take (k + 1)).length ≤ 1048576) := Lib.hid (by rw [← HTL.out]; omega)
              clear hL3 hH3 a3 k3 hr3 hn3 hn HOO HX
              go_wp2_with fail
              refine (join_calls (some a) cap (k + 1) (l.take (k + 1)) _ HJ.out HTL.out HTLL.out HFL.out).mono ?_
              rintro e w4 ⟨bv, rfl, hbr, hb4⟩
              rw [E.out] at hbr
              have HO4 := Lib.hid (HO3.out.below hb4)
              have HR34 := Lib.hid (HR3.out.keep hb4)
              obtain ⟨V4, vc4, rfl, hbt4, hbc4, -, -⟩ := hbr.view
              have HBT4 := Lib.hid hbt4
              obtain ⟨m, hm⟩ : ∃ m, m = bs.length := ⟨_, rfl⟩
              have hw := whole_calls V4 vc4 bs w4 HBT4.out (by omega) hbc4
              rw [← hm] at hw hbl ⊢
              have HM := Lib.hid hm
              have HW := Lib.hid hw
              clear hbr hb4 hbt4 hbc4 hm hw HO3 HR3 HJ HFL HTLL
              go_wp2_with fail
              refine HW.out.mono ?_
              rintro e w5 ⟨⟨A5, c5, L5, rfl, hL5, hrr, hrd⟩, hb5⟩
              obtain ⟨A6, c6, e6, hv⟩ := hrr.view hrd
              injection e6 with e61 e62 e63
              subst e61
              rw [hL5] at hv
              have hn5 : L5.length = (cmds bs).length := by rw [← hL5, List.length_map]
              rw [hn5]
              obtain ⟨q, hq⟩ : ∃ q, q = (cmds bs).length := ⟨_, rfl⟩
              rw [← hq]
              have HQ := Lib.hid hq
              have hqs : q = td + n3 := by rw [hq, HCN.out, List.length_append, HTD.out, HN3.out]
              have HTQ := Lib.hid hqs
              have eq3 : (q : Int) - (td : Int) = (n3 : Int) := by omega
              have hq2 : q ≤ 1048576 := by rw [hq]; have := HM.out; omega
              have HO6 := Lib.hid (HO4.out.below hb5)
              have HR36 := Lib.hid (HR34.out.keep hb5)
              have HR46 := Lib.hid hv
              have HBL : Hid (bs.length ≤ 1048576) := Lib.hid (by rw [← HM.out]; omega)
              have hub := (canon bs).1
              have HWE : Hid ((wrong bs = true ∧ errI bs = 7 ∧ leftI bs = 0) ∨ (wrong bs = false ∧ errI bs = 0 ∧ (leftI bs : Int) = (m : Int) - (used bs : Int))) := Lib.hid (by
                unfold errI leftI
                have := HM.out
                cases wrong bs
                · right; simp; omega
                · left; simp)
              have HIX : Hid (∀ kk (h : kk < (news b0 x).length) (h2 : td + kk < (cmds bs).length), (cmds bs)[td + kk] = (news b0 x)[kk]) := Lib.hid (fun kk h h2 => by
                have h3 := HCN.out
                have h4 := HTD.out
                subst h4
                have h5 : (cmds bs)[(cmds b0).length + kk]? = (news b0 x)[kk]? := by
                  rw [h3, List.getElem?_append_right (by omega)]
                  congr 1
                  omega
                rw [List.getElem?_eq_getElem h2, List.getElem?_eq_getElem h] at h5
                injection h5)
              have HFT : Hid (∀ y ∈ news b0 x, y.length ≤ 1048576) := Lib.hid (fun y hy => cmds_fit bs y (by rw [HCN.out]; exact List.mem_append.2 (.inr hy)))
              rw [← HM.out] at hub
              clear hL5 hrr hrd hb5 e62 e63 hv hn5 hq hqs hcl HO4 HR34 HBT4 HW c0
              rcases HWE.out with ⟨g1, g2, g3⟩ | ⟨g1, g2, g3⟩
              · rw [g1, g2]
                have HG1 := Lib.hid g1
                have HG3 := Lib.hid g3
                clear g1 g2 g3 HWE
                go_wp2_with fail
                refine (C.wrong_ HO6.out.2.1 HBL.out).mono ?_
                rw [HG1.out]
                rintro e w6 ⟨rfl, hb6⟩
                have HO7 := Lib.hid (HO6.out.below hb6)
                have HR37 := Lib.hid (HR36.out.keep hb6)
                have HR47 := Lib.hid (HR46.out.keep hb6)
                clear hb6 HO6 HR36 HR46
                go_wp2_with fail
                refine (C.left_ HO7.out.2.1 HBL.out).mono ?_
                rw [HG3.out]
                rintro e w6 ⟨rfl, hb6⟩
                have HO6 := Lib.hid (HO7.out.below hb6)
                have HR3 := Lib.hid (HR37.out.keep hb6)
                have HR4 := Lib.hid (HR47.out.keep hb6)
                clear hb6 HO7 HR37 HR47
                go_wp2_with fail

                go_loopw [15] (fun i wx => ∃ kk : Nat, kk ≤ n3 ∧ i = .int .i64 (kk : Nat) ∧ Hid (Below w6.heap.size w6 wx)) (fun i _ => n3 - (intOf i).toNat)
                case atStart => exact ⟨0, Nat.zero_le _, rfl, Lib.hid (Below.refl _ _)⟩
                case round =>
                  rename World => w7
                  obtain ⟨kk, hkk, rfl, HI⟩ := hrel
                  by_cases hlt3 : kk < n3
                  · obtain ⟨a3, rfl, B3, d3, e3, ht3, -⟩ := (HR3.out.keep HI.out).at_ (show kk < (news b0 x).length by have := HN3.out; omega)
                    obtain ⟨a4, rfl, B4, d4, e4, ht4, -⟩ := (HR4.out.keep HI.out).at_ (show td + kk < (cmds bs).length by have := HQ.out; have := HN3.out; have := HTQ.out; omega)
                    have hsame : (cmds bs)[td + kk]'(by have := HQ.out; have := HN3.out; have := HTQ.out; omega) = (news b0 x)[kk]'(by have := HN3.out; omega) := HIX.out kk (by have := HN3.out; omega) _
                    rw [hsame] at e4 ht4
                    have hfx := HFT.out _ (List.getElem_mem (show kk < (news b0 x).length by have := HN3.out; omega))
                    generalize (news b0 x)[kk]'(by have := HN3.out; omega) = y at e3 ht3 e4 ht4 hfx
                    obtain ⟨yn, hyn⟩ : ∃ yn, yn = y.length := ⟨_, rfl⟩
                    rw [← hyn] at e3 e4
                    have HS : ∀ w', Hid (Below w7.heap.size w7 w' → Calls Try.prog 17 #[.slice B3 yn d3, .slice B4 yn d4] w' fun e w'' => e = .returned (.bool true) ∧ Below w'.heap.size w' w'') := fun w' => Lib.hid (fun hb => by
                      have := same_true B3 B4 d3 d4 (y.map bat) w' (ht3.keep hb) (ht4.keep hb) (by rw [List.length_map]; exact hfx)
                      rw [List.length_map, ← hyn] at this
                      exact this)
                    have g0 : ∀ g : Grow w7, g.w.cell? (a3.add kk) = some (.slice B3 yn d3) := fun g => g.keep e3
                    have g1 : ∀ g : Grow w7, g.w.cell? (a4.add (td + kk)) = some (.slice B4 yn d4) := fun g => g.keep e4
                    obtain ⟨tk, htk⟩ : ∃ tk, tk = td + kk := ⟨_, rfl⟩
                    rw [← htk] at g1
                    have etk : (td : Int) + (kk : Int) = (tk : Int) := by omega
                    have j3 : (kk : Int) < (n3 : Int) := by omega
                    have j4 : (tk : Int) < (q : Int) := by have := HTQ.out; omega
                    clear hsame hfx hyn e3 e4 ht3 ht4 htk
                    go_wp2_with fail
                    refine wp_region_grow (by kernel_rfl) (by kernel_rfl) ?_
                    repeat (go_big_quiet_step ((go_at_call 17; exact grow_call ((HS _).out (Grow.below _)))))
                    refine wpQuiet_nil ?_
                    intro _ hw'
                    obtain ⟨gq, hw''⟩ := hw'
                    subst hw''
                    have HI2 := Lib.hid (HI.out.trans (gq.below.mono HI.out.size))
                    clear g0 g1
                    go_wp2_with fail
                    go_roundw
                    case rel => exact ⟨kk + 1, by omega, by go_num, HI2⟩
                    case measure => simp [intOf]; omega
                  · have j3 : ¬ (kk : Int) < (n3 : Int) := by omega
                    clear hlt3
                    go_wp2_with fail
                    go_roundw
                    case rel => exact ⟨k + 1, q, by omega, by go_num, rfl, hq2, Lib.hid (by rw [E.out]; exact HQ.out), Lib.hid ⟨own', by rw [E.out]; exact HO6.out.below HI.out⟩⟩
                    case measure => simp [intOf]; omega
              · rw [g1, g2]
                have HG1 := Lib.hid g1
                have HG3 := Lib.hid g3
                clear g1 g2 g3 HWE
                go_wp2_with fail
                refine (C.wrong_ HO6.out.2.1 HBL.out).mono ?_
                rw [HG1.out]
                rintro e w6 ⟨rfl, hb6⟩
                have HO7 := Lib.hid (HO6.out.below hb6)
                have HR37 := Lib.hid (HR36.out.keep hb6)
                have HR47 := Lib.hid (HR46.out.keep hb6)
                clear hb6 HO6 HR36 HR46
                go_wp2_with fail
                refine (C.left_ HO7.out.2.1 HBL.out).mono ?_
                rw [HG3.out]
                rintro e w6 ⟨rfl, hb6⟩
                have HO6 := Lib.hid (HO7.out.below hb6)
                have HR3 := Lib.hid (HR37.out.keep hb6)
                have HR4 := Lib.hid (HR47.out.keep hb6)
                clear hb6 HO7 HR37 HR47
                go_wp2_with fail

                go_loopw [15] (fun i wx => ∃ kk : Nat, kk ≤ n3 ∧ i = .int .i64 (kk : Nat) ∧ Hid (Below w6.heap.size w6 wx)) (fun i _ => n3 - (intOf i).toNat)
                case atStart => exact ⟨0, Nat.zero_le _, rfl, Lib.hid (Below.refl _ _)⟩
                case round =>
                  rename World => w7
                  obtain ⟨kk, hkk, rfl, HI⟩ := hrel
                  by_cases hlt3 : kk < n3
                  · obtain ⟨a3, rfl, B3, d3, e3, ht3, -⟩ := (HR3.out.keep HI.out).at_ (show kk < (news b0 x).length by have := HN3.out; omega)
                    obtain ⟨a4, rfl, B4, d4, e4, ht4, -⟩ := (HR4.out.keep HI.out).at_ (show td + kk < (cmds bs).length by have := HQ.out; have := HN3.out; have := HTQ.out; omega)
                    have hsame : (cmds bs)[td + kk]'(by have := HQ.out; have := HN3.out; have := HTQ.out; omega) = (news b0 x)[kk]'(by have := HN3.out; omega) := HIX.out kk (by have := HN3.out; omega) _
                    rw [hsame] at e4 ht4
                    have hfx := HFT.out _ (List.getElem_mem (show kk < (news b0 x).length by have := HN3.out; omega))
                    generalize (news b0 x)[kk]'(by have := HN3.out; omega) = y at e3 ht3 e4 ht4 hfx
                    obtain ⟨yn, hyn⟩ : ∃ yn, yn = y.length := ⟨_, rfl⟩
                    rw [← hyn] at e3 e4
                    have HS : ∀ w', Hid (Below w7.heap.size w7 w' → Calls Try.prog 17 #[.slice B3 yn d3, .slice B4 yn d4] w' fun e w'' => e = .returned (.bool true) ∧ Below w'.heap.size w' w'') := fun w' => Lib.hid (fun hb => by
                      have := same_true B3 B4 d3 d4 (y.map bat) w' (ht3.keep hb) (ht4.keep hb) (by rw [List.length_map]; exact hfx)
                      rw [List.length_map, ← hyn] at this
                      exact this)
                    have g0 : ∀ g : Grow w7, g.w.cell? (a3.add kk) = some (.slice B3 yn d3) := fun g => g.keep e3
                    have g1 : ∀ g : Grow w7, g.w.cell? (a4.add (td + kk)) = some (.slice B4 yn d4) := fun g => g.keep e4
                    obtain ⟨tk, htk⟩ : ∃ tk, tk = td + kk := ⟨_, rfl⟩
                    rw [← htk] at g1
                    have etk : (td : Int) + (kk : Int) = (tk : Int) := by omega
                    have j3 : (kk : Int) < (n3 : Int) := by omega
                    have j4 : (tk : Int) < (q : Int) := by have := HTQ.out; omega
                    clear hsame hfx hyn e3 e4 ht3 ht4 htk
                    go_wp2_with fail
                    refine wp_region_grow (by kernel_rfl) (by kernel_rfl) ?_
                    repeat (go_big_quiet_step ((go_at_call 17; exact grow_call ((HS _).out (Grow.below _)))))
                    refine wpQuiet_nil ?_
                    intro _ hw'
                    obtain ⟨gq, hw''⟩ := hw'
                    subst hw''
                    have HI2 := Lib.hid (HI.out.trans (gq.below.mono HI.out.size))
                    clear g0 g1
                    go_wp2_with fail
                    go_roundw
                    case rel => exact ⟨kk + 1, by omega, by go_num, HI2⟩
                    case measure => simp [intOf]; omega
                  · have j3 : ¬ (kk : Int) < (n3 : Int) := by omega
                    clear hlt3
                    go_wp2_with fail
                    go_roundw
                    case rel => exact ⟨k + 1, q, by omega, by go_num, rfl, hq2, Lib.hid (by rw [E.out]; exact HQ.out), Lib.hid ⟨own', by rw [E.out]; exact HO6.out.below HI.out⟩⟩
                    case measure => simp [intOf]; omega
            · have i1 : ¬ (k : Int) < (l.length : Int) := by omega
              clear hlt
              go_wp2_with fail
              refine (known_calls C _).mono ?_
              rintro e w9 ⟨rfl, hk9⟩
              have HB9 := Lib.hid (HOO.out.1.trans (hk9.mono HOO.out.1.size))
              clear hk9
              go_wp2_with fail
              go_ret
              exact ⟨rfl, HB9.out⟩
end Go.Proofs.Ytgjedhdnnfdcgaa.Rp
