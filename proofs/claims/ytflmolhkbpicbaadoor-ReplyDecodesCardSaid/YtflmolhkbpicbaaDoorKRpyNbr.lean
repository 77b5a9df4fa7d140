/-
  A number, as reply.rest reads it.
-/
import Derived.Test.YtflmolhkbpicbaaDoorKRpyLne
namespace Go.Proofs.YtflmolhkbpicbaaDoor
open Go.RowKit
namespace Ry
variable {w w' : World} {pb : Nat} {s : ByteArray} {e : Int}

set_option maxRecDepth 100000 in
set_option maxHeartbeats 2000000 in
theorem line_num (h : Rs w pb s e) (hs : s.size ≤ 65000) (hT : Tb w) (lo hi : Int) (b1 b2 : Nat) (h1 : Box w b1 3 #[.int .i64 lo]) (h2 : Box w b2 3 #[.int .i64 hi]) :
    Calls Tryd.prog 54 #[.pointer (some ⟨pb, 0, none⟩), .func (.func 73) #[] #[.pointer (some ⟨b1, 0, none⟩), .pointer (some ⟨b2, 0, none⟩)]] w fun x w' => LineOut x w' pb s e (lineP (numP lo hi) s.data.toList) ∧ Only [pb] w w' := by
  have c0 := h.c0
  have c1 := h.c1
  have f0 := h.fr 0
  have HF := Lib.hid (fun (w1 : World) (h1 : Rs w1 pb s e) => fail_own h1)
  have H := Lib.hid h
  have HB1 := Lib.hid h1
  have HB2 := Lib.hid h2
  clear h h1 h2
  have hsl : s.data.toList.length ≤ 65000 := by rw [← Lib.size_eq]; exact hs
  unfold lineP
  cases hc : cutR s.data.toList with
  | some p =>
    obtain ⟨l, r⟩ := p
    have HC := Lib.hid (cut_calls s w hs hT (cut_some hc))
    have hll : (bat l).size ≤ 65000 := by rw [bat_size]; have := cut_len hc; omega
    have HM := Lib.hid (fun (w : World) (q1 : Box w b1 3 #[.int .i64 lo]) (q2 : Box w b2 3 #[.int .i64 hi]) => mayn_calls l true lo hi b1 b2 w (Box.cell q1 0) (Box.cell q2 0))
    clear hc hT hsl
    simp only
    cases hm : numP lo hi l true
    · rw [if_neg (by simp)]
      rw [hm] at HM
      clear hm
      go_enter Tryd.func54, Tryd.ntmps54
      go_wp2_with fail
      refine HC.out.mono ?_
      rintro x w1 ⟨rfl, n1, rfl⟩
      have H1 : Hid (Rs (w.drewN n1) pb s e) := Lib.hid H.out
      have HK : Hid (Only [pb] w (w.drewN n1)) := Lib.hid ((Only.refl _ _).drewN _)
      have HX1 : Hid (Box (w.drewN n1) b1 3 #[.int .i64 lo]) := Lib.hid HB1.out
      have HX2 : Hid (Box (w.drewN n1) b2 3 #[.int .i64 hi]) := Lib.hid HB2.out
      generalize w.drewN n1 = W1 at H1 HK HX1 HX2 ⊢
      clear c0 c1 f0
      have d0 := H1.out.c0
      have d1 := H1.out.c1
      have g0 := H1.out.fr 0
      go_wp2_with fail
      refine (HM.out _ HX1.out HX2.out).mono ?_
      rintro x w2 ⟨rfl, hb2⟩
      have H2 := Lib.hid (H1.out.keep hb2)
      have HK2 := Lib.hid (HK.out.also (only_below hb2 [pb]))
      clear hb2
      go_wp2_with fail
      refine (HF.out _ H2.out 9).mono ?_
      rintro x w3 ⟨rfl, h3, hk3⟩
      go_wp2
      go_ret
      exact ⟨⟨rfl, h3⟩, HK2.out.also hk3⟩
    · rw [if_pos rfl]
      rw [hm] at HM
      clear hm
      go_enter Tryd.func54, Tryd.ntmps54
      go_wp2_with fail
      refine HC.out.mono ?_
      rintro x w1 ⟨rfl, n1, rfl⟩
      have H1 : Hid (Rs (w.drewN n1) pb s e) := Lib.hid H.out
      have HK : Hid (Only [pb] w (w.drewN n1)) := Lib.hid ((Only.refl _ _).drewN _)
      have HX1 : Hid (Box (w.drewN n1) b1 3 #[.int .i64 lo]) := Lib.hid HB1.out
      have HX2 : Hid (Box (w.drewN n1) b2 3 #[.int .i64 hi]) := Lib.hid HB2.out
      generalize w.drewN n1 = W1 at H1 HK HX1 HX2 ⊢
      clear c0 c1 f0
      have d0 := H1.out.c0
      have d1 := H1.out.c1
      have g0 := H1.out.fr 0
      go_wp2_with fail
      refine (HM.out _ HX1.out HX2.out).mono ?_
      rintro x w2 ⟨rfl, hb2⟩
      have H2 := Lib.hid (H1.out.keep hb2)
      have HK2 := Lib.hid (HK.out.also (only_below hb2 [pb]))
      clear hb2 d0 d1 g0
      have d0 := H2.out.c0
      have d1 := H2.out.c1
      have g0 := H2.out.fr 0
      go_wp2
      go_ret
      exact ⟨⟨rfl, H2.out.set0 _⟩, HK2.out.set (by simp) _⟩
  | none =>
    have HC := Lib.hid (cut_calls s w hs hT (cut_none hc))
    rw [bat_data] at HC
    have HS := Lib.hid (fun w => suf_calls s w hs)
    have hll : (bat (trimR s.data.toList)).size ≤ 65000 := by rw [bat_size]; have := trim_len s.data.toList; omega
    generalize trimR s.data.toList = T at HS hll ⊢
    generalize endedR s.data.toList = E at HS ⊢
    have HM := Lib.hid (fun (w : World) (q1 : Box w b1 3 #[.int .i64 lo]) (q2 : Box w b2 3 #[.int .i64 hi]) => mayn_calls T E lo hi b1 b2 w (Box.cell q1 0) (Box.cell q2 0))
    clear hc hT hsl
    simp only
    cases hm : numP lo hi T E
    · rw [if_neg (by simp)]
      rw [hm] at HM
      clear hm
      go_enter Tryd.func54, Tryd.ntmps54
      go_wp2_with fail
      refine HC.out.mono ?_
      rintro x w1 ⟨rfl, n1, rfl⟩
      have H1 : Hid (Rs (w.drewN n1) pb s e) := Lib.hid H.out
      have HK : Hid (Only [pb] w (w.drewN n1)) := Lib.hid ((Only.refl _ _).drewN _)
      have HX1 : Hid (Box (w.drewN n1) b1 3 #[.int .i64 lo]) := Lib.hid HB1.out
      have HX2 : Hid (Box (w.drewN n1) b2 3 #[.int .i64 hi]) := Lib.hid HB2.out
      generalize w.drewN n1 = W1 at H1 HK HX1 HX2 ⊢
      clear c0 c1 f0
      have d0 := H1.out.c0
      have d1 := H1.out.c1
      have g0 := H1.out.fr 0
      go_wp2_with fail
      refine (HS.out _).mono ?_
      rintro x w2 ⟨rfl, rfl⟩
      go_wp2_with fail
      refine (HM.out _ HX1.out HX2.out).mono ?_
      rintro x w3 ⟨rfl, hb2⟩
      have H2 := Lib.hid (H1.out.keep hb2)
      have HK2 := Lib.hid (HK.out.also (only_below hb2 [pb]))
      clear hb2
      go_wp2_with fail
      refine (HF.out _ H2.out 9).mono ?_
      rintro x w4 ⟨rfl, h3, hk3⟩
      go_wp2
      go_ret
      exact ⟨⟨rfl, h3⟩, HK2.out.also hk3⟩
    · rw [if_pos rfl]
      rw [hm] at HM
      clear hm
      go_enter Tryd.func54, Tryd.ntmps54
      go_wp2_with fail
      refine HC.out.mono ?_
      rintro x w1 ⟨rfl, n1, rfl⟩
      have H1 : Hid (Rs (w.drewN n1) pb s e) := Lib.hid H.out
      have HK : Hid (Only [pb] w (w.drewN n1)) := Lib.hid ((Only.refl _ _).drewN _)
      have HX1 : Hid (Box (w.drewN n1) b1 3 #[.int .i64 lo]) := Lib.hid HB1.out
      have HX2 : Hid (Box (w.drewN n1) b2 3 #[.int .i64 hi]) := Lib.hid HB2.out
      generalize w.drewN n1 = W1 at H1 HK HX1 HX2 ⊢
      clear c0 c1 f0
      have d0 := H1.out.c0
      have d1 := H1.out.c1
      have g0 := H1.out.fr 0
      go_wp2_with fail
      refine (HS.out _).mono ?_
      rintro x w2 ⟨rfl, rfl⟩
      go_wp2_with fail
      refine (HM.out _ HX1.out HX2.out).mono ?_
      rintro x w3 ⟨rfl, hb2⟩
      have H2 := Lib.hid (H1.out.keep hb2)
      have HK2 := Lib.hid (HK.out.also (only_below hb2 [pb]))
      clear hb2
      go_wp2_with fail
      refine (HF.out _ H2.out 8).mono ?_
      rintro x w4 ⟨rfl, h3, hk3⟩
      go_wp2
      go_ret
      exact ⟨⟨rfl, h3⟩, HK2.out.also hk3⟩



/-- a number that was read, or an error -/
def NumOut (x : Ending) (w' : World) (pb : Nat) (s : ByteArray) (e : Int) : Rd Int → Prop
  | .ok n r => x = .returned (.int .i64 n) ∧ Rs w' pb (bat r) e
  | .err k => x = .returned (.int .i64 0) ∧ Rs w' pb s (fl e k)
set_option maxRecDepth 100000 in
theorem told_fst (l : Bytes) : Dg.told (Dg.num? (bat l).data.toList) = .returned (.tuple #[.int .i64 ((parseR l).getD 0), .bool (parseR l).isSome]) := by
  unfold Dg.told
  rw [show (bat l).data.toList = l from rfl, num_eq]
set_option maxRecDepth 100000 in
theorem parse_nil : parseR [] = none := by
  cases h : parseR [] with
  | none => rfl
  | some n => exact absurd (parse_some h).1.symm (txt_ne n)

set_option maxRecDepth 100000 in
set_option maxHeartbeats 2000000 in
theorem number_own (h : Rs w pb s e) (hs : s.size ≤ 65000) (hT : Tb w) (lo hi : Int) :
    Calls Tryd.prog 58 #[.pointer (some ⟨pb, 0, none⟩), .int .i64 lo, .int .i64 hi] w fun x w' => NumOut x w' pb s e (numR lo hi s.data.toList) ∧ Only [pb] w w' := by
  have hb : Below w.heap.size w ((w.alloc (.cells #[.int .i64 lo] 3)).alloc (.cells #[.int .i64 hi] 3)) := ((Below.refl _ w).alloc (Nat.le_refl _) _).alloc (by simp) _
  have HLN := Lib.hid (line_num (h.keep hb) hs (hT.keep hb) lo hi w.heap.size (w.heap.size + 1) (Box.alloc (Box.new w _ _) _) (Box.new1 w _ _ _))
  have HK := Lib.hid (only_below hb [pb])
  rw [num_cut]
  clear h hT hb
  generalize lineP (numP lo hi) s.data.toList = R at HLN ⊢
  cases R with
  | err k =>
    have HP := Lib.hid (Dg.parse_calls (bat []))
    rw [told_fst, parse_nil] at HP
    go_enter Tryd.func58, Tryd.ntmps58
    go_wp2_with fail
    refine HLN.out.mono ?_
    rintro x w1 ⟨⟨rfl, h1⟩, hk1⟩
    go_wp2_with fail
    refine (HP.out _).mono ?_
    rintro x w2 ⟨rfl, hb2⟩
    go_wp2
    go_ret
    exact ⟨⟨rfl, h1.keep hb2⟩, (HK.out.also hk1).also (only_below hb2 _)⟩
  | ok l r =>
    have HP := Lib.hid (Dg.parse_calls (bat l))
    rw [told_fst] at HP
    show Calls _ _ _ _ (fun x w' => NumOut x w' pb s e (.ok ((parseR l).getD 0) r) ∧ Only [pb] w w')
    generalize (parseR l).getD 0 = n at HP ⊢
    generalize (parseR l).isSome = b at HP
    go_enter Tryd.func58, Tryd.ntmps58
    go_wp2_with fail
    refine HLN.out.mono ?_
    rintro x w1 ⟨⟨rfl, h1⟩, hk1⟩
    go_wp2_with fail
    refine (HP.out _).mono ?_
    rintro x w2 ⟨rfl, hb2⟩
    go_wp2
    go_ret
    exact ⟨⟨rfl, h1.keep hb2⟩, (HK.out.also hk1).also (only_below hb2 _)⟩
end Ry
end Go.Proofs.YtflmolhkbpicbaaDoor
