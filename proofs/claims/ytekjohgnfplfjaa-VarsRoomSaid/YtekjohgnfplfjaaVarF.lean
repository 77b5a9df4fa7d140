/-
  Set, Add.
-/
import Derived.Test.YtekjohgnfplfjaaVarE
namespace Go.Proofs.Ytekjohgnfplfjaa.Va
open Go.RowKit Go.Maps

section
variable {w w' : World} {own : List Nat} {v b room : Nat} {L : VL} {bl : ByteArray → Nat} {D : Dt}
theorem set_has {key : ByteArray} {n now : Int} (hh : has L key now = true) : set room L key n now = (wi L (key, n, -1), 0) := by
  unfold Va.set full kept
  simp [hh]
theorem set_not {key : ByteArray} {n now : Int} (hh : has L key now = false) : set room L key n now = if room ≤ (live L now).length then (L, 5) else (wi (live L now) (key, n, -1), 0) := by
  unfold Va.set full kept
  simp [hh]
theorem add_over {key : ByteArray} {n now : Int} (h : inR (getv L key now + n) = false) : add room L key n now = (L, 0, 6) := by
  unfold Va.add
  rw [if_pos h]
theorem add_has {key : ByteArray} {n now : Int} (h : inR (getv L key now + n) = true) (hh : has L key now = true) : add room L key n now = (wi L (key, getv L key now + n, endOf L key now), getv L key now + n, 0) := by
  unfold Va.add full kept
  simp [h, hh]
theorem inR_of {n : Int} (h : I64 n) : inR n = true := by unfold inR; exact decide_eq_true h
theorem add_not {key : ByteArray} {n now : Int} (hn : I64 n) (hh : has L key now = false) : add room L key n now = if room ≤ (live L now).length then (L, 0, 5) else (wi (live L now) (key, n, -1), n, 0) := by
  have h : inR (getv L key now + n) = true := by rw [getv_none hh, Int.zero_add]; exact inR_of hn
  unfold Va.add full kept
  rw [h, getv_none hh, endOf_none hh]
  simp [hh]

set_option maxRecDepth 100000 in
theorem Set_calls (h : In w own v b room L bl D) (key : ByteArray) (n now : Int) (hk : key.size ≤ maxLen) (hn : I64 n) :
    Calls Try.prog 8 #[.pointer (some ⟨v, 0, none⟩), .string key, .int .i64 n, .int .i64 now] w fun e w' => ∃ own', e = .returned (.int .i64 (set room L key n now).2) ∧ At w' own' v room (set room L key n now).1 ∧ Kept own w own' w' := by
  have m1 := h.mapc
  cases hh : has L key now with
  | true =>
    obtain ⟨x, hx, hl, rfl, -, -⟩ := found h.good.rise hh
    rw [set_has hh]
    have H := Lib.hid h
    have HN := Lib.hid hn
    clear h hh hk hn
    go_enter Try.func8, Try.ntmps8
    go_wp2_with fail
    refine (made_calls v b _ m1).mono ?_
    rintro e w1 ⟨rfl, rfl⟩
    go_wp2_with fail
    refine (find_some H.out hx hl).mono ?_
    rintro e w1 ⟨rfl, hb⟩
    have h1 := H.out.below hb
    have c0 := h1.numc hx
    have c1 := h1.endc hx
    have f0 := h1.froz hx 0
    have f1 := h1.froz hx 1
    have H1 := Lib.hid h1
    clear h1 m1
    go_wp2_with fail
    go_ret
    have k : Only [bl x.1] w1 ((w1.setCell ⟨bl x.1, 0, none⟩ (.int .i64 n)).setCell ⟨bl x.1, 1, none⟩ (.int .i64 9007199254740993)) := ((Only.refl _ _).set (by simp) _).set (by simp) _
    refine ⟨own, rfl, ⟨b, bl, D, H1.out.write hx (e := -1) HN.out (by omega) k ?_⟩, (Only.of_below own hb).also (k.mono fun y hy => .inl ?_), fun y hy => .inl hy⟩
    · exact heap_setCell_same _ _ _ _ _ _ (heap_setCell_same _ _ _ _ _ _ (H1.out.nums x hx))
    · simp at hy; subst hy; exact H1.out.ownN x hx
  | false =>
    rw [set_not hh]
    have H := Lib.hid h
    have HN := Lib.hid hn
    have HK := Lib.hid hk
    have HH := Lib.hid hh
    clear h hk hn hh
    by_cases hf : room ≤ (live L now).length
    · rw [if_pos hf]
      have hbg := fun (w1 : World) (hb : Below w.heap.size w w1) => begin_calls (H.out.below hb) key n now HK.out HN.out HH.out
      simp only [if_pos hf] at hbg
      have HB := Lib.hid hbg
      clear hbg hf
      go_enter Try.func8, Try.ntmps8
      go_wp2_with fail
      refine (made_calls v b _ m1).mono ?_
      rintro e w1 ⟨rfl, rfl⟩
      go_wp2_with fail
      refine (find_none H.out HK.out HH.out).mono ?_
      rintro e w1 ⟨rfl, hb⟩
      go_wp2_with fail
      refine (HB.out w1 hb).mono ?_
      rintro e w2 ⟨own', rfl, ha, hkt⟩
      go_wp2_with fail
      go_ret
      exact ⟨own', rfl, ha, Kept.after (Only.of_below own hb) hkt⟩
    · rw [if_neg hf]
      have hbg := fun (w1 : World) (hb : Below w.heap.size w w1) => begin_calls (H.out.below hb) key n now HK.out HN.out HH.out
      simp only [if_neg hf] at hbg
      have HB := Lib.hid hbg
      clear hbg hf
      go_enter Try.func8, Try.ntmps8
      go_wp2_with fail
      refine (made_calls v b _ m1).mono ?_
      rintro e w1 ⟨rfl, rfl⟩
      go_wp2_with fail
      refine (find_none H.out HK.out HH.out).mono ?_
      rintro e w1 ⟨rfl, hb⟩
      go_wp2_with fail
      refine (HB.out w1 hb).mono ?_
      rintro e w2 ⟨own', rfl, ha, hkt⟩
      go_wp2_with fail
      go_ret
      exact ⟨own', rfl, ha, Kept.after (Only.of_below own hb) hkt⟩

set_option maxRecDepth 100000 in
theorem AddV_calls (h : In w own v b room L bl D) (key : ByteArray) (n now : Int) (hk : key.size ≤ maxLen) (hn : I64 n) :
    Calls Try.prog 14 #[.pointer (some ⟨v, 0, none⟩), .string key, .int .i64 n, .int .i64 now] w fun e w' => ∃ own', e = .returned (.tuple #[.int .i64 (add room L key n now).2.1, .int .i64 (add room L key n now).2.2]) ∧ At w' own' v room (add room L key n now).1 ∧ Kept own w own' w' := by
  have m1 := h.mapc
  cases hh : has L key now with
  | true =>
    obtain ⟨x, hx, hl, rfl, hg, he⟩ := found h.good.rise hh
    have hnum := num_calls x.2.1 n (h.fits x hx).2.1 hn
    have hfe := (h.fits x hx).2.2
    cases ho : inR (x.2.1 + n) with
    | true =>
      rw [add_has (by rw [hg]; exact ho) hh, hg, he]
      rw [ho] at hnum
      have hin : I64 (x.2.1 + n) := by unfold inR at ho; exact of_decide_eq_true ho
      have H := Lib.hid h
      have HN := Lib.hid hin
      have HA := Lib.hid hnum
      have HF := Lib.hid hfe
      clear h hh hk hn hg he hnum ho hin hfe
      go_enter Try.func14, Try.ntmps14
      go_wp2_with fail
      refine (made_calls v b _ m1).mono ?_
      rintro e w1 ⟨rfl, rfl⟩
      go_wp2_with fail
      refine (find_some H.out hx hl).mono ?_
      rintro e w1 ⟨rfl, hb⟩
      have h1 := H.out.below hb
      have c0 := h1.numc hx
      have H1 := Lib.hid h1
      clear h1 m1
      go_wp2_with fail
      refine (HA.out w1).mono ?_
      rintro e w2 ⟨rfl, hb2⟩
      have h2 := H1.out.below hb2
      have c3 := h2.numc hx
      have f3 := h2.froz hx 0
      have H2 := Lib.hid h2
      clear h2 c0
      go_wp2_with fail
      go_ret2
      have k : Only [bl x.1] w2 (w2.setCell ⟨bl x.1, 0, none⟩ (.int .i64 (x.2.1 + n))) := (Only.refl _ _).set (by simp) _
      refine ⟨own, rfl, ⟨b, bl, D, H2.out.write hx HN.out HF.out k ?_⟩, ((Only.of_below own hb).also (Only.of_below own hb2)).also (k.mono fun y hy => .inl ?_), fun y hy => .inl hy⟩
      · exact heap_setCell_same _ _ _ _ _ _ (H2.out.nums x hx)
      · simp at hy; subst hy; exact H1.out.ownN x hx
    | false =>
      rw [add_over (by rw [hg]; exact ho)]
      rw [ho] at hnum
      have H := Lib.hid h
      have HA := Lib.hid hnum
      clear h hh hk hn hg he hnum ho hfe
      go_enter Try.func14, Try.ntmps14
      go_wp2_with fail
      refine (made_calls v b _ m1).mono ?_
      rintro e w1 ⟨rfl, rfl⟩
      go_wp2_with fail
      refine (find_some H.out hx hl).mono ?_
      rintro e w1 ⟨rfl, hb⟩
      have h1 := H.out.below hb
      have c0 := h1.numc hx
      have H1 := Lib.hid h1
      clear h1 m1
      go_wp2_with fail
      refine (HA.out w1).mono ?_
      rintro e w2 ⟨rfl, hb2⟩
      go_wp2_with fail
      go_ret2
      exact ⟨own, rfl, ⟨b, bl, D, H1.out.below hb2⟩, Kept.after (Only.of_below own hb) (Kept.of_below hb2)⟩
  | false =>
    rw [add_not hn hh]
    have H := Lib.hid h
    have HN := Lib.hid hn
    have HK := Lib.hid hk
    have HH := Lib.hid hh
    clear h hk hn hh
    by_cases hf : room ≤ (live L now).length
    · rw [if_pos hf]
      have hbg := fun (w1 : World) (hb : Below w.heap.size w w1) => begin_calls (H.out.below hb) key n now HK.out HN.out HH.out
      simp only [if_pos hf] at hbg
      have HB := Lib.hid hbg
      clear hbg hf
      go_enter Try.func14, Try.ntmps14
      go_wp2_with fail
      refine (made_calls v b _ m1).mono ?_
      rintro e w1 ⟨rfl, rfl⟩
      go_wp2_with fail
      refine (find_none H.out HK.out HH.out).mono ?_
      rintro e w1 ⟨rfl, hb⟩
      go_wp2_with fail
      refine (HB.out w1 hb).mono ?_
      rintro e w2 ⟨own', rfl, ha, hkt⟩
      go_wp2_with fail
      go_ret2
      exact ⟨own', rfl, ha, Kept.after (Only.of_below own hb) hkt⟩
    · rw [if_neg hf]
      have hbg := fun (w1 : World) (hb : Below w.heap.size w w1) => begin_calls (H.out.below hb) key n now HK.out HN.out HH.out
      simp only [if_neg hf] at hbg
      have HB := Lib.hid hbg
      clear hbg hf
      go_enter Try.func14, Try.ntmps14
      go_wp2_with fail
      refine (made_calls v b _ m1).mono ?_
      rintro e w1 ⟨rfl, rfl⟩
      go_wp2_with fail
      refine (find_none H.out HK.out HH.out).mono ?_
      rintro e w1 ⟨rfl, hb⟩
      go_wp2_with fail
      refine (HB.out w1 hb).mono ?_
      rintro e w2 ⟨own', rfl, ha, hkt⟩
      go_wp2_with fail
      go_ret2
      exact ⟨own', rfl, ha, Kept.after (Only.of_below own hb) hkt⟩
end
end Go.Proofs.Ytekjohgnfplfjaa.Va
