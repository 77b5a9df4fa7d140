/-
  A line, as reply.rest reads it: whatever text, or a number.
-/
import Derived.Test.YtflmolhkbpicbaaDoorKRpyRst
import Derived.Test.YtflmolhkbpicbaaDoorKRpyChg
namespace Go.Proofs.YtflmolhkbpicbaaDoor
open Go.RowKit
namespace Ry
variable {w w' : World} {pb : Nat} {s : ByteArray} {e : Int}

/-- what a line's method hands back -/
def LineOut (x : Ending) (w' : World) (pb : Nat) (s : ByteArray) (e : Int) : Rd Bytes → Prop
  | .ok l r => x = .returned (.string (bat l)) ∧ Rs w' pb (bat r) e
  | .err k => x = .returned (.string ByteArray.empty) ∧ Rs w' pb s (fl e k)
set_option maxRecDepth 100000 in
theorem cut_calls (s : ByteArray) (w : World) (hs : s.size ≤ 65000) (hT : Tb w) {l r : Bytes} {b : Bool} (h : Lib.cut s.data.toList [13, 10] = (l, r, b)) :
    Calls Tryd.prog 69 #[.string s, .string ⟨#[13, 10]⟩] w fun x w' => x = .returned (.tuple #[.string (bat l), .string (bat r), .bool b]) ∧ ∃ n, w' = w.drewN n := by
  obtain ⟨m, hm⟩ := hT.max
  refine (Tryd.strings_Cut s ⟨#[13, 10]⟩ m w (by omega) hm).mono ?_
  rintro x w' ⟨rfl, hn⟩
  refine ⟨?_, hn⟩
  rw [show Lib.cut s.data.toList (⟨#[13, 10]⟩ : ByteArray).data.toList = (l, r, b) from h]
set_option maxRecDepth 100000 in
theorem suf_calls (s : ByteArray) (w : World) (hs : s.size ≤ 65000) :
    Calls Tryd.prog 70 #[.string s, .string ⟨#[13]⟩] w fun x w' => x = .returned (.tuple #[.string (bat (trimR s.data.toList)), .bool (endedR s.data.toList)]) ∧ w' = w := by
  refine (Tryd.strings_CutSuffix s ⟨#[13]⟩ w (by omega)).mono ?_
  rintro x w' ⟨rfl, rfl⟩
  refine ⟨?_, rfl⟩
  rw [show Lib.trimSuffix s.data.toList (⟨#[13]⟩ : ByteArray).data.toList = trimR s.data.toList from trim_13 _, show Lib.hasSuffix s.data.toList (⟨#[13]⟩ : ByteArray).data.toList = endedR s.data.toList from suffix_13 _]
set_option maxRecDepth 100000 in
theorem cut_len {s l r : Bytes} (h : cutR s = some (l, r)) : l.length ≤ s.length := by rw [cut_at h]; simp
set_option maxRecDepth 100000 in
theorem trim_len (s : Bytes) : (trimR s).length ≤ s.length := by
  induction s with
  | nil => exact Nat.le_refl _
  | cons c t ih =>
    cases t with
    | nil => unfold trimR; split <;> simp
    | cons d u => rw [trim_cons _ (by simp)]; simp at ih ⊢; omega
set_option maxRecDepth 100000 in
theorem bat_data (s : ByteArray) : bat s.data.toList = s := rfl
def anyM (l : Bytes) (_ : Bool) : Bool := l.all okB
set_option maxRecDepth 100000 in
theorem anym_calls (l : Bytes) (b : Bool) (w : World) (hs : (bat l).size < 4294967281) :
    Calls Tryd.prog 55 #[.string (bat l), .bool b] w fun e w' => e = .returned (.bool (anyM l b)) ∧ Below w.heap.size w w' := isline_calls (bat l) b w hs
set_option maxRecDepth 100000 in
theorem text_any (s : Bytes) : textR [] s = lineP anyM s := by
  rw [text_cut s []]
  show preR [] (lineP anyM s) = _
  unfold lineP
  cases cutR s with
  | none => simp only; split <;> rfl
  | some p => simp only; split <;> rfl

set_option maxRecDepth 100000 in
set_option maxHeartbeats 2000000 in
theorem line_any (h : Rs w pb s e) (hs : s.size ≤ 65000) (hT : Tb w) :
    Calls Tryd.prog 54 #[.pointer (some ⟨pb, 0, none⟩), fnv 55] w fun x w' => LineOut x w' pb s e (lineP anyM s.data.toList) ∧ Only [pb] w w' := by
  have c0 := h.c0
  have c1 := h.c1
  have f0 := h.fr 0
  have HF := Lib.hid (fun (w1 : World) (h1 : Rs w1 pb s e) => fail_own h1)
  have H := Lib.hid h
  clear h
  have hsl : s.data.toList.length ≤ 65000 := by rw [← Lib.size_eq]; exact hs
  unfold lineP
  cases hc : cutR s.data.toList with
  | some p =>
    obtain ⟨l, r⟩ := p
    have HC := Lib.hid (cut_calls s w hs hT (cut_some hc))
    have hll : (bat l).size ≤ 65000 := by rw [bat_size]; have := cut_len hc; omega
    have HM := Lib.hid (fun (w : World) (_ : True) => anym_calls l true w (by omega))
    clear hc hT hsl
    simp only
    cases hm : anyM l true
    · rw [if_neg (by simp)]
      rw [hm] at HM
      clear hm
      go_enter Tryd.func54, Tryd.ntmps54
      go_wp2_with fail
      refine HC.out.mono ?_
      rintro x w1 ⟨rfl, n1, rfl⟩
      have H1 : Hid (Rs (w.drewN n1) pb s e) := Lib.hid H.out
      have HK : Hid (Only [pb] w (w.drewN n1)) := Lib.hid ((Only.refl _ _).drewN _)
      generalize w.drewN n1 = W1 at H1 HK ⊢
      clear c0 c1 f0
      have d0 := H1.out.c0
      have d1 := H1.out.c1
      have g0 := H1.out.fr 0
      go_wp2_with fail
      refine (HM.out _ trivial).mono ?_
      rintro x w2 ⟨rfl, hb2⟩
      have H2 := Lib.hid (H1.out.keep hb2)
      have HK2 := Lib.hid (HK.out.also (only_below hb2 [pb]))
      clear hb2
      go_wp2_with fail
      refine (HF.out _ H2.out 9).mono ?_
      rintro x w3 ⟨rfl, h3, hk3⟩
      go_wp2
      go_ret
      exact ⟨⟨rfl, h3⟩, HK2.out.also hk3⟩
    · rw [if_pos rfl]
      rw [hm] at HM
      clear hm
      go_enter Tryd.func54, Tryd.ntmps54
      go_wp2_with fail
      refine HC.out.mono ?_
      rintro x w1 ⟨rfl, n1, rfl⟩
      have H1 : Hid (Rs (w.drewN n1) pb s e) := Lib.hid H.out
      have HK : Hid (Only [pb] w (w.drewN n1)) := Lib.hid ((Only.refl _ _).drewN _)
      generalize w.drewN n1 = W1 at H1 HK ⊢
      clear c0 c1 f0
      have d0 := H1.out.c0
      have d1 := H1.out.c1
      have g0 := H1.out.fr 0
      go_wp2_with fail
      refine (HM.out _ trivial).mono ?_
      rintro x w2 ⟨rfl, hb2⟩
      have H2 := Lib.hid (H1.out.keep hb2)
      have HK2 := Lib.hid (HK.out.also (only_below hb2 [pb]))
      clear hb2 d0 d1 g0
      have d0 := H2.out.c0
      have d1 := H2.out.c1
      have g0 := H2.out.fr 0
      go_wp2
      go_ret
      exact ⟨⟨rfl, H2.out.set0 _⟩, HK2.out.set (by simp) _⟩
  | none =>
    have HC := Lib.hid (cut_calls s w hs hT (cut_none hc))
    rw [bat_data] at HC
    have HS := Lib.hid (fun w => suf_calls s w hs)
    have hll : (bat (trimR s.data.toList)).size ≤ 65000 := by rw [bat_size]; have := trim_len s.data.toList; omega
    generalize trimR s.data.toList = T at HS hll ⊢
    generalize endedR s.data.toList = E at HS ⊢
    have HM := Lib.hid (fun (w : World) (_ : True) => anym_calls T E w (by omega))
    clear hc hT hsl
    simp only
    cases hm : anyM T E
    · rw [if_neg (by simp)]
      rw [hm] at HM
      clear hm
      go_enter Tryd.func54, Tryd.ntmps54
      go_wp2_with fail
      refine HC.out.mono ?_
      rintro x w1 ⟨rfl, n1, rfl⟩
      have H1 : Hid (Rs (w.drewN n1) pb s e) := Lib.hid H.out
      have HK : Hid (Only [pb] w (w.drewN n1)) := Lib.hid ((Only.refl _ _).drewN _)
      generalize w.drewN n1 = W1 at H1 HK ⊢
      clear c0 c1 f0
      have d0 := H1.out.c0
      have d1 := H1.out.c1
      have g0 := H1.out.fr 0
      go_wp2_with fail
      refine (HS.out _).mono ?_
      rintro x w2 ⟨rfl, rfl⟩
      go_wp2_with fail
      refine (HM.out _ trivial).mono ?_
      rintro x w3 ⟨rfl, hb2⟩
      have H2 := Lib.hid (H1.out.keep hb2)
      have HK2 := Lib.hid (HK.out.also (only_below hb2 [pb]))
      clear hb2
      go_wp2_with fail
      refine (HF.out _ H2.out 9).mono ?_
      rintro x w4 ⟨rfl, h3, hk3⟩
      go_wp2
      go_ret
      exact ⟨⟨rfl, h3⟩, HK2.out.also hk3⟩
    · rw [if_pos rfl]
      rw [hm] at HM
      clear hm
      go_enter Tryd.func54, Tryd.ntmps54
      go_wp2_with fail
      refine HC.out.mono ?_
      rintro x w1 ⟨rfl, n1, rfl⟩
      have H1 : Hid (Rs (w.drewN n1) pb s e) := Lib.hid H.out
      have HK : Hid (Only [pb] w (w.drewN n1)) := Lib.hid ((Only.refl _ _).drewN _)
      generalize w.drewN n1 = W1 at H1 HK ⊢
      clear c0 c1 f0
      have d0 := H1.out.c0
      have d1 := H1.out.c1
      have g0 := H1.out.fr 0
      go_wp2_with fail
      refine (HS.out _).mono ?_
      rintro x w2 ⟨rfl, rfl⟩
      go_wp2_with fail
      refine (HM.out _ trivial).mono ?_
      rintro x w3 ⟨rfl, hb2⟩
      have H2 := Lib.hid (H1.out.keep hb2)
      have HK2 := Lib.hid (HK.out.also (only_below hb2 [pb]))
      clear hb2
      go_wp2_with fail
      refine (HF.out _ H2.out 8).mono ?_
      rintro x w4 ⟨rfl, h3, hk3⟩
      go_wp2
      go_ret
      exact ⟨⟨rfl, h3⟩, HK2.out.also hk3⟩


/-- what a number's line may be -/
def numV2 (lo hi : Int) : Bytes → Bool → Bool := numP lo hi
set_option maxRecDepth 100000 in
theorem upto_eq (lo hi : Int) (l : Bytes) : (Dg.upto? l lo hi).isSome = uptoB lo hi l := by
  unfold Dg.upto? uptoB Dg.num? parseR
  by_cases h : Dg.txt (Dg.worth l) = l ∧ -9223372036854775808 ≤ Dg.worth l ∧ Dg.worth l ≤ 9223372036854775807
  · rw [if_pos ⟨h.2.1, h.2.2, h.1⟩, if_pos h]
    simp only
    by_cases h2 : lo ≤ Dg.worth l ∧ Dg.worth l ≤ hi
    · rw [if_pos h2]; simp [h2]
    · rw [if_neg h2]
      have : (decide (lo ≤ Dg.worth l) && decide (Dg.worth l ≤ hi)) = false := by simpa using h2
      rw [this]; rfl
  · rw [if_neg (fun q => h ⟨q.2.2, q.1, q.2.1⟩), if_neg h]; rfl
set_option maxRecDepth 100000 in
theorem num_eq (l : Bytes) : Dg.num? l = parseR l := by
  unfold Dg.num? parseR
  by_cases h : Dg.txt (Dg.worth l) = l ∧ -9223372036854775808 ≤ Dg.worth l ∧ Dg.worth l ≤ 9223372036854775807
  · rw [if_pos ⟨h.2.1, h.2.2, h.1⟩, if_pos h]
  · rw [if_neg (fun q => h ⟨q.2.2, q.1, q.2.1⟩), if_neg h]
set_option maxRecDepth 100000 in
set_option maxHeartbeats 1000000 in
theorem mayn_calls (l : Bytes) (E : Bool) (lo hi : Int) (b1 b2 : Nat) (w : World) (h1 : w.cell? ⟨b1, 0, none⟩ = some (.int .i64 lo)) (h2 : w.cell? ⟨b2, 0, none⟩ = some (.int .i64 hi)) :
    Calls Tryd.prog 73 #[.string (bat l), .bool E, .pointer (some ⟨b1, 0, none⟩), .pointer (some ⟨b2, 0, none⟩)] w fun x w' => x = .returned (.bool (numP lo hi l E)) ∧ Below w.heap.size w w' := by
  have HU := Lib.hid (Dg.upto_calls (bat l) lo hi)
  have k1 := Lib.hid (show b1 < w.heap.size by
    rcases Nat.lt_or_ge b1 w.heap.size with h' | h'
    · exact h'
    · simp [World.cell?, Array.getElem?_eq_none h'] at h1)
  have hv : Dg.told (Dg.upto? (bat l).data.toList lo hi) = .returned (.tuple #[.int .i64 ((Dg.upto? l lo hi).getD 0), .bool (uptoB lo hi l)]) := by
    unfold Dg.told
    rw [show (bat l).data.toList = l from rfl, upto_eq]
  rw [hv] at HU
  clear hv
  generalize (Dg.upto? l lo hi).getD 0 = D at HU
  have hb : begunB lo l = (decide (l = []) || (decide (l = [45]) && decide (lo < 0))) := rfl
  unfold numP
  rw [hb]
  generalize uptoB lo hi l = U at HU ⊢
  clear hb
  cases U
  · by_cases hl0 : l = []
    · subst hl0
      by_cases hlo : lo < 0
      · go_enter Tryd.func73, Tryd.ntmps73
        go_wp2_with fail
        refine (HU.out _).mono ?_
        rintro x w1 ⟨rfl, hb1⟩
        have q1 := (hb1.cell k1.out).trans h1
        have HB1 := Lib.hid hb1
        clear hb1
        go_wp2
        all_goals
          go_ret
          refine ⟨?_, HB1.out⟩
          cases E <;> simp_all
      · go_enter Tryd.func73, Tryd.ntmps73
        go_wp2_with fail
        refine (HU.out _).mono ?_
        rintro x w1 ⟨rfl, hb1⟩
        have q1 := (hb1.cell k1.out).trans h1
        have HB1 := Lib.hid hb1
        clear hb1
        go_wp2
        all_goals
          go_ret
          refine ⟨?_, HB1.out⟩
          cases E <;> simp_all
    · by_cases hl1 : l = [45]
      · subst hl1
        by_cases hlo : lo < 0
        · go_enter Tryd.func73, Tryd.ntmps73
          go_wp2_with fail
          refine (HU.out _).mono ?_
          rintro x w1 ⟨rfl, hb1⟩
          have q1 := (hb1.cell k1.out).trans h1
          have HB1 := Lib.hid hb1
          clear hb1
          go_wp2
          all_goals
            go_ret
            refine ⟨?_, HB1.out⟩
            cases E <;> simp_all
        · go_enter Tryd.func73, Tryd.ntmps73
          go_wp2_with fail
          refine (HU.out _).mono ?_
          rintro x w1 ⟨rfl, hb1⟩
          have q1 := (hb1.cell k1.out).trans h1
          have HB1 := Lib.hid hb1
          clear hb1
          go_wp2
          all_goals
            go_ret
            refine ⟨?_, HB1.out⟩
            cases E <;> simp_all
      · have hl1' : l.toArray ≠ #[45] := by intro q; apply hl1; simpa using congrArg Array.toList q
        by_cases hlo : lo < 0
        · go_enter Tryd.func73, Tryd.ntmps73
          go_wp2_with fail
          refine (HU.out _).mono ?_
          rintro x w1 ⟨rfl, hb1⟩
          have q1 := (hb1.cell k1.out).trans h1
          have HB1 := Lib.hid hb1
          clear hb1
          go_wp2
          all_goals
            go_ret
            refine ⟨?_, HB1.out⟩
            cases E <;> simp_all
        · go_enter Tryd.func73, Tryd.ntmps73
          go_wp2_with fail
          refine (HU.out _).mono ?_
          rintro x w1 ⟨rfl, hb1⟩
          have q1 := (hb1.cell k1.out).trans h1
          have HB1 := Lib.hid hb1
          clear hb1
          go_wp2
          all_goals
            go_ret
            refine ⟨?_, HB1.out⟩
            cases E <;> simp_all
  · by_cases hl0 : l = []
    · subst hl0
      by_cases hlo : lo < 0
      · go_enter Tryd.func73, Tryd.ntmps73
        go_wp2_with fail
        refine (HU.out _).mono ?_
        rintro x w1 ⟨rfl, hb1⟩
        have q1 := (hb1.cell k1.out).trans h1
        have HB1 := Lib.hid hb1
        clear hb1
        go_wp2
        all_goals
          go_ret
          refine ⟨?_, HB1.out⟩
          cases E <;> simp_all
      · go_enter Tryd.func73, Tryd.ntmps73
        go_wp2_with fail
        refine (HU.out _).mono ?_
        rintro x w1 ⟨rfl, hb1⟩
        have q1 := (hb1.cell k1.out).trans h1
        have HB1 := Lib.hid hb1
        clear hb1
        go_wp2
        all_goals
          go_ret
          refine ⟨?_, HB1.out⟩
          cases E <;> simp_all
    · by_cases hl1 : l = [45]
      · subst hl1
        by_cases hlo : lo < 0
        · go_enter Tryd.func73, Tryd.ntmps73
          go_wp2_with fail
          refine (HU.out _).mono ?_
          rintro x w1 ⟨rfl, hb1⟩
          have q1 := (hb1.cell k1.out).trans h1
          have HB1 := Lib.hid hb1
          clear hb1
          go_wp2
          all_goals
            go_ret
            refine ⟨?_, HB1.out⟩
            cases E <;> simp_all
        · go_enter Tryd.func73, Tryd.ntmps73
          go_wp2_with fail
          refine (HU.out _).mono ?_
          rintro x w1 ⟨rfl, hb1⟩
          have q1 := (hb1.cell k1.out).trans h1
          have HB1 := Lib.hid hb1
          clear hb1
          go_wp2
          all_goals
            go_ret
            refine ⟨?_, HB1.out⟩
            cases E <;> simp_all
      · have hl1' : l.toArray ≠ #[45] := by intro q; apply hl1; simpa using congrArg Array.toList q
        by_cases hlo : lo < 0
        · go_enter Tryd.func73, Tryd.ntmps73
          go_wp2_with fail
          refine (HU.out _).mono ?_
          rintro x w1 ⟨rfl, hb1⟩
          have q1 := (hb1.cell k1.out).trans h1
          have HB1 := Lib.hid hb1
          clear hb1
          go_wp2
          all_goals
            go_ret
            refine ⟨?_, HB1.out⟩
            cases E <;> simp_all
        · go_enter Tryd.func73, Tryd.ntmps73
          go_wp2_with fail
          refine (HU.out _).mono ?_
          rintro x w1 ⟨rfl, hb1⟩
          have q1 := (hb1.cell k1.out).trans h1
          have HB1 := Lib.hid hb1
          clear hb1
          go_wp2
          all_goals
            go_ret
            refine ⟨?_, HB1.out⟩
            cases E <;> simp_all
end Ry
end Go.Proofs.YtflmolhkbpicbaaDoor
