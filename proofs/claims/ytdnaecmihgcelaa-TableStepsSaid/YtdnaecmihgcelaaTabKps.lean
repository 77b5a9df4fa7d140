/-
  The walk of TableKeeps.
-/
import Derived.Test.YtdnaecmihgcelaaTabPks
namespace Go.Proofs.Ytdnaecmihgcelaa.Tb
open Go.RowKit

/-- two tables that the call has made -/
def Two (w0 w : World) (t u room : Nat) (l1 l2 : PL) : Prop :=
  Below w0.heap.size w0 w ∧ ∃ o1 o2, Tbl w o1 t room l1 ∧ Tbl w o2 u room l2 ∧ (∀ x ∈ o1, w0.heap.size ≤ x) ∧ (∀ x ∈ o2, w0.heap.size ≤ x) ∧ ∀ x ∈ o1, x ∉ o2
section
variable {w0 w w' : World} {t u room : Nat} {l1 l2 : PL}
theorem Two.swap (h : Two w0 w t u room l1 l2) : Two w0 w u t room l2 l1 := by
  obtain ⟨hb, o1, o2, a, b, c, d, e⟩ := h
  exact ⟨hb, o2, o1, b, a, d, c, fun x hx hc => e x hc hx⟩
theorem Two.mine (h : Two w0 w t u room l1 l2) : Mine w0 w t room l1 := by
  obtain ⟨hb, o1, o2, a, b, c, d, e⟩ := h
  exact ⟨hb, o1, a, c⟩
theorem Two.below (h : Two w0 w t u room l1 l2) (hb : Below w.heap.size w w') : Two w0 w' t u room l1 l2 := by
  obtain ⟨h1, o1, o2, a, b, c, d, e⟩ := h
  exact ⟨h1.trans (hb.mono h1.size), o1, o2, a.below hb, b.below hb, c, d, e⟩
theorem Two.step {l' : PL} {o1 o2 own' : List Nat} (h1 : Below w0.heap.size w0 w) (a : Tbl w o1 t room l1) (b : Tbl w o2 u room l2) (c : ∀ x ∈ o1, w0.heap.size ≤ x) (d : ∀ x ∈ o2, w0.heap.size ≤ x) (e : ∀ x ∈ o1, x ∉ o2)
    (a' : Tbl w' own' t room l') (k : Kept o1 w own' w') : Two w0 w' t u room l' l2 ∧ Far w w' := by
  refine ⟨⟨k.1.below h1 c h1.size, own', o2, a', b.keep k.1 (fun x hx hc => e x hc hx), fun x hx => (k.2 x hx).elim (c x) (fun h => Nat.le_trans h1.size h), d, fun x hx hc => ?_⟩, Far.of_only a k.1⟩
  rcases k.2 x hx with h | h
  · exact e x h hc
  · have := b.lt x hc; omega
theorem tDid (h : Two w0 w t u room l1 l2) (d : Act) (hk : d.2.1.size ≤ maxLen) :
    Calls Try.prog 13 #[.pointer (some ⟨t, 0, none⟩), dval d] w fun e w' => e = .returned (.tuple #[.int .i64 (stepL room l1 d).2.1, .bool (stepL room l1 d).2.2]) ∧ Two w0 w' t u room (stepL room l1 d).1 l2 ∧ Far w w' := by
  obtain ⟨h1, o1, o2, a, b, c, d1, e⟩ := h
  exact (did_calls a d hk).mono fun _ _ ⟨own', he, a', k⟩ => ⟨he, Two.step h1 a b c d1 e a' k⟩
theorem tPut (h : Two w0 w t u room l1 l2) (key : ByteArray) (hk : key.size ≤ maxLen) (v : Int) :
    Calls Try.prog 24 #[.pointer (some ⟨t, 0, none⟩), .string key, .int .i64 v] w fun e w' => e = .returned (.bool (put room l1 key v).2) ∧ Two w0 w' t u room (put room l1 key v).1 l2 ∧ Far w w' := by
  obtain ⟨h1, o1, o2, a, b, c, d1, e⟩ := h
  exact (Put_calls a key hk v).mono fun _ _ ⟨own', he, a', k⟩ => ⟨he, Two.step h1 a b c d1 e a' k⟩
theorem tDelete (h : Two w0 w t u room l1 l2) (key : ByteArray) (hk : key.size ≤ maxLen) :
    Calls Try.prog 25 #[.pointer (some ⟨t, 0, none⟩), .string key] w fun e w' => e = .returned (.bool (has l1 key)) ∧ Two w0 w' t u room (del l1 key) l2 ∧ Far w w' := by
  obtain ⟨h1, o1, o2, a, b, c, d1, e⟩ := h
  exact (Delete_calls a key hk).mono fun _ _ ⟨own', he, a', k⟩ => ⟨he, Two.step h1 a b c d1 e a' k⟩
theorem tNew (n : Int) (hr : -9223372036854775808 ≤ n ∧ n < 9223372036854775808) (h : Mine w0 w t (clipR n) l1) :
    Calls Try.prog 11 #[.int .i64 n] w fun e w' => ∃ u, e = .returned (.pointer (some ⟨u, 0, none⟩)) ∧ Two w0 w' t u (clipR n) l1 [] ∧ Below w.heap.size w w' := by
  obtain ⟨h1, o1, a, c⟩ := h
  exact (new_calls n hr w).mono fun _ _ ⟨u, own, he, h2, h3, h4⟩ => ⟨u, he, ⟨h1.trans (h3.mono h1.size), o1, own, a.below h3, h2, c, fun x hx => Nat.le_trans h1.size (h4 x hx), fun x hx hc => by have := a.lt x hx; have := h4 x hc; omega⟩, h3⟩
end
theorem step_len (room : Nat) (l : PL) (d : Act) : (stepL room l d).1.length ≤ l.length + 1 := by
  have hd : (del l d.2.1).length ≤ l.length := List.length_filter_le _ _
  unfold stepL
  split
  · unfold put
    split
    · simp; omega
    · split <;> simp
  · split
    · unfold get
      split
      · simp; omega
      · exact Nat.le_succ _
    · split
      · simp only; omega
      · simp
theorem put_new {room : Nat} {l : PL} {key : ByteArray} {v : Int} (h : has l key = false) (hl : l.length < room) : put room l key v = (l ++ [(key, v)], true) := by
  unfold put
  rw [h, if_neg (by simp), if_pos hl]
theorem del_new {l : PL} {key : ByteArray} {v : Int} (h : has l key = false) : del (l ++ [(key, v)]) key = l := by
  have := del_split (a := l) (b := []) (key := key) (v := v) (has_false.1 h) (by simp)
  simpa using this
theorem has_new {l : PL} {key : ByteArray} {v : Int} : has (l ++ [(key, v)]) key = true := has_split (a := l) (b := [])

set_option maxRecDepth 100000 in
set_option maxHeartbeats 4000000 in
theorem keeps_law (A : Option Addr) (cap : Nat) (L : List Act) (key : ByteArray) (n : Int) (w : World) (hD : Dos w A L) (hK : Keyed L) (hZ : L.length ≤ maxLen) (hk : key.size ≤ maxLen) :
    Calls Try.prog 5 #[.slice A L.length cap, .string key, .int .i64 n] w fun e w' => e = .returned (.bool true) ∧ Below w.heap.size w w' := by
  have hZ2 : L.length ≤ 9223372036854775807 := by unfold maxLen at hZ; omega
  have hk2 : key.size ≤ 9223372036854775807 := by unfold maxLen at hk; omega
  clear hZ
  by_cases h60 : 50 < L.length
  · have t1 : decide ((50 : Int) < (L.length : Int)) = true := decide_eq_true (by omega)
    clear hD hK
    go_enter Try.func5, Try.ntmps5
    go_wp2_with fail
    refine (known_calls _).mono ?_
    rintro e w8 ⟨rfl, hb8⟩
    go_wp2_with fail
    go_ret
    exact ⟨rfl, hb8⟩
  · have t1 : decide ((50 : Int) < (L.length : Int)) = false := decide_eq_false (by omega)
    have HD := Lib.hid hD
    have HK := Lib.hid hK
    have HKK := Lib.hid hk
    clear hD hK hk
    go_enter Try.func5, Try.ntmps5
    go_wp2_with fail
    refine (Long_calls A cap L w HD.out (by omega)).mono ?_
    rintro e w1 ⟨⟨m, rfl⟩, hb1⟩
    have B1 := Lib.hid hb1
    clear hb1
    by_cases h8 : 600 < m
    · go_wp2_with fail
      refine (known_calls _).mono ?_
      rintro e w8 ⟨rfl, hb8⟩
      go_wp2_with fail
      go_ret
      exact ⟨rfl, B1.out.trans (hb8.mono B1.out.size)⟩
    · by_cases h9 : 100 < key.size
      · go_wp2_with fail
        refine (known_calls _).mono ?_
        rintro e w8 ⟨rfl, hb8⟩
        go_wp2_with fail
        go_ret
        exact ⟨rfl, B1.out.trans (hb8.mono B1.out.size)⟩
      · go_wp2_with fail
        refine (mNew 100 (by omega) B1.out).mono ?_
        rintro e w2 ⟨t, rfl, h2, -⟩
        have H2 : Hid (Mine w w2 t (clipR 100) []) := Lib.hid h2
        clear h2 B1
        go_wp2_with fail
        refine (tNew 100 (by omega) H2.out).mono ?_
        rintro e w3 ⟨u, rfl, h3, -⟩
        have H3 : Hid (Two w w3 t u 100 [] []) := Lib.hid h3
        clear h3 H2
        go_wp2_with fail
        go_loopw [9] (fun i wr => ∃ k : Nat, k ≤ L.length ∧ i = .int .i64 (k : Nat) ∧ Hid (∃ p, Two w wr t u 100 p p ∧ Sized p ∧ p.length ≤ k)) (fun i _ => L.length - (intOf i).toNat)
        case atStart => exact ⟨0, Nat.zero_le _, rfl, _, H3.out, Sized.nil, Nat.le_refl _⟩
        case round =>
          obtain ⟨k, hk, rfl, HM⟩ := hrel
          obtain ⟨p, hM, hS, hpl⟩ := HM.out
          have HS := Lib.hid hS
          have HPL := Lib.hid hpl
          clear HM hS hpl
          by_cases hlt : k < L.length
          · obtain ⟨a, rfl, c0, c1, c2⟩ := (HD.out.keep hM.1).at_ hlt
            have hkk := HK.out L[k] (List.getElem_mem hlt)
            have H4 := Lib.hid hM
            clear hM
            go_wp2_with fail
            refine (tDid H4.out L[k] hkk).mono ?_
            rintro e w4 ⟨rfl, h4, -⟩
            obtain ⟨a5, ea, c0, c1, c2⟩ := (HD.out.keep h4.1).at_ hlt
            injection ea with ea
            subst ea
            have H5 := Lib.hid h4.swap
            clear h4
            go_wp2_with fail
            refine (tDid H5.out L[k] hkk).mono ?_
            rintro e w5 ⟨rfl, h5, -⟩
            have H6 := Lib.hid h5.swap
            clear h5 c0 c1 c2
            go_wp2_with fail
            go_roundw
            case rel => exact ⟨k + 1, by omega, by go_num, _, H6.out, HS.out.step _ hkk _, by have := step_len 100 p L[k]; have := HPL.out; omega⟩
            case measure => simp [intOf]; omega
          · have H4 := Lib.hid hM
            have hlen : p.length ≤ 50 := by have := HPL.out; omega
            clear hM
            go_wp2_with fail
            refine (mPeek H4.out.mine key HKK.out).mono ?_
            rintro e w5 ⟨rfl, -, hb5⟩
            have H5 := Lib.hid (H4.out.below hb5)
            clear hb5 H4 H3
            cases hb : has p key with
            | true =>
              go_wp2_with fail
              refine (known_calls _).mono ?_
              rintro e w13 ⟨rfl, hb13⟩
              have H13 := Lib.hid (H5.out.below hb13)
              clear hb13
              go_wp2_with fail
              go_ret
              exact ⟨rfl, H13.out.1⟩
            | false =>
              have HB := Lib.hid hb
              clear hb
              go_wp2_with fail
              refine (mKeys H5.out.mine).mono ?_
              rintro e w6 ⟨A2, cap2, rfl, hr, -, hb6⟩
              have H6 := Lib.hid (H5.out.below hb6)
              have R6 := Lib.hid hr
              clear hr hb6 H5
              go_wp2_with fail
              refine (tPut H6.out key HKK.out n).mono ?_
              rw [put_new HB.out (by omega)]
              rintro e w7 ⟨rfl, h7, f7⟩
              have H7 := Lib.hid h7
              have R7 := Lib.hid (R6.out.far f7)
              clear h7 f7 H6 R6
              go_wp2_with fail
              refine (tDelete H7.out key HKK.out).mono ?_
              rw [has_new, del_new HB.out]
              rintro e w8 ⟨rfl, h8, f8⟩
              have H8 := Lib.hid h8
              have R8 := Lib.hid (R7.out.far f8)
              clear h8 f8 H7 R7
              go_wp2_with fail
              refine (tDelete H8.out key HKK.out).mono ?_
              rw [HB.out, del_none HB.out]
              rintro e w9 ⟨rfl, h9, f9⟩
              have H9 := Lib.hid h9
              have R9 := Lib.hid (R8.out.far f9)
              clear h9 f9 H8 R8
              go_wp2_with fail
              go_loopw [13] (fun i wr => ∃ j : Nat, j ≤ p.length ∧ i = .int .i64 (j : Nat) ∧ Hid (Two w wr t u 100 p p ∧ ∃ B, SRow wr B (.slice A2 p.length cap2) (p.map (·.1)))) (fun i _ => p.length - (intOf i).toNat)
              case atStart => exact ⟨0, Nat.zero_le _, rfl, H9.out, _, R9.out⟩
              case round =>
                obtain ⟨j, hj, rfl, HJ⟩ := hrel
                obtain ⟨hT, B, hR⟩ := HJ.out
                have H10 := Lib.hid hT
                have R10 := Lib.hid hR
                clear HJ hT hR H9 R9
                by_cases hlt2 : j < p.length
                · obtain ⟨a2, ea, hc⟩ := R10.out.texts.2.at_ (i := j) (by rw [List.length_map]; exact hlt2)
                  subst ea
                  rw [List.getElem_map] at hc
                  have hsz := HS.out p[j] (List.getElem_mem hlt2)
                  go_wp2_with fail
                  refine (mPeek H10.out.mine p[j].1 hsz).mono ?_
                  rintro e w11 ⟨rfl, -, hb11⟩
                  have H11 := Lib.hid (H10.out.below hb11)
                  have R11 := Lib.hid (R10.out.below hb11)
                  clear hb11 hc H10 R10
                  obtain ⟨a3, ea, hc⟩ := R11.out.texts.2.at_ (i := j) (by rw [List.length_map]; exact hlt2)
                  injection ea with ea
                  subst ea
                  rw [List.getElem_map] at hc
                  go_wp2_with fail
                  refine (mPeek H11.out.swap.mine p[j].1 hsz).mono ?_
                  rintro e w12 ⟨rfl, -, hb12⟩
                  have H12 := Lib.hid (H11.out.below hb12)
                  have R12 := Lib.hid (R11.out.below hb12)
                  clear hb12 hc H11 R11
                  go_wp2_with fail
                  go_roundw
                  case rel => exact ⟨j + 1, by omega, by go_num, H12.out, _, R12.out⟩
                  case measure => simp [intOf]; omega
                · have HL := Lib.hid (show (p.map (·.1)).length ≤ 20000 by rw [List.length_map]; omega)
                  go_wp2_with fail
                  refine (mKeys H10.out.mine).mono ?_
                  rintro e w11 ⟨A5, cap5, rfl, hr, -, hb11⟩
                  have H11 := Lib.hid (H10.out.below hb11)
                  have R11 := Lib.hid (R10.out.below hb11)
                  have Q11 := Lib.hid hr
                  clear hr hb11 H10 R10
                  go_wp2_with fail
                  refine (mSame Q11.out R11.out HL.out).mono ?_
                  rintro e w12 ⟨rfl, hb12⟩
                  have H12 := Lib.hid (H11.out.below hb12)
                  have R12 := Lib.hid (R11.out.below hb12)
                  clear hb12 H11 R11 Q11
                  go_wp2_with fail
                  refine (mKeys H12.out.swap.mine).mono ?_
                  rintro e w13 ⟨A6, cap6, rfl, hr, -, hb13⟩
                  have H13 := Lib.hid (H12.out.below hb13)
                  have R13 := Lib.hid (R12.out.below hb13)
                  have Q13 := Lib.hid hr
                  clear hr hb13 H12 R12
                  go_wp2_with fail
                  refine (mSame Q13.out R13.out HL.out).mono ?_
                  rintro e w14 ⟨rfl, hb14⟩
                  have H14 := Lib.hid (H13.out.below hb14)
                  clear hb14 H13 R13 Q13
                  go_wp2_with fail
                  refine (known_calls _).mono ?_
                  rintro e w15 ⟨rfl, hb15⟩
                  have H15 := Lib.hid (H14.out.below hb15)
                  clear hb15
                  go_wp2_with fail
                  go_ret
                  exact ⟨rfl, H15.out.1⟩

end Go.Proofs.Ytdnaecmihgcelaa.Tb
