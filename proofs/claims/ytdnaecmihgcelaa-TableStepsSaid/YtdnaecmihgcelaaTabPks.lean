/-
  The walk of TablePeeks.
-/
import Derived.Test.YtdnaecmihgcelaaTabOld
namespace Go.Proofs.Ytdnaecmihgcelaa.Tb
open Go.RowKit

theorem wpList_append_str {w : World} {ops : Array Oper} {rest : List Oper} {o : Oper} {a : Go.Act} {Q : Exit → Go.Act → World → Prop} (hgd : o.guard = none) (s x : Operand)
    (ho : o.op = .call { callee := .builtin .append, args := #[s, x], argTypes := #[43, 43] })
    (B : Nat) (v : Value) (l : List ByteArray) (hs : a.eval s = v) (hown : SRow w B v l) (g : Nat) (key : ByteArray) (hx : a.eval x = .slice (some ⟨g, 0, none⟩) 1 1)
    (hg : w.heap[g]? = some (.cells #[.string key] 9 (0, 0))) (hn : l.length ≤ 20000) (hB : B ≤ w.heap.size)
    (h : ∀ v' w', SRow w' B v' (l ++ [key]) → w.grownBy w' v.ownBlock → wpList Try.prog ops Q rest (a.put o.dst v') w') : wpList Try.prog ops Q (o :: rest) a w := by
  obtain ⟨i0, hi, hz0, hz1, hz2⟩ := str_parts
  refine wpList_append_own w hgd s x 43 ho B 9 i0 _ 1 16 Try.underlying43 hi hz0 hz1 hz2 rfl (by decide) v l.length (l.map fun p => .string p) hs hown ⟨g, 0, none⟩ 1 1 [.string key] hx rfl ?_ ?_ (by unfold maxLen; omega) (by omega) hB (fun v' w' h2 h3 _ => h v' w' ?_ h3)
  · intro j u hj
    have : ((⟨g, 0, none⟩ : Addr).add j) = ⟨g, j, none⟩ := by unfold Addr.add; split <;> simp_all
    rw [this, cell_of_row _ _ _ _ _ _ hg]
    simpa using hj
  · intro u hu; simp at hu; subst hu; rfl
  · unfold SRow
    rw [List.length_append, List.map_append]
    exact h2
theorem SRow.grown {w w0 w' : World} {B : Nat} {v : Value} {l : List ByteArray} (ho : SRow w B v l) (hg : w.grownBy w' v.ownBlock) (hb : Below B w0 w) (hB : B ≤ w.heap.size) : Below B w0 w' :=
  hb.grown hg hB (fun k hk => (World.ownsRow.lt ho k hk).1)
theorem SRow.alloc {w : World} {B : Nat} {v : Value} {l : List ByteArray} (h : SRow w B v l) (o : Obj) : SRow (w.alloc o) B v l := h.below ((Below.refl _ _).alloc (Nat.le_refl _) _)
theorem SRow.nil (w : World) (B : Nat) : SRow w B (.slice none 0 0) [] := World.ownsRow_nil _ _ _ _
theorem SRow.len {w : World} {B : Nat} {v : Value} {l : List ByteArray} (h : SRow w B v l) : ∃ A cap, v = .slice A l.length cap := by obtain ⟨A, cap, e, _⟩ := h.view; exact ⟨A, cap, e⟩

theorem SRow.form {w : World} {B : Nat} {v : Value} {l : List ByteArray} (h : SRow w B v l) : ∃ A n cap, v = .slice A n cap := by obtain ⟨A, cap, e, _⟩ := h.view; exact ⟨A, _, cap, e⟩
/-- the keys but one -/
def others (p : PL) (key : ByteArray) : List ByteArray := (p.map (·.1)).filter fun k => decide (¬ k = key)
theorem others_take {p : PL} {key : ByteArray} {j : Nat} (h : j < p.length) : others (p.take (j + 1)) key = others (p.take j) key ++ if p[j].1 = key then [] else [p[j].1] := by
  unfold others
  rw [List.take_succ_eq_append_getElem h, List.map_append, List.filter_append]
  by_cases e : p[j].1 = key <;> simp [e]
theorem others_len (p : PL) (key : ByteArray) : (others p key).length ≤ p.length := by
  unfold others
  have := List.length_filter_le (fun k => decide (¬ k = key)) (p.map (·.1))
  rw [List.length_map] at this
  exact this
theorem del_keys (p : PL) (key : ByteArray) : (del p key).map (·.1) = others p key := by
  unfold del others
  rw [List.filter_map]
  rfl
theorem get_keys (p : PL) (key : ByteArray) : (get p key).map (·.1) = others p key ++ if has p key = true then [key] else [] := by
  unfold get
  cases h : has p key with
  | true => simp [del_keys]
  | false =>
    have : others p key = p.map (·.1) := by rw [← del_keys, del_none h]
    simp [this]

theorem mSame {w : World} {B C cap1 cap2 n1 n2 : Nat} {A1 A2 : Option Addr} {ps : List ByteArray} (h1 : SRow w B (.slice A1 n1 cap1) ps) (h2 : SRow w C (.slice A2 n2 cap2) ps) (hl : ps.length ≤ 20000) :
    Calls Try.prog 19 #[.slice A1 n1 cap1, .slice A2 n2 cap2] w fun e w' => e = .returned (.bool true) ∧ Below w.heap.size w w' := by
  obtain ⟨e1, t1⟩ := h1.texts
  obtain ⟨e2, t2⟩ := h2.texts
  subst e1 e2
  have := Hs.same_calls A1 A2 cap1 cap2 ps ps w t1 t2 (by unfold maxLen; omega)
  rw [same_self] at this
  exact this

set_option maxRecDepth 100000 in
set_option maxHeartbeats 4000000 in
theorem peeks_law (A : Option Addr) (cap : Nat) (L : List Act) (key : ByteArray) (w : World) (hD : Dos w A L) (hK : Keyed L) (hZ : L.length ≤ maxLen) (hk : key.size ≤ maxLen) :
    Calls Try.prog 7 #[.slice A L.length cap, .string key] w fun e w' => e = .returned (.bool true) ∧ Below w.heap.size w w' := by
  have hZ2 : L.length ≤ 9223372036854775807 := by unfold maxLen at hZ; omega
  have hk2 : key.size ≤ 9223372036854775807 := by unfold maxLen at hk; omega
  clear hZ
  by_cases h60 : 60 < L.length
  · have t1 : decide ((60 : Int) < (L.length : Int)) = true := decide_eq_true (by omega)
    clear hD hK
    go_enter Try.func7, Try.ntmps7
    go_wp2_with fail
    refine (known_calls _).mono ?_
    rintro e w8 ⟨rfl, hb8⟩
    go_wp2_with fail
    go_ret
    exact ⟨rfl, hb8⟩
  · have t1 : decide ((60 : Int) < (L.length : Int)) = false := decide_eq_false (by omega)
    have HD := Lib.hid hD
    have HK := Lib.hid hK
    have HKK := Lib.hid hk
    clear hD hK hk
    go_enter Try.func7, Try.ntmps7
    go_wp2_with fail
    refine (Long_calls A cap L w HD.out (by omega)).mono ?_
    rintro e w1 ⟨⟨m, rfl⟩, hb1⟩
    have B1 := Lib.hid hb1
    clear hb1
    by_cases h8 : 800 < m
    · go_wp2_with fail
      refine (known_calls _).mono ?_
      rintro e w8 ⟨rfl, hb8⟩
      go_wp2_with fail
      go_ret
      exact ⟨rfl, B1.out.trans (hb8.mono B1.out.size)⟩
    · by_cases h9 : 100 < key.size
      · go_wp2_with fail
        refine (known_calls _).mono ?_
        rintro e w8 ⟨rfl, hb8⟩
        go_wp2_with fail
        go_ret
        exact ⟨rfl, B1.out.trans (hb8.mono B1.out.size)⟩
      · go_wp2_with fail
        refine (mNew 50 (by omega) B1.out).mono ?_
        rintro e w2 ⟨t, rfl, h2, -⟩
        have H2 : Hid (Mine w w2 t 50 []) := Lib.hid h2
        clear h2 B1
        go_wp2_with fail
        go_loopw [6] (fun i wr => ∃ k : Nat, k ≤ L.length ∧ i = .int .i64 (k : Nat) ∧ Hid (∃ p, Mine w wr t 50 p ∧ Sized p)) (fun i _ => L.length - (intOf i).toNat)
        case atStart => exact ⟨0, Nat.zero_le _, rfl, _, H2.out, Sized.nil⟩
        case round =>
          obtain ⟨k, hk, rfl, HM⟩ := hrel
          obtain ⟨p, hM, hS⟩ := HM.out
          have HS := Lib.hid hS
          clear HM hS
          by_cases hlt : k < L.length
          · obtain ⟨a, rfl, c0, c1, c2⟩ := (HD.out.keep hM.1).at_ hlt
            have hkk := HK.out L[k] (List.getElem_mem hlt)
            have H3 := Lib.hid hM
            clear hM
            go_wp2_with fail
            refine (mDid H3.out L[k] hkk).mono ?_
            rintro e w4 ⟨rfl, h4, -⟩
            have H4 := Lib.hid h4
            clear h4 c0 c1 c2
            go_wp2_with fail
            go_roundw
            case rel => exact ⟨k + 1, by omega, by go_num, _, H4.out, HS.out.step _ hkk _⟩
            case measure => simp [intOf]; omega
          · have H3 := Lib.hid hM
            have hlen := hM.len_le
            clear hM
            go_wp2_with fail
            refine (mKeys H3.out).mono ?_
            rintro e w5 ⟨A2, cap2, rfl, hr, h5, -⟩
            have H5 := Lib.hid h5
            have R5 := Lib.hid hr
            clear h5 hr H3 H2
            go_wp2_with fail
            refine (mPeek H5.out key HKK.out).mono ?_
            rintro e w6 ⟨rfl, h6, hb6⟩
            have H6 := Lib.hid h6
            have R6 := Lib.hid (R5.out.below hb6)
            clear h6 hb6 H5 R5
            go_wp2_with fail
            refine (mKeys H6.out).mono ?_
            rintro e w7 ⟨A3, cap3, rfl, hr, h7, hb7⟩
            have H7 := Lib.hid h7
            have R7 := Lib.hid (R6.out.below hb7)
            have Q7 := Lib.hid hr
            clear h7 hb7 hr H6 R6
            go_wp2_with fail
            refine (mSame Q7.out R7.out (by rw [List.length_map]; omega)).mono ?_
            rintro e w8 ⟨rfl, hb8⟩
            have H8 := Lib.hid (H7.out.below hb8)
            have R8 := Lib.hid (R7.out.below hb8)
            clear hb8 H7 R7 Q7
            go_wp2_with fail
            refine (mGet H8.out key HKK.out).mono ?_
            rintro e w9 ⟨rfl, h9, f9⟩
            have H9 := Lib.hid h9
            have R9 := Lib.hid (R8.out.far f9)
            clear h9 f9 H8 R8
            go_wp2_with fail
            go_loopw [12, 13] (fun v i wr => ∃ j : Nat, j ≤ p.length ∧ i = .int .i64 (j : Nat) ∧ Hid (SRow wr w9.heap.size v (others (p.take j) key) ∧ Below w9.heap.size w9 wr)) (fun _ i _ => p.length - (intOf i).toNat)
            case atStart => exact ⟨0, Nat.zero_le _, rfl, SRow.nil _ _, Below.refl _ _⟩
            case round =>
              obtain ⟨j, hj, rfl, HJ⟩ := hrel
              by_cases hlt2 : j < p.length
              · obtain ⟨a2, ea, hc⟩ := (R9.out.below HJ.out.2).texts.2.at_ (i := j) (by rw [List.length_map]; exact hlt2)
                subst ea
                rw [List.getElem_map] at hc
                by_cases hx : p[j].1 = key
                · have tq := str_eq hx
                  have HN := Lib.hid (show others (p.take (j + 1)) key = others (p.take j) key by rw [others_take hlt2, if_pos hx, List.append_nil])
                  clear hx
                  go_wp2_with fail
                  go_roundw
                  case rel => exact ⟨j + 1, by omega, by go_num, by rw [HN.out]; exact HJ.out.1, HJ.out.2⟩
                  case measure => simp [intOf]; omega
                · have tq := str_ne hx
                  have HN := Lib.hid (show others (p.take (j + 1)) key = others (p.take j) key ++ [p[j].1] by rw [others_take hlt2, if_neg hx])
                  have HL := Lib.hid (show (others (p.take j) key).length ≤ 20000 by have := others_len (p.take j) key; have := List.length_take_le j p; omega)
                  clear hx
                  go_wp2_with (at_builtin; refine wpList_append_str rfl _ _ rfl w9.heap.size _ _ rfl (HJ.out.1.alloc _) wr.heap.size p[j].1 rfl (heap_alloc_new wr _) HL.out ?c5 ?_)
                  case c5 => have := HJ.out.2.size; simp; omega
                  intro v' w10 ho10 hg10
                  have B10 := Lib.hid ((HJ.out.1.alloc (.cells #[.string p[j].1] 9)).grown hg10 (HJ.out.2.alloc HJ.out.2.size _) (by have := HJ.out.2.size; simp; omega))
                  have O10 := Lib.hid ho10
                  clear ho10 hg10 hc
                  go_wp2_with fail
                  go_roundw
                  case rel => exact ⟨j + 1, by omega, by go_num, by rw [HN.out]; exact O10.out, B10.out⟩
                  case measure => simp [intOf]; omega
              · have HJ2 : Hid (SRow wr w9.heap.size u12 (others p key)) := Lib.hid (by
                  have := HJ.out.1
                  rw [List.take_of_length_le (by omega)] at this
                  exact this)
                have BJ := Lib.hid HJ.out.2
                have Bz := Lib.hid (show w9.heap.size ≤ wr.heap.size from HJ.out.2.size)
                have HL := Lib.hid (show (others p key).length ≤ 20000 by have := others_len p key; omega)
                have HL2 := Lib.hid (show (others p key ++ [key]).length ≤ 20000 by have := others_len p key; rw [List.length_append]; show _ + 1 ≤ _; omega)
                have HGK := Lib.hid (get_keys p key)
                clear HJ R9
                cases hb : has p key with
                | true =>
                  have HG2 := Lib.hid (show (get p key).map (·.1) = others p key ++ [key] by rw [HGK.out, hb]; rfl)
                  clear hb HGK
                  go_wp2_with (at_builtin; refine wpList_append_str rfl _ _ rfl w9.heap.size _ _ rfl (HJ2.out.alloc _) wr.heap.size key rfl (heap_alloc_new wr _) HL.out ?c5 ?_)
                  case c5 => have := Bz.out; simp; omega
                  intro v' w10 ho10 hg10
                  have B10 : Hid (Below w9.heap.size w9 w10) := Lib.hid ((HJ2.out.alloc (.cells #[.string key] 9)).grown hg10 (BJ.out.alloc Bz.out _) (by have := Bz.out; simp; omega))
                  obtain ⟨A4, n4, cap4, rfl⟩ := ho10.form
                  have O10 := Lib.hid ho10
                  have H10 := Lib.hid (H9.out.below B10.out)
                  clear ho10 hg10 HJ2 BJ B10 H9
                  go_wp2_with fail
                  refine (mKeys H10.out).mono ?_
                  rintro e w11 ⟨A5, cap5, rfl, hr, h11, hb11⟩
                  rw [HG2.out] at hr
                  generalize (get p key).length = n5 at hr ⊢
                  have H11 := Lib.hid h11
                  have R11 := Lib.hid hr
                  have O11 := Lib.hid (O10.out.below hb11)
                  clear h11 hr hb11 H10 O10
                  go_wp2_with fail
                  refine (mSame R11.out O11.out HL2.out).mono ?_
                  rintro e w12 ⟨rfl, hb12⟩
                  have H12 := Lib.hid (H11.out.below hb12)
                  clear hb12 H11 R11 O11
                  go_wp2_with fail
                  refine (known_calls _).mono ?_
                  rintro e w13 ⟨rfl, hb13⟩
                  have H13 := Lib.hid (H12.out.below hb13)
                  clear hb13
                  go_wp2_with fail
                  go_ret
                  exact ⟨rfl, H13.out.1⟩
                | false =>
                  have HG2 := Lib.hid (show (get p key).map (·.1) = others p key by rw [HGK.out, hb]; simp)
                  clear hb HGK
                  obtain ⟨A4, n4, cap4, rfl⟩ := HJ2.out.form
                  have H10 := Lib.hid (H9.out.below BJ.out)
                  clear BJ H9
                  go_wp2_with fail
                  refine (mKeys H10.out).mono ?_
                  rintro e w11 ⟨A5, cap5, rfl, hr, h11, hb11⟩
                  rw [HG2.out] at hr
                  generalize (get p key).length = n5 at hr ⊢
                  have H11 := Lib.hid h11
                  have R11 := Lib.hid hr
                  have O11 := Lib.hid (HJ2.out.below hb11)
                  clear h11 hr hb11 H10 HJ2
                  go_wp2_with fail
                  refine (mSame R11.out O11.out HL.out).mono ?_
                  rintro e w12 ⟨rfl, hb12⟩
                  have H12 := Lib.hid (H11.out.below hb12)
                  clear hb12 H11 R11 O11
                  go_wp2_with fail
                  refine (known_calls _).mono ?_
                  rintro e w13 ⟨rfl, hb13⟩
                  have H13 := Lib.hid (H12.out.below hb13)
                  clear hb13
                  go_wp2_with fail
                  go_ret
                  exact ⟨rfl, H13.out.1⟩

end Go.Proofs.Ytdnaecmihgcelaa.Tb
