/-
  What the document's own may, number answer, in any world.
-/
import Derived.Test.YtflmolhkbpicbaaDoorKGRow
import Derived.Test.YtflmolhkbpicbaaDoorKGDig
namespace Go.Proofs.YtflmolhkbpicbaaDoor.Ry
open Go.RowKit

set_option maxRecDepth 100000 in
theorem num_parse (s : Bytes) : Dg.num? s = parseR s := by
  unfold Dg.num? parseR
  by_cases h : -9223372036854775808 ≤ Dg.worth s ∧ Dg.worth s ≤ 9223372036854775807 ∧ Dg.txt (Dg.worth s) = s
  · rw [if_pos h, if_pos ⟨h.2.2, h.1, h.2.1⟩]
  · rw [if_neg h, if_neg (fun g => h ⟨g.2.1, g.2.2, g.1⟩)]
set_option maxRecDepth 100000 in
theorem text_eq (s : ByteArray) (l : Bytes) (b : Bool) (h : decide (s.data.toList = l) = b) : (s.toList == l) = b := by
  rw [Lib.toList_data, ← h]
  by_cases e : s.data.toList = l <;> simp [e]

set_option maxRecDepth 100000 in
set_option maxHeartbeats 1000000 in
theorem may_calls (s : ByteArray) (lo hi : Int) (w : World) (_h1 : -9223372036854775808 ≤ lo) (_h2 : lo ≤ 9223372036854775807) (_h3 : -9223372036854775808 ≤ hi) (_h4 : hi ≤ 9223372036854775807) :
    Calls Tryd.prog 45 #[.string s, .int .i64 lo, .int .i64 hi] w fun e w' => e = .returned (.bool (mayR lo hi s.data.toList)) ∧ Below w.heap.size w w' := by
  go_enter Tryd.func45, Tryd.ntmps45
  have E1 := text_eq s [] _ rfl
  have E2 := text_eq s [45] _ rfl
  generalize hm : mayR lo hi s.data.toList = m
  unfold mayR at hm
  generalize decide (s.data.toList = []) = b1 at E1 hm
  generalize decide (s.data.toList = [45]) = b2 at E2 hm
  have HM := Lib.hid hm
  clear hm
  cases b1
  · cases b2
    · skip
      cases hn : Dg.num? s.data.toList with
      | none =>
        have HN := Lib.hid hn
        have HM2 : Hid (m = false) := Lib.hid (by
          have := HM.out
          rw [← num_parse, hn] at this
          rw [← this]; simp [*])
        clear hn HM
        go_wp2_with fail
        refine (Dg.refparse_none s _ HN.out).mono ?_
        rintro e w1 ⟨c, ⟨rfl, hc1, hc2⟩, hb⟩
        go_wp2_with fail
        go_ret
        rw [HM2.out]
        exact ⟨rfl, hb⟩
      | some n =>
        have HN := Lib.hid hn
        have HM2 : Hid (m = (decide (lo ≤ n) && decide (n ≤ hi))) := Lib.hid (by
          have := HM.out
          rw [← num_parse, hn] at this
          rw [← this]; simp [*])
        have hc := Dg.num_some hn
        have hc1 := hc.1
        have hc2 := hc.2.1
        clear hn HM hc
        by_cases q1 : n ≤ hi
        · go_wp2_with fail
          refine (Dg.refparse_some s _ n HN.out).mono ?_
          rintro e w1 ⟨rfl, hb⟩
          go_wp2_with fail
          go_ret
          rw [HM2.out, decide_eq_true q1, Bool.and_true]
          exact ⟨rfl, hb⟩
        · go_wp2_with fail
          refine (Dg.refparse_some s _ n HN.out).mono ?_
          rintro e w1 ⟨rfl, hb⟩
          go_wp2_with fail
          go_ret
          rw [HM2.out, decide_eq_false (by omega : ¬ n ≤ hi), Bool.and_false]
          exact ⟨rfl, hb⟩
    · by_cases q0 : lo < 0
      · go_wp2_with fail
        go_ret
        rw [← HM.out, decide_eq_true q0]
        exact ⟨rfl, Below.refl _ _⟩
      · have q00 : decide (lo < 0) = false := decide_eq_false q0
        cases hn : Dg.num? s.data.toList with
        | none =>
          have HN := Lib.hid hn
          have HM2 : Hid (m = false) := Lib.hid (by
            have := HM.out
            rw [← num_parse, hn] at this
            rw [← this]; simp [*])
          clear hn HM
          go_wp2_with fail
          refine (Dg.refparse_none s _ HN.out).mono ?_
          rintro e w1 ⟨c, ⟨rfl, hc1, hc2⟩, hb⟩
          go_wp2_with fail
          go_ret
          rw [HM2.out]
          exact ⟨rfl, hb⟩
        | some n =>
          have HN := Lib.hid hn
          have HM2 : Hid (m = (decide (lo ≤ n) && decide (n ≤ hi))) := Lib.hid (by
            have := HM.out
            rw [← num_parse, hn] at this
            rw [← this]; simp [*])
          have hc := Dg.num_some hn
          have hc1 := hc.1
          have hc2 := hc.2.1
          clear hn HM hc
          by_cases q1 : n ≤ hi
          · go_wp2_with fail
            refine (Dg.refparse_some s _ n HN.out).mono ?_
            rintro e w1 ⟨rfl, hb⟩
            go_wp2_with fail
            go_ret
            rw [HM2.out, decide_eq_true q1, Bool.and_true]
            exact ⟨rfl, hb⟩
          · go_wp2_with fail
            refine (Dg.refparse_some s _ n HN.out).mono ?_
            rintro e w1 ⟨rfl, hb⟩
            go_wp2_with fail
            go_ret
            rw [HM2.out, decide_eq_false (by omega : ¬ n ≤ hi), Bool.and_false]
            exact ⟨rfl, hb⟩
  · go_wp2_with fail
    go_ret
    rw [← HM.out]
    exact ⟨rfl, Below.refl _ _⟩

/-- a number, or an error -/
def RdN (R : Rd Int) (e : Ending) : Prop := match R with
  | .ok n r => e = .returned (.tuple #[tv (bat r) 0, .int .i64 n])
  | .err k => ∃ s c, e = .returned (.tuple #[tv s (k : Nat), .int .i64 c])
set_option maxRecDepth 100000 in
theorem pre_len (s : ByteArray) : (pre s.data.toList).length ≤ s.size := by
  have h : pre s.data.toList <+: s.data.toList := List.takeWhile_prefix _
  exact h.length_le
set_option maxRecDepth 100000 in
theorem pre_take (s : Bytes) : s.take (pre s).length = pre s := by
  have h : pre s <+: s := List.takeWhile_prefix _
  exact (List.prefix_iff_eq_take.1 h).symm
set_option maxRecDepth 100000 in
theorem pre_at (s : ByteArray) (k : Nat) (h : k < s.size) (hk : k < (pre s.data.toList).length) : s[k] ≠ 13 := by
  have h' : k < s.data.toList.length := h
  have e : (pre s.data.toList)[k] = s.data.toList[k] := by
    have : (s.data.toList.take (pre s.data.toList).length)[k]'(by simp; omega) = s.data.toList[k] := by simp
    rw [← this]
    congr 1
    exact (pre_take _).symm
  have := pre_all s.data.toList _ (List.getElem_mem hk)
  rw [e] at this
  exact this
set_option maxRecDepth 100000 in
theorem pre_end (s : ByteArray) (h : (pre s.data.toList).length < s.size) : s[(pre s.data.toList).length] = 13 := by
  rcases pre_cases s.data.toList with ⟨hp, _⟩ | ⟨r, hs⟩
  · rw [hp] at h; exact absurd h (Nat.lt_irrefl _)
  · have h' : (pre s.data.toList).length < s.data.toList.length := h
    show s.data.toList[(pre s.data.toList).length] = 13
    rw [List.getElem_of_eq hs, List.getElem_append_right (Nat.le_refl _)]
    simp
set_option maxRecDepth 100000 in
/-- a number that is read is one -/
theorem num_read {lo hi : Int} {s t r : Bytes} (h : textR [] s = .ok t r) (hm : mayR lo hi (pre s) = true) (hn : ¬ ((pre s).length < s.length ∧ (pre s = [] ∨ pre s = [45]))) : ∃ n, parseR t = some n ∧ numR lo hi s = .ok n r := by
  obtain ⟨t', h1, h2, h3⟩ := text_ok h
  rw [List.nil_append] at h1
  subst h1
  have hp : pre s = t := by
    rw [h2, show t ++ crlf ++ r = t ++ 13 :: (10 :: r) by simp [crlf]]
    exact pre_line fun c hc => (h3 c hc).1
  have hl : (pre s).length < s.length := by rw [hp, h2]; simp [crlf]
  have hne : ¬ (pre s = [] ∨ pre s = [45]) := fun g => hn ⟨hl, g⟩
  have hpar : ∃ n, parseR t = some n := by
    unfold mayR at hm
    rw [hp] at hm hne
    simp only [Bool.or_eq_true, Bool.and_eq_true, decide_eq_true_eq] at hm
    rcases hm with (hm | ⟨hm, _⟩) | hm
    · exact absurd (.inl hm) hne
    · exact absurd (.inr hm) hne
    · cases hq : parseR t with
      | none => rw [hq] at hm; cases hm
      | some n => exact ⟨n, rfl⟩
  obtain ⟨n, hq⟩ := hpar
  refine ⟨n, hq, ?_⟩
  unfold numR
  rw [if_neg (by rw [hm]; rintro (g | g); cases g; exact hn g), h]
  simp [hq]
set_option maxRecDepth 100000 in
theorem num_err {lo hi : Int} {s : Bytes} {k : Nat} (h : textR [] s = .err k) (hm : mayR lo hi (pre s) = true) (hn : ¬ ((pre s).length < s.length ∧ (pre s = [] ∨ pre s = [45]))) : numR lo hi s = .err k := by
  unfold numR
  rw [if_neg (by rw [hm]; rintro (g | g); cases g; exact hn g), h]

set_option maxHeartbeats 2000000 in
set_option maxRecDepth 100000 in
theorem number_calls (s : ByteArray) (lo hi : Int) (w : World) (hs : s.size ≤ 1099511627776) (h1 : -9223372036854775808 ≤ lo) (h2 : lo ≤ 9223372036854775807) (h3 : -9223372036854775808 ≤ hi) (h4 : hi ≤ 9223372036854775807) :
    Calls Tryd.prog 32 #[tv s 0, .int .i64 lo, .int .i64 hi] w fun e w' => RdN (numR lo hi s.data.toList) e ∧ Below w.heap.size w w' := by
  unfold tv
  go_enter Tryd.func32, Tryd.ntmps32
  go_wp2_with fail
  obtain ⟨hb, x1, x2⟩ := two_boxes w 57 57 #[.string s, .int .i64 0] #[.string ⟨#[]⟩, .int .i64 0]
  generalize (w.alloc (.cells #[.string s, .int .i64 0] 57)).alloc (.cells #[.string ⟨#[]⟩, .int .i64 0] 57) = W0 at hb x1 x2 ⊢
  have HB := Lib.hid hb
  have X1 := Lib.hid x1
  have X2 := Lib.hid x2
  have c0 : W0.cell? ⟨w.heap.size, 0, none⟩ = some (.string s) := x1.cell 0
  have c1 : W0.cell? ⟨w.heap.size, 1, none⟩ = some (.int .i64 0) := x1.cell 1
  clear hb x1 x2
  go_loopw [8] (fun i wr => ∃ k : Nat, k ≤ s.size ∧ i = .int .i64 (k : Nat) ∧ wr = W0 ∧ Hid (k ≤ (pre s.data.toList).length)) (fun i _ => s.size - (intOf i).toNat)
  case atStart => exact ⟨0, Nat.zero_le _, rfl, rfl, Lib.hid (Nat.zero_le _)⟩
  case round =>
    obtain ⟨k, hk, rfl, hw0, HR⟩ := hrel
    subst hw0
    by_cases hp : k < (pre s.data.toList).length
    · have hlt : k < s.size := Nat.lt_of_lt_of_le hp (pre_len s)
      have i1 : (k : Int) < (s.size : Int) := by omega
      have t1 : ((s[k].toNat : Int) != 13) = true := by
        rw [bne_iff_ne]; intro e; exact pre_at s k hlt hp (UInt8.toNat.inj (by show s[k].toNat = 13; omega))
      have HR2 : Hid (k + 1 ≤ (pre s.data.toList).length) := Lib.hid hp
      clear hp
      go_wp2_with fail
      go_roundw
      case rel => exact ⟨k + 1, by omega, by go_num, trivial, HR2⟩
      case measure => simp [intOf]; omega
    · have hke : k = (pre s.data.toList).length := by have := HR.out; omega
      have HK := Lib.hid hke
      have HX : Hid ((s.extract 0 k).data.toList = pre s.data.toList) := Lib.hid (by rw [extract_take, hke, pre_take])
      by_cases hlt : k < s.size
      · have i1 : (k : Int) < (s.size : Int) := by omega
        have t1 : ((s[k].toNat : Int) != 13) = false := by
          have e : s[k] = 13 := by subst hke; exact pre_end s hlt
          rw [e]; rfl
        clear hp hke
        cases hm : mayR lo hi (pre s.data.toList)
        · have HE : Hid (numR lo hi s.data.toList = .err 9) := Lib.hid (by unfold numR; rw [if_pos (.inl hm)])
          have MC : ∀ w, Calls Tryd.prog 45 #[.string (s.extract 0 k), .int .i64 lo, .int .i64 hi] w fun e w' => e = .returned (.bool false) ∧ Below w.heap.size w w' := fun w => by
            have := may_calls (s.extract 0 k) lo hi w h1 h2 h3 h4
            rw [HX.out, hm] at this
            exact this
          clear hm
          go_wp2_with fail
          refine (MC _).mono ?_
          rintro e w1 ⟨rfl, hb1⟩
          have X3 := Lib.hid (X2.out.keep hb1)
          have X4 := Lib.hid (X1.out.keep hb1)
          have HB1 := Lib.hid (HB.out.trans (hb1.mono HB.out.size))
          have c0 := X4.out.cell 0
          have c1 := X4.out.cell 1
          simp only [List.getElem?_toArray, List.getElem?_cons_zero, List.getElem?_cons_succ] at c0 c1
          clear hb1
          go_wp2_with fail
          refine (fail_calls s 9 _).mono ?_
          rintro e w2 ⟨rfl, hb1⟩
          have X5 := Lib.hid (X3.out.keep hb1)
          have HB2 := Lib.hid (HB1.out.trans (hb1.mono HB1.out.size))
          have z0 := X5.out.free 0
          have z1 := X5.out.free 1
          have c0 := X5.out.cell 0
          have c1 := X5.out.cell 1
          simp only [List.getElem?_toArray, List.getElem?_cons_zero, List.getElem?_cons_succ] at c0 c1
          clear hb1
          go_wp2_with fail
          refine ret_t2 Tryd.results32 rfl rfl rfl ((X5.out.set 0 _).set 1 _) ?_
          rw [HE.out]
          exact ⟨⟨_, _, rfl⟩, (HB2.out.setCell (by simp) _).setCell (by simp) _⟩
        · have MC : ∀ w, Calls Tryd.prog 45 #[.string (s.extract 0 k), .int .i64 lo, .int .i64 hi] w fun e w' => e = .returned (.bool true) ∧ Below w.heap.size w w' := fun w => by
            have := may_calls (s.extract 0 k) lo hi w h1 h2 h3 h4
            rw [HX.out, hm] at this
            exact this
          have E2 := text_eq (s.extract 0 k) [45] _ rfl
          rw [HX.out] at E2
          by_cases q0 : pre s.data.toList = [] ∨ pre s.data.toList = [45]
          · have HE : Hid (numR lo hi s.data.toList = .err 9) := Lib.hid (by
              unfold numR
              rw [if_pos (.inr ⟨by have := HK.out; show _ < s.size; omega, q0⟩)])
            by_cases q1 : k = 0
            · have q2 : ((k : Int) == 0) = true := by rw [beq_iff_eq]; omega
              clear hm q0 q1 E2
              go_wp2_with fail
              refine (MC _).mono ?_
              rintro e w1 ⟨rfl, hb1⟩
              have X3 := Lib.hid (X2.out.keep hb1)
              have X4 := Lib.hid (X1.out.keep hb1)
              have HB1 := Lib.hid (HB.out.trans (hb1.mono HB.out.size))
              have c0 := X4.out.cell 0
              have c1 := X4.out.cell 1
              simp only [List.getElem?_toArray, List.getElem?_cons_zero, List.getElem?_cons_succ] at c0 c1
              clear hb1
              go_wp2_with fail
              refine (fail_calls s 9 _).mono ?_
              rintro e w2 ⟨rfl, hb1⟩
              have X5 := Lib.hid (X3.out.keep hb1)
              have HB2 := Lib.hid (HB1.out.trans (hb1.mono HB1.out.size))
              have z0 := X5.out.free 0
              have z1 := X5.out.free 1
              have c0 := X5.out.cell 0
              have c1 := X5.out.cell 1
              simp only [List.getElem?_toArray, List.getElem?_cons_zero, List.getElem?_cons_succ] at c0 c1
              clear hb1
              go_wp2_with fail
              refine ret_t2 Tryd.results32 rfl rfl rfl ((X5.out.set 0 _).set 1 _) ?_
              rw [HE.out]
              exact ⟨⟨_, _, rfl⟩, (HB2.out.setCell (by simp) _).setCell (by simp) _⟩
            · have q2 : ((k : Int) == 0) = false := by rw [beq_eq_false_iff_ne]; omega
              have q3 : pre s.data.toList = [45] := q0.resolve_left fun e => q1 (by rw [HK.out, e]; rfl)
              rw [decide_eq_true q3] at E2
              clear hm q0 q1 q3
              go_wp2_with fail
              refine (MC _).mono ?_
              rintro e w1 ⟨rfl, hb1⟩
              have X3 := Lib.hid (X2.out.keep hb1)
              have X4 := Lib.hid (X1.out.keep hb1)
              have HB1 := Lib.hid (HB.out.trans (hb1.mono HB.out.size))
              have c0 := X4.out.cell 0
              have c1 := X4.out.cell 1
              simp only [List.getElem?_toArray, List.getElem?_cons_zero, List.getElem?_cons_succ] at c0 c1
              clear hb1
              go_wp2_with fail
              refine (fail_calls s 9 _).mono ?_
              rintro e w2 ⟨rfl, hb1⟩
              have X5 := Lib.hid (X3.out.keep hb1)
              have HB2 := Lib.hid (HB1.out.trans (hb1.mono HB1.out.size))
              have z0 := X5.out.free 0
              have z1 := X5.out.free 1
              have c0 := X5.out.cell 0
              have c1 := X5.out.cell 1
              simp only [List.getElem?_toArray, List.getElem?_cons_zero, List.getElem?_cons_succ] at c0 c1
              clear hb1
              go_wp2_with fail
              refine ret_t2 Tryd.results32 rfl rfl rfl ((X5.out.set 0 _).set 1 _) ?_
              rw [HE.out]
              exact ⟨⟨_, _, rfl⟩, (HB2.out.setCell (by simp) _).setCell (by simp) _⟩
          · have HN : Hid (¬ ((pre s.data.toList).length < s.data.toList.length ∧ (pre s.data.toList = [] ∨ pre s.data.toList = [45]))) := Lib.hid (fun g => q0 g.2)
            have q2 : ((k : Int) == 0) = false := by
              rw [beq_eq_false_iff_ne]; intro e
              exact q0 (.inl (List.eq_nil_of_length_eq_zero (by have := HK.out; omega)))
            rw [decide_eq_false (fun e => q0 (.inr e))] at E2
            clear q0
            go_wp2_with fail
            refine (MC _).mono ?_
            rintro e w1 ⟨rfl, hb1⟩
            have X3 := Lib.hid (X2.out.keep hb1)
            have X4 := Lib.hid (X1.out.keep hb1)
            have HB1 := Lib.hid (HB.out.trans (hb1.mono HB.out.size))
            have c0 := X4.out.cell 0
            have c1 := X4.out.cell 1
            simp only [List.getElem?_toArray, List.getElem?_cons_zero, List.getElem?_cons_succ] at c0 c1
            clear hb1
            go_wp2_with fail
            cases ht : textR [] s.data.toList with
            | err q =>
              have HE := Lib.hid (num_err (lo := lo) (hi := hi) ht hm HN.out)
              refine (text_calls s _ hs).mono ?_
              rw [ht]
              rintro e w2 ⟨⟨s2, rfl⟩, hb1⟩
              have X5 := Lib.hid (X3.out.keep hb1)
              have HB2 := Lib.hid (HB1.out.trans (hb1.mono HB1.out.size))
              clear hb1 ht hm
              have HNN : Hid (Dg.num? (⟨#[]⟩ : ByteArray).data.toList = none) := Lib.hid (by decide)
              go_wp2_with fail
              refine (Dg.refparse_none ⟨#[]⟩ _ HNN.out).mono ?_
              rintro e w3 ⟨c, ⟨rfl, hc1, hc2⟩, hb1⟩
              have X6 := Lib.hid ((X5.out.alloc _).keep hb1)
              have X7 := Lib.hid ((Box.new w2 _ _).keep hb1)
              have HB3 := Lib.hid ((HB2.out.alloc HB2.out.size _).trans (hb1.mono (HB2.out.alloc HB2.out.size _).size))
              have z0 := X6.out.free 0
              have z1 := X6.out.free 1
              have c0 := X7.out.cell 0
              have c1 := X7.out.cell 1
              have r0 := X6.out.cell 0
              have r1 := X6.out.cell 1
              simp only [List.getElem?_toArray, List.getElem?_cons_zero, List.getElem?_cons_succ] at c0 c1 r0 r1
              clear hb1
              go_wp2_with fail
              refine ret_t2 Tryd.results32 rfl rfl rfl ((X6.out.set 0 _).set 1 _) ?_
              rw [HE.out]
              exact ⟨⟨_, _, rfl⟩, (HB3.out.setCell (by simp) _).setCell (by simp) _⟩
            | ok t r =>
              obtain ⟨n, hn, hnr⟩ := num_read (lo := lo) (hi := hi) ht hm HN.out
              have HE := Lib.hid hnr
              have hn' := hn
              rw [← num_parse] at hn'
              have HNN : Hid (Dg.num? (bat t).data.toList = some n) := Lib.hid hn'
              refine (text_calls s _ hs).mono ?_
              rw [ht]
              rintro e w2 ⟨rfl, hb1⟩
              have X5 := Lib.hid (X3.out.keep hb1)
              have HB2 := Lib.hid (HB1.out.trans (hb1.mono HB1.out.size))
              clear hb1 ht hm hn hn' hnr
              go_wp2_with fail
              refine (Dg.refparse_some (bat t) _ n HNN.out).mono ?_
              rintro e w3 ⟨rfl, hb1⟩
              have X6 := Lib.hid ((X5.out.alloc _).keep hb1)
              have X7 := Lib.hid ((Box.new w2 _ _).keep hb1)
              have HB3 := Lib.hid ((HB2.out.alloc HB2.out.size _).trans (hb1.mono (HB2.out.alloc HB2.out.size _).size))
              have z0 := X6.out.free 0
              have z1 := X6.out.free 1
              have c0 := X7.out.cell 0
              have c1 := X7.out.cell 1
              have r0 := X6.out.cell 0
              have r1 := X6.out.cell 1
              simp only [List.getElem?_toArray, List.getElem?_cons_zero, List.getElem?_cons_succ] at c0 c1 r0 r1
              clear hb1
              go_wp2_with fail
              refine ret_t2 Tryd.results32 rfl rfl rfl ((X6.out.set 0 _).set 1 _) ?_
              rw [HE.out]
              exact ⟨rfl, (HB3.out.setCell (by simp) _).setCell (by simp) _⟩
      · have i1 : ¬ (k : Int) < (s.size : Int) := by omega
        clear hp hke
        cases hm : mayR lo hi (pre s.data.toList)
        · have HE : Hid (numR lo hi s.data.toList = .err 9) := Lib.hid (by unfold numR; rw [if_pos (.inl hm)])
          have MC : ∀ w, Calls Tryd.prog 45 #[.string (s.extract 0 k), .int .i64 lo, .int .i64 hi] w fun e w' => e = .returned (.bool false) ∧ Below w.heap.size w w' := fun w => by
            have := may_calls (s.extract 0 k) lo hi w h1 h2 h3 h4
            rw [HX.out, hm] at this
            exact this
          clear hm
          go_wp2_with fail
          refine (MC _).mono ?_
          rintro e w1 ⟨rfl, hb1⟩
          have X3 := Lib.hid (X2.out.keep hb1)
          have X4 := Lib.hid (X1.out.keep hb1)
          have HB1 := Lib.hid (HB.out.trans (hb1.mono HB.out.size))
          have c0 := X4.out.cell 0
          have c1 := X4.out.cell 1
          simp only [List.getElem?_toArray, List.getElem?_cons_zero, List.getElem?_cons_succ] at c0 c1
          clear hb1
          go_wp2_with fail
          refine (fail_calls s 9 _).mono ?_
          rintro e w2 ⟨rfl, hb1⟩
          have X5 := Lib.hid (X3.out.keep hb1)
          have HB2 := Lib.hid (HB1.out.trans (hb1.mono HB1.out.size))
          have z0 := X5.out.free 0
          have z1 := X5.out.free 1
          have c0 := X5.out.cell 0
          have c1 := X5.out.cell 1
          simp only [List.getElem?_toArray, List.getElem?_cons_zero, List.getElem?_cons_succ] at c0 c1
          clear hb1
          go_wp2_with fail
          refine ret_t2 Tryd.results32 rfl rfl rfl ((X5.out.set 0 _).set 1 _) ?_
          rw [HE.out]
          exact ⟨⟨_, _, rfl⟩, (HB2.out.setCell (by simp) _).setCell (by simp) _⟩
        · have MC : ∀ w, Calls Tryd.prog 45 #[.string (s.extract 0 k), .int .i64 lo, .int .i64 hi] w fun e w' => e = .returned (.bool true) ∧ Below w.heap.size w w' := fun w => by
            have := may_calls (s.extract 0 k) lo hi w h1 h2 h3 h4
            rw [HX.out, hm] at this
            exact this
          have HN : Hid (¬ ((pre s.data.toList).length < s.data.toList.length ∧ (pre s.data.toList = [] ∨ pre s.data.toList = [45]))) := Lib.hid (by
            have := HK.out
            have : s.data.toList.length = s.size := rfl
            omega)
          go_wp2_with fail
          refine (MC _).mono ?_
          rintro e w1 ⟨rfl, hb1⟩
          have X3 := Lib.hid (X2.out.keep hb1)
          have X4 := Lib.hid (X1.out.keep hb1)
          have HB1 := Lib.hid (HB.out.trans (hb1.mono HB.out.size))
          have c0 := X4.out.cell 0
          have c1 := X4.out.cell 1
          simp only [List.getElem?_toArray, List.getElem?_cons_zero, List.getElem?_cons_succ] at c0 c1
          clear hb1
          go_wp2_with fail
          cases ht : textR [] s.data.toList with
          | err q =>
            have HE := Lib.hid (num_err (lo := lo) (hi := hi) ht hm HN.out)
            refine (text_calls s _ hs).mono ?_
            rw [ht]
            rintro e w2 ⟨⟨s2, rfl⟩, hb1⟩
            have X5 := Lib.hid (X3.out.keep hb1)
            have HB2 := Lib.hid (HB1.out.trans (hb1.mono HB1.out.size))
            clear hb1 ht hm
            have HNN : Hid (Dg.num? (⟨#[]⟩ : ByteArray).data.toList = none) := Lib.hid (by decide)
            go_wp2_with fail
            refine (Dg.refparse_none ⟨#[]⟩ _ HNN.out).mono ?_
            rintro e w3 ⟨c, ⟨rfl, hc1, hc2⟩, hb1⟩
            have X6 := Lib.hid ((X5.out.alloc _).keep hb1)
            have X7 := Lib.hid ((Box.new w2 _ _).keep hb1)
            have HB3 := Lib.hid ((HB2.out.alloc HB2.out.size _).trans (hb1.mono (HB2.out.alloc HB2.out.size _).size))
            have z0 := X6.out.free 0
            have z1 := X6.out.free 1
            have c0 := X7.out.cell 0
            have c1 := X7.out.cell 1
            have r0 := X6.out.cell 0
            have r1 := X6.out.cell 1
            simp only [List.getElem?_toArray, List.getElem?_cons_zero, List.getElem?_cons_succ] at c0 c1 r0 r1
            clear hb1
            go_wp2_with fail
            refine ret_t2 Tryd.results32 rfl rfl rfl ((X6.out.set 0 _).set 1 _) ?_
            rw [HE.out]
            exact ⟨⟨_, _, rfl⟩, (HB3.out.setCell (by simp) _).setCell (by simp) _⟩
          | ok t r =>
            obtain ⟨n, hn, hnr⟩ := num_read (lo := lo) (hi := hi) ht hm HN.out
            have HE := Lib.hid hnr
            have hn' := hn
            rw [← num_parse] at hn'
            have HNN : Hid (Dg.num? (bat t).data.toList = some n) := Lib.hid hn'
            refine (text_calls s _ hs).mono ?_
            rw [ht]
            rintro e w2 ⟨rfl, hb1⟩
            have X5 := Lib.hid (X3.out.keep hb1)
            have HB2 := Lib.hid (HB1.out.trans (hb1.mono HB1.out.size))
            clear hb1 ht hm hn hn' hnr
            go_wp2_with fail
            refine (Dg.refparse_some (bat t) _ n HNN.out).mono ?_
            rintro e w3 ⟨rfl, hb1⟩
            have X6 := Lib.hid ((X5.out.alloc _).keep hb1)
            have X7 := Lib.hid ((Box.new w2 _ _).keep hb1)
            have HB3 := Lib.hid ((HB2.out.alloc HB2.out.size _).trans (hb1.mono (HB2.out.alloc HB2.out.size _).size))
            have z0 := X6.out.free 0
            have z1 := X6.out.free 1
            have c0 := X7.out.cell 0
            have c1 := X7.out.cell 1
            have r0 := X6.out.cell 0
            have r1 := X6.out.cell 1
            simp only [List.getElem?_toArray, List.getElem?_cons_zero, List.getElem?_cons_succ] at c0 c1 r0 r1
            clear hb1
            go_wp2_with fail
            refine ret_t2 Tryd.results32 rfl rfl rfl ((X6.out.set 0 _).set 1 _) ?_
            rw [HE.out]
            exact ⟨rfl, (HB3.out.setCell (by simp) _).setCell (by simp) _⟩
end Go.Proofs.YtflmolhkbpicbaaDoor.Ry
