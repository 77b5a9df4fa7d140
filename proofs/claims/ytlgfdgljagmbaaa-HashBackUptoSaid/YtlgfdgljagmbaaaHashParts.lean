/-
  What hash.Parts answers, in any world.
-/
import Derived.Test.YtlgfdgljagmbaaaHashRef
import Derived.Lib.BufferRead
import Derived.Laws.OwnMore
namespace Go.Proofs.Ytlgfdgljagmbaaa
open Go.RowKit
namespace Hs

/-- a row of bytes as a text -/
def bat (p : List UInt8) : ByteArray := ⟨p.toArray⟩
def strCells (ps : List (List UInt8)) : List Value := ps.map fun p => .string (bat p)
theorem strCells_snoc (ps : List (List UInt8)) (p : List UInt8) : strCells ps ++ [.string ⟨p.toArray⟩] = strCells (ps ++ [p]) := by simp [strCells, bat]
theorem str_info : (Try.prog.info? 9).map (fun i => (i.zero, i.size, i.bytes)) = some (some (.string ⟨#[]⟩), 1, 16) := by kernel_rfl

theorem texts_own {w : World} {B : Nat} {v : Value} {ps : List (List UInt8)} (h : w.ownsRow B 9 1 v ps.length (strCells ps)) : ∃ A cap, v = .slice A ps.length cap ∧ Texts w A (ps.map bat) := by
  rcases h.2 with ⟨rfl, h0⟩ | ⟨g, cap, cur, rfl, hb, hg, hnc, hm, hs, ht⟩
  · rw [h0]
    refine ⟨none, 0, rfl, fun i hi => ?_⟩
    simp at hi; omega
  · refine ⟨some ⟨g, 0, none⟩, cap, rfl, fun i hi => ⟨_, rfl, ?_⟩⟩
    have hi' : i < ps.length := by simpa using hi
    exact h.cells (g := g) rfl i _ (by simp [strCells, hi'])
theorem own_conv {w : World} {B : Nat} {v : Value} {l : List UInt8} (h : w.ownsRow B 5 1 v l.length (Lib.byteCells l)) :
    (convert 35 9 v).run Try.prog w = .ok (.string ⟨l.toArray⟩) w := by
  rcases h.2 with ⟨rfl, h0⟩ | ⟨g, cap, cur, rfl, hb, hg, hnc, hm, hs, ht⟩
  · obtain rfl : l = [] := List.eq_nil_of_length_eq_zero h0
    exact Lib.run_convert_nil_bytes w 35 9 5 0 Try.underlying35 Try.underlying5 Try.underlying9
  · refine run_convert_bytes_back _ 35 9 5 ⟨g, 0, none⟩ cap l Try.underlying35 Try.underlying5 Try.underlying9 fun j hj => ?_
    exact h.cells (g := g) rfl j _ (by simp [Lib.byteCells, hj])
theorem own_ne {w : World} {B B' n n' : Nat} {e e' : TypeId} {v v' : Value} {xs xs' : List Value} (h : w.ownsRow B e 1 v n xs) (h' : w.ownsRow B' e' 1 v' n' xs') (hne : e ≠ e') : v.ownBlock = none ∨ v.ownBlock ≠ v'.ownBlock := by
  rcases h.2 with ⟨rfl, _⟩ | ⟨g, cap, cur, rfl, _, hg, _⟩
  · exact .inl rfl
  · right
    rcases h'.2 with ⟨rfl, _⟩ | ⟨g', cap', cur', rfl, _, hg', _⟩
    · simp [Value.ownBlock]
    · intro he
      simp only [Value.ownBlock, Option.some.injEq] at he
      subst he
      rw [hg] at hg'
      simp only [Option.some.injEq, Obj.cells.injEq] at hg'
      exact hne hg'.2.1

theorem grown_texts {w : World} {B : Nat} {v : Value} (ps : List (List UInt8)) (p : List UInt8) (h : w.ownsRow B 9 1 v (ps.length + 1) (strCells ps ++ [.string ⟨p.toArray⟩])) : w.ownsRow B 9 1 v (ps ++ [p]).length (strCells (ps ++ [p])) := by
  rw [strCells_snoc] at h
  simpa using h
theorem grown_cells {w : World} {B : Nat} {v : Value} (p : List UInt8) (c : UInt8) (h : w.ownsRow B 5 1 v (p.length + 1) (Lib.byteCells p ++ [.int .u8 (c.toNat : Int)])) : w.ownsRow B 5 1 v (p ++ [c]).length (Lib.byteCells (p ++ [c])) := by
  rw [cells_snoc] at h
  simpa using h

/-- what Parts tells -/
def PartsPost (o : Option (List (List UInt8))) (w : World) (e : Ending) (w' : World) : Prop :=
  Below w.heap.size w w' ∧ match o with
  | none => e = .returned (.tuple #[.slice none 0 0, .bool false])
  | some ps => ∃ A cap, e = .returned (.tuple #[.slice A ps.length cap, .bool true]) ∧ Texts w' A (ps.map bat)

/-- the outer loop's relation -/
def Outer (s : ByteArray) (w : World) (g : Nat) (v r : Value) (wr : World) : Prop :=
  ∃ (ps : List (List UInt8)) (t : ByteArray), r = .string t ∧ t.size = g ∧ ps.length + t.size ≤ s.size ∧ scan [] ps t.data.toList = parts s.data.toList ∧ wr.ownsRow w.heap.size 9 1 v ps.length (strCells ps) ∧ Below w.heap.size w wr
/-- the inner loop's -/
def Inner (s : ByteArray) (w : World) (ps : List (List UInt8)) (t : ByteArray) (v0 : Value) (g : Nat) (v r c i : Value) (wr : World) : Prop :=
  ∃ (p : List UInt8) (k : Nat), v = v0 ∧ r = .string t ∧ i = .int .i64 k ∧ k + g = t.size ∧ p.length ≤ k ∧ (0 < k → p ≠ []) ∧ scan p ps (t.data.toList.drop k) = parts s.data.toList ∧ wr.ownsRow w.heap.size 5 1 c p.length (Lib.byteCells p) ∧ wr.ownsRow w.heap.size 9 1 v0 ps.length (strCells ps) ∧ Below w.heap.size w wr

theorem drop_at (t : ByteArray) (k : Nat) (h : k < t.size) : t.data.toList.drop k = t[k] :: t.data.toList.drop (k + 1) := by
  have h' : k < t.data.toList.length := h
  rw [← List.getElem_cons_drop h']
  rfl

theorem extract_drop (t : ByteArray) (k : Nat) : (t.extract k t.size).data.toList = t.data.toList.drop k := by
  rw [ByteArray.data_extract, Array.toList_extract, List.extract_eq_take_drop]
  exact List.take_of_length_le (by simp)
theorem empty_text {t : ByteArray} (h : t.size = 0) : t.toList.isEmpty = true ∧ t.toList = [] := by
  have e : t.toList = [] := by rw [ByteArray.toList_eq]; exact List.length_eq_zero_iff.1 h
  rw [e]; exact ⟨rfl, rfl⟩
theorem full_text {t : ByteArray} (h : ¬ t.size = 0) : t.toList.isEmpty = false ∧ (t.toList = []) = False := by
  have e : t.toList ≠ [] := by
    rw [ByteArray.toList_eq]
    intro e
    exact h (by have := congrArg List.length e; simpa using this)
  exact ⟨by cases hh : t.toList with
    | nil => exact absurd hh e
    | cons => rfl, eq_false e⟩

set_option maxHeartbeats 1000000 in
theorem parts_calls (s : ByteArray) (w : World) (hs : s.size ≤ 1099511627776) :
    Calls Try.prog 14 #[.string s] w (PartsPost (parts s.data.toList) w) := by
  obtain ⟨i0, hi, hz0, hz1, hz2⟩ := info_parts byte_info
  obtain ⟨i1, hj, hy0, hy1, hy2⟩ := info_parts str_info
  go_enter Try.func14, Try.ntmps14
  go_wp2
  go_step3
  go_wp2
  go_step3
  go_wp2
  go_loopg [4, 5] s.size (fun g v r wr => Outer s w g v r wr)
  case atStart => exact ⟨[], s, rfl, rfl, by simp, rfl, World.ownsRow_nil _ _ _ _, Below.refl _ _⟩
  case round =>
    obtain ⟨ps, t, rfl, hg, hps, hsc, hown, hb⟩ := hrel
    have H0 := Lib.hid hg
    have H1 := Lib.hid hsc
    have H2 := Lib.hid hown
    have H3 := Lib.hid hb
    clear hg hsc hown hb
    by_cases h0 : t.size = 0
    · obtain ⟨e1, e2⟩ := empty_text h0
      have HT := Lib.hid (show t.data.toList = [] by rw [← ByteArray.toList_eq]; exact e2)
      go_wp2
      go_ret2
      refine ⟨H3.out, ?_⟩
      have hp := H1.out
      rw [HT.out] at hp
      rw [← hp]
      obtain ⟨A, cap, hv, hT⟩ := texts_own H2.out
      exact ⟨A, cap, by rw [← hv]; rfl, hT⟩
    · obtain ⟨e1, e2⟩ := full_text h0
      go_wp2
      clear e1 e2
      go_loopg [4, 5, 6, 7] t.size (fun g v r c i wr => Inner s w ps t u4 g v r c i wr)
      case atStart => exact ⟨[], 0, rfl, rfl, rfl, by omega, by simp, fun h => absurd h (by omega), by rw [List.drop_zero]; exact H1.out, World.ownsRow_nil _ _ _ _, H2.out, H3.out⟩
      case round =>
        clear H1 H2 H3
        obtain ⟨p, k, rfl, rfl, rfl, hkg, hpk, hpne, hsc, hoc, hov, hb⟩ := hrel
        have hkt : k ≤ t.size := by omega
        have HK := Lib.hid hkg
        have HP := Lib.hid hpne
        have HS := Lib.hid hsc
        clear hkg hpne hsc
        by_cases hlt : k < t.size
        · have HD := Lib.hid (drop_at t k hlt)
          by_cases c58 : t[k] = 58
          · have t1 : ((t[k].toNat : Int) == 58) = true := by rw [c58]; rfl
            have HC := Lib.hid c58
            clear c58
            go_wp2_with fail
            rw [own_conv hoc]
            go_wp2_with (at_builtin; refine wpList_append_own _ rfl _ _ 27 rfl w.heap.size 9 i1 (.string ⟨#[]⟩) 1 16 Try.underlying27 hj hy0 hy1 hy2 rfl (by decide) _ _ _ rfl (hov.alloc _) ⟨wr.heap.size, 0, none⟩ 1 1 [.string ⟨p.toArray⟩] rfl rfl ?c1 ?c2 ?c3 ?c4 ?c5 ?_)
            case c1 =>
              intro j u hj
              match j, hj with
              | 0, hj => simp at hj; subst hj; simp [Addr.add]
            case c2 => intro u hu; simp at hu; subst hu; rfl
            case c3 => unfold maxLen; omega
            case c4 => omega
            case c5 => have := hb.size; simp; omega
            intro v' w2 hown' hgrow _
            have hb2 := Lib.hid ((hb.alloc hb.size _).grown hgrow (by have := hb.size; simp; omega) (fun k hk => (hov.lt k hk).1))
            have ho2 := Lib.hid (grown_texts ps p hown')
            clear hown' hgrow hov hoc hb
            go_wp2
            go_roundg (t.size - (k + 1))
            case rel =>
              refine ⟨ps ++ [p], t.extract (k + 1) t.size, rfl, by simp, by simp; omega, ?_, ho2.out, hb2.out⟩
              have e := HS.out
              rw [HD.out, HC.out, scan_end] at e
              rw [← e]
              rw [extract_drop]
            case measure => have := H0.out; omega
          · have t1 := ne58 c58
            by_cases c92 : t[k] = 92
            · have t2 : ((t[k].toNat : Int) == 92) = true := by rw [c92]; rfl
              have HC := Lib.hid c92
              clear c58 c92
              by_cases hl2 : k + 1 = t.size
              · have t3 : ((k : Int) + 1 == (t.size : Int)) = true := by simp; omega
                have HL := Lib.hid hl2
                clear hl2
                go_wp2
                try rw [Exit.noGoto_ret]
                go_ret2
                refine ⟨hb, ?_⟩
                have e := HS.out
                rw [HD.out, HC.out, List.drop_eq_nil_of_le (by have := HL.out; simp; have : t.data.size = t.size := rfl; omega), scan_last] at e
                rw [← e]
                rfl
              · have hk2 : k + 1 < t.size := by omega
                have t3 : ((k : Int) + 1 == (t.size : Int)) = false := by simp; omega
                have HE := Lib.hid (drop_at t (k + 1) hk2)
                cases hm : mk t[k + 1] with
                | false =>
                  have HM := Lib.hid hm
                  clear hm hl2
                  go_wp2_with fail
                  refine (mk_no HM.out _).mono ?_
                  rintro e w1 ⟨rfl, rfl⟩
                  go_wp2
                  try rw [Exit.noGoto_ret]
                  go_ret2
                  refine ⟨hb, ?_⟩
                  have e := HS.out
                  rw [HD.out, HC.out, HE.out, scan_bad _ _ _ _ HM.out] at e
                  rw [← e]
                  rfl
                | true =>
                  have HM := Lib.hid hm
                  clear hm hl2
                  go_wp2_with fail
                  refine (mk_yes HM.out _).mono ?_
                  rintro e w1 ⟨rfl, rfl⟩
                  go_wp2_with (at_builtin; refine wpList_append_own _ rfl _ _ 35 rfl w.heap.size 5 i0 (.int .u8 0) 1 1 Try.underlying35 hi hz0 hz1 hz2 rfl (by decide) _ _ _ rfl (hoc.alloc _) ⟨wr.heap.size, 0, none⟩ 1 1 [.int .u8 (t[k + 1].toNat : Int)] rfl rfl ?c1 ?c2 ?c3 ?c4 ?c5 ?_)
                  case c1 =>
                    intro j u hj
                    match j, hj with
                    | 0, hj => simp at hj; subst hj; simp [Addr.add]
                  case c2 => intro u hu; simp at hu; subst hu; rfl
                  case c3 => unfold maxLen; omega
                  case c4 => omega
                  case c5 => have := hb.size; simp; omega
                  intro v' w2 hown' hgrow _
                  have hov2 := Lib.hid ((hov.alloc (.cells #[.int .u8 (t[k + 1].toNat : Int)] 5)).kept hgrow (own_ne hov hoc (by decide)))
                  have hoc2 := Lib.hid (grown_cells p t[k + 1] hown')
                  have hb2 := Lib.hid ((hb.alloc hb.size _).grown hgrow (by have := hb.size; simp; omega) (fun k hk => (hoc.lt k hk).1))
                  clear hown' hgrow hov hoc hb
                  go_wp2
                  go_roundg (gk - 2)
                  case rel =>
                    refine ⟨p ++ [t[k + 1]], k + 2, rfl, rfl, by go_num, by have := HK.out; omega, by simp; omega, fun _ => by simp, ?_, hoc2.out, hov2.out, hb2.out⟩
                    have e := HS.out
                    rw [HD.out, HC.out, HE.out, scan_mark _ _ _ _ HM.out] at e
                    exact e
                  case measure => have := HK.out; omega
            · have t2 := ne92 c92
              have HM := Lib.hid (show mk t[k] = false by unfold mk; simp [c58, c92])
              clear c58 c92
              go_wp2_with (at_builtin; refine wpList_append_own _ rfl _ _ 35 rfl w.heap.size 5 i0 (.int .u8 0) 1 1 Try.underlying35 hi hz0 hz1 hz2 rfl (by decide) _ _ _ rfl (hoc.alloc _) ⟨wr.heap.size, 0, none⟩ 1 1 [.int .u8 (t[k].toNat : Int)] rfl rfl ?c1 ?c2 ?c3 ?c4 ?c5 ?_)
              case c1 =>
                intro j u hj
                match j, hj with
                | 0, hj => simp at hj; subst hj; simp [Addr.add]
              case c2 => intro u hu; simp at hu; subst hu; rfl
              case c3 => unfold maxLen; omega
              case c4 => omega
              case c5 => have := hb.size; simp; omega
              intro v' w2 hown' hgrow _
              have hov2 := Lib.hid ((hov.alloc (.cells #[.int .u8 (t[k].toNat : Int)] 5)).kept hgrow (own_ne hov hoc (by decide)))
              have hoc2 := Lib.hid (grown_cells p t[k] hown')
              have hb2 := Lib.hid ((hb.alloc hb.size _).grown hgrow (by have := hb.size; simp; omega) (fun k hk => (hoc.lt k hk).1))
              clear hown' hgrow hov hoc hb
              go_wp2
              go_roundg (gk - 1)
              case rel =>
                refine ⟨p ++ [t[k]], k + 1, rfl, rfl, by go_num, by have := HK.out; omega, by simp; omega, fun _ => by simp, ?_, hoc2.out, hov2.out, hb2.out⟩
                have e := HS.out
                rw [HD.out, scan_byte _ _ _ _ HM.out] at e
                exact e
              case measure => have := HK.out; omega
        · have hke : k = t.size := by omega
          have HL := Lib.hid hke
          clear hke
          go_wp2
          try rw [Exit.noGoto_ret]
          go_ret2
          refine ⟨hb, ?_⟩
          have e := HS.out
          have hp : p ≠ [] := HP.out (by omega)
          rw [List.drop_eq_nil_of_le (by have := HL.out; simp; have : t.data.size = t.size := rfl; omega)] at e
          rw [← e]
          unfold scan
          rw [if_neg (by simpa using hp)]
          rfl

end Hs
end Go.Proofs.Ytlgfdgljagmbaaa
