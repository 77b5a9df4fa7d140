/-
  The walk of the law HashBack.
-/
import Derived.Test.YtlgfdgljagmbaaaHashLawC
import Derived.Laws.AppendOwnNone
namespace Go.Proofs.Ytlgfdgljagmbaaa
open Go.RowKit
namespace Hs

/-- texts as cells -/
def txtCells (ps : List ByteArray) : List Value := ps.map .string

/-- append of a slice of texts, nil or not, onto a row of the call's own -/
theorem wpList_append_texts {w : World} {ops : Array Oper} {rest : List Oper} {o : Oper} {a : Act} {Q : Exit → Act → World → Prop} (hgd : o.guard = none) (s x : Operand)
    (ho : o.op = .call { callee := .builtin .append, args := #[s, x], argTypes := #[27, 27] })
    (base : Nat) (v : Value) (n : Nat) (xs : List Value) (hs : a.eval s = v) (hown : w.ownsRow base 9 1 v n xs)
    (A : Option Addr) (cap : Nat) (ps : List ByteArray) (hx : a.eval x = .slice A ps.length cap) (hT : Texts w A ps) (hnil : A = none → ps.length = 0 ∧ cap = 0)
    (hb : n + ps.length ≤ 1099511627776) (hbase : base ≤ w.heap.size)
    (h : ∀ v' w', w'.ownsRow base 9 1 v' (n + ps.length) (xs ++ txtCells ps) → w.grownBy w' v.ownBlock → wpList Try.prog ops Q rest (a.put o.dst v') w') : wpList Try.prog ops Q (o :: rest) a w := by
  obtain ⟨i1, hj, hy0, hy1, hy2⟩ := info_parts str_info
  cases A with
  | none =>
    obtain ⟨h1, rfl⟩ := hnil rfl
    obtain rfl : ps = [] := List.eq_nil_of_length_eq_zero h1
    refine wpList_append_own_none hgd s x 27 ho base 9 i1 1 Try.underlying27 hj v n xs hs hown hx ?_
    exact h v w (by simpa [txtCells] using hown) ⟨rfl, rfl, rfl, Nat.le_refl _, fun _ _ _ => rfl⟩
  | some ad =>
    refine wpList_append_own w hgd s x 27 ho base 9 i1 (.string ⟨#[]⟩) 1 16 Try.underlying27 hj hy0 hy1 hy2 rfl (by decide) v n xs hs hown ad ps.length cap (txtCells ps) hx (by simp [txtCells]) ?_ ?_ (by unfold maxLen; omega) (by omega) hbase (fun v' w' h2 h3 _ => h v' w' h2 h3)
    · intro j u hu
      have hj' : j < ps.length := by
        have := (List.getElem?_eq_some_iff.1 hu).1
        simpa [txtCells] using this
      obtain ⟨a', e, hc⟩ := hT j hj'
      injection e with e
      subst e
      rw [hc]
      simp [txtCells, hj'] at hu
      rw [hu]
    · intro u hu
      obtain ⟨p, _, rfl⟩ := List.mem_map.1 hu
      rfl

theorem texts_row {w : World} {B : Nat} {v : Value} {ps : List ByteArray} (h : w.ownsRow B 9 1 v ps.length (txtCells ps)) : ∃ A cap, v = .slice A ps.length cap ∧ Texts w A ps := by
  rcases h.2 with ⟨rfl, h0⟩ | ⟨g, cap, cur, rfl, hb, hg, hnc, hm, hs, ht⟩
  · rw [h0]
    exact ⟨none, 0, rfl, fun i hi => by omega⟩
  · refine ⟨some ⟨g, 0, none⟩, cap, rfl, fun i hi => ⟨_, rfl, ?_⟩⟩
    exact h.cells (g := g) rfl i _ (by simp [txtCells, hi])
theorem bys_append (ps qs : List ByteArray) : bys (ps ++ qs) = bys ps ++ bys qs := by simp [bys]
theorem two_rows {w : World} {B : Nat} {v : Value} {ps qs : List ByteArray} (h : w.ownsRow B 9 1 v (ps.length + qs.length) (txtCells ps ++ txtCells qs)) : ∃ A cap, v = .slice A (ps.length + qs.length) cap ∧ Texts w A (ps ++ qs) := by
  have h' : w.ownsRow B 9 1 v (ps ++ qs).length (txtCells (ps ++ qs)) := by
    rw [List.length_append]
    simpa [txtCells] using h
  obtain ⟨A, cap, e, hT⟩ := texts_row h'
  exact ⟨A, cap, by rw [e, List.length_append], hT⟩
theorem key_two (A : Option Addr) (cap : Nat) (ps qs : List ByteArray) (w : World) (hA : Texts w A (ps ++ qs)) (hs : ∀ p ∈ ps, p.size ≤ maxLen) (ht : ∀ p ∈ qs, p.size ≤ maxLen) (hl : long (bys ps) + long (bys qs) ≤ 1048576) :
    Calls Try.prog 16 #[.slice A (ps.length + qs.length) cap] w fun e w' => e = .returned (.string ⟨(key (bys ps) ++ key (bys qs)).toArray⟩) ∧ Below w.heap.size w w' := by
  have h := key_calls A cap (ps ++ qs) w hA (fun p hp => by
    rcases List.mem_append.1 hp with hp | hp
    · exact hs p hp
    · exact ht p hp) (by rw [bys_append, long_append]; omega)
  rw [List.length_append, bys_append, key_append] at h
  exact h
theorem same_is (A C : Option Addr) (cap cap2 : Nat) (ps qs : List ByteArray) (w : World) (b : Bool) (hA : Texts w A ps) (hC : Texts w C qs) (hn : ps.length ≤ maxLen) (he : decide (bys ps = bys qs) = b) :
    Calls Try.prog 18 #[.slice A ps.length cap, .slice C qs.length cap2] w fun e w' => e = .returned (.bool b) ∧ Below w.heap.size w w' := by
  have h := same_calls A C cap cap2 ps qs w hA hC hn
  rw [show sameB ps qs = b from he] at h
  exact h
theorem same_back (A C : Option Addr) (cap cap2 : Nat) (ps : List ByteArray) (w : World) (hA : Texts w A ((bys ps).map bat)) (hC : Texts w C ps) (hn : ps.length ≤ maxLen) :
    Calls Try.prog 18 #[.slice A (bys ps).length cap, .slice C ps.length cap2] w fun e w' => e = .returned (.bool true) ∧ Below w.heap.size w w' := by
  have h := same_is A C cap cap2 ((bys ps).map bat) ps w true hA hC (by simpa [bys] using hn) (by rw [bys_bat]; simp)
  rw [List.length_map] at h
  exact h
theorem parts_of_key (ps : List ByteArray) (w : World) (hl : long (bys ps) ≤ 1048576) : Calls Try.prog 14 #[.string ⟨(key (bys ps)).toArray⟩] w (PartsPost (some (bys ps)) w) := by
  have hz : (ByteArray.mk (key (bys ps)).toArray).size ≤ 1099511627776 := by
    show (key (bys ps)).toArray.size ≤ _
    have := key_len (bys ps)
    simp; omega
  have h := parts_calls ⟨(key (bys ps)).toArray⟩ w hz
  have e : parts (ByteArray.mk (key (bys ps)).toArray).data.toList = some (bys ps) := by
    show parts (key (bys ps)).toArray.toList = _
    rw [show (key (bys ps)).toArray.toList = key (bys ps) from by simp]
    exact parts_key _
  rw [e] at h
  exact h

set_option maxHeartbeats 1000000 in
theorem back_law (A C : Option Addr) (cap cap2 : Nat) (ps qs : List ByteArray) (w : World) (hA : Texts w A ps) (hC : Texts w C qs) (hs : ∀ p ∈ ps, p.size ≤ maxLen) (ht : ∀ p ∈ qs, p.size ≤ maxLen)
    (hn1 : A = none → ps.length = 0 ∧ cap = 0) (hn2 : C = none → qs.length = 0 ∧ cap2 = 0) (hl : long (bys ps) + long (bys qs) ≤ 1048576) :
    Calls Try.prog 5 #[.slice A ps.length cap, .slice C qs.length cap2] w fun e w' => e = .returned (.bool true) ∧ Below w.heap.size w w' := by
  have HA := Lib.hid hA
  have HC := Lib.hid hC
  have HS := Lib.hid hs
  have HT := Lib.hid ht
  have HN1 := Lib.hid hn1
  have HN2 := Lib.hid hn2
  clear hA hC hs ht hn1 hn2
  have g1 := long_ge ps
  have g2 := long_ge qs
  by_cases h5 : 500 < long (bys ps) + long (bys qs)
  · go_enter Try.func5, Try.ntmps5
    go_wp2_with fail
    refine (long_calls A cap ps _ HA.out (by omega)).mono ?_
    rintro e w1 ⟨rfl, rfl⟩
    go_wp2_with fail
    refine (long_calls C cap2 qs _ HC.out (by omega)).mono ?_
    rintro e w1 ⟨rfl, rfl⟩
    go_wp2_with fail
    refine (known_calls _).mono ?_
    rintro e w5 ⟨rfl, hb5⟩
    go_wp2
    go_ret
    exact ⟨rfl, hb5⟩
  · obtain ⟨b, hb⟩ : ∃ b, decide (bys ps = bys qs) = b := ⟨_, rfl⟩
    have HB := Lib.hid hb
    have tb : (key (bys ps) == key (bys qs)) = b := by
      rw [← hb]
      by_cases e : bys ps = bys qs
      · simp [e]
      · have : key (bys ps) ≠ key (bys qs) := fun h => e (key_inj h)
        simp [e, this]
    clear hb
    have l1 := key_len (bys ps)
    have l2 := key_len (bys qs)
    have hcat := ByteArray.mk_append_mk
    cases b
    all_goals
      go_enter Try.func5, Try.ntmps5
      go_wp2_with fail
      refine (long_calls A cap ps _ HA.out (by omega)).mono ?_
      rintro e w1 ⟨rfl, rfl⟩
      go_wp2_with fail
      refine (long_calls C cap2 qs _ HC.out (by omega)).mono ?_
      rintro e w1 ⟨rfl, rfl⟩
      go_wp2_with fail
      refine (key_calls A cap ps _ HA.out HS.out (by omega)).mono ?_
      rintro e w1 ⟨rfl, hb1⟩
      go_wp2_with fail
      refine (key_calls C cap2 qs _ (HC.out.keep hb1) HT.out (by omega)).mono ?_
      rintro e w2 ⟨rfl, hb2⟩
      have hb2 := below_then hb1 hb2
      go_wp2_with fail
      refine (parts_of_key ps _ (by omega)).mono ?_
      rintro e w3 ⟨hb3, A1, cap1, rfl, hT1⟩
      have hb3 := below_then hb2 hb3
      go_wp2_with (at_builtin; refine wpList_append_texts rfl _ _ rfl w3.heap.size (.slice none 0 0) 0 [] rfl (World.ownsRow_nil _ _ _ _) A cap ps rfl (HA.out.keep hb3) HN1.out (by omega) (Nat.le_refl _) ?_)
      intro v4 w4 ho4 hg4
      have hb34 : Below w3.heap.size w3 w4 := (Below.refl _ _).grown hg4 (Nat.le_refl _) (by simp [Value.ownBlock])
      clear hg4
      go_wp2_with (at_builtin; refine wpList_append_texts rfl _ _ rfl w3.heap.size v4 ps.length (txtCells ps) rfl ho4 C cap2 qs rfl (HC.out.keep (below_then hb3 hb34)) HN2.out (by omega) hb34.size ?_)
      intro v5 w5 ho5 hg5
      have hb35 : Below w3.heap.size w3 w5 := hb34.grown hg5 hb34.size (fun k hk => (ho4.lt k hk).1)
      have hb5 := below_then hb3 hb35
      have hT1 := hT1.keep hb35
      obtain ⟨A5, cap5, rfl, hT5⟩ := two_rows ho5
      clear hg5 ho5 ho4 hb34 hb35 hb3 hb2 hb1
      go_wp2_with fail
      refine (same_back A1 A cap1 cap ps _ hT1 (HA.out.keep hb5) (by unfold maxLen; omega)).mono ?_
      rintro e w6 ⟨rfl, hb6⟩
      have hT5 := hT5.keep hb6
      have hb6 := below_then hb5 hb6
      clear hT1 hb5
      go_wp2_with fail
      refine (same_is A C cap cap2 ps qs _ _ (HA.out.keep hb6) (HC.out.keep hb6) (by unfold maxLen; omega) HB.out).mono ?_
      rintro e w7 ⟨rfl, hb7⟩
      have hT5 := hT5.keep hb7
      have hb7 := below_then hb6 hb7
      clear hb6
      go_wp2_with fail
      refine (key_two A5 cap5 ps qs _ hT5 HS.out HT.out hl).mono ?_
      rintro e w8 ⟨rfl, hb8⟩
      have hb8 := below_then hb7 hb8
      clear hb7 hT5
      go_wp2_with fail
      refine (known_calls _).mono ?_
      rintro e w9 ⟨rfl, hb9⟩
      have hb9 := below_then hb8 hb9
      go_wp2
      go_ret
      exact ⟨rfl, hb9⟩

end Hs
end Go.Proofs.Ytlgfdgljagmbaaa
