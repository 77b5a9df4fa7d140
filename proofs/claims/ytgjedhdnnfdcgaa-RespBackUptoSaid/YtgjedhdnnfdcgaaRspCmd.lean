/-
  A command's bytes; whether it may be.
-/
import Derived.Test.YtgjedhdnnfdcgaaRspRdr
import Derived.Test.YtgjedhdnnfdcgaaDigPrint
import Derived.Lib.AppendStr
namespace Go.Proofs.Ytgjedhdnnfdcgaa.Rp
open Go.RowKit
open Dg (dec txt)

theorem strCells_bat (m : Bytes) : Lib.strCells (bat m) = bcells m := by simp [Lib.strCells, bcells]
theorem wpList_append_text {w : World} {ops : Array Oper} {rest : List Oper} {o : Oper} {a : Act} {Q : Exit → Act → World → Prop} (hgd : o.guard = none) (s x : Operand)
    (ho : o.op = .call { callee := .builtin .append, args := #[s, x], argTypes := #[23, 9] })
    (B : Nat) (v : Value) (l : Bytes) (hs : a.eval s = v) (hown : BRow w B v l) (m : Bytes) (hx : a.eval x = .string (bat m)) (hn : l.length + m.length ≤ 67108864) (hB : B ≤ w.heap.size)
    (h : ∀ v' w', BRow w' B v' (l ++ m) → w.grownBy w' v.ownBlock → wpList Try.prog ops Q rest (a.put o.dst v') w') : wpList Try.prog ops Q (o :: rest) a w := by
  obtain ⟨i0, hi, hz0, hz1, hz2⟩ := byte_parts
  refine Lib.wpList_append_own_string w hgd s x 23 9 ho B 5 i0 Try.underlying23 Try.underlying9 hi hz0 hz1 hz2 v l.length (bcells l) hs hown (bat m) hx (by rw [bat_size]; unfold maxLen; omega) (by rw [bat_size]; omega) hB (fun v' w' h2 h3 _ => h v' w' ?_ h3)
  rw [bat_size, strCells_bat, ← bcells_append] at h2
  unfold BRow
  rw [List.length_append]
  exact h2
theorem wpList_append_sign {w : World} {ops : Array Oper} {rest : List Oper} {o : Oper} {a : Act} {Q : Exit → Act → World → Prop} (hgd : o.guard = none) (s x : Operand)
    (ho : o.op = .call { callee := .builtin .append, args := #[s, x], argTypes := #[23, 23] })
    (B : Nat) (v : Value) (l : Bytes) (hs : a.eval s = v) (hown : BRow w B v l) (g : Nat) (c : UInt8) (hx : a.eval x = .slice (some ⟨g, 0, none⟩) 1 1)
    (hg : w.heap[g]? = some (.cells #[.int .u8 (c.toNat : Int)] 5 (0, 0))) (hn : l.length ≤ 67108864) (hB : B ≤ w.heap.size)
    (h : ∀ v' w', BRow w' B v' (l ++ [c]) → w.grownBy w' v.ownBlock → wpList Try.prog ops Q rest (a.put o.dst v') w') : wpList Try.prog ops Q (o :: rest) a w := by
  obtain ⟨i0, hi, hz0, hz1, hz2⟩ := byte_parts
  refine wpList_append_own w hgd s x 23 ho B 5 i0 _ 1 1 Try.underlying23 hi hz0 hz1 hz2 rfl (by decide) v l.length (bcells l) hs hown ⟨g, 0, none⟩ 1 1 [.int .u8 (c.toNat : Int)] hx rfl ?_ ?_ (by unfold maxLen; omega) (by omega) hB (fun v' w' h2 h3 _ => h v' w' ?_ h3)
  · intro j u hj
    have : ((⟨g, 0, none⟩ : Addr).add j) = ⟨g, j, none⟩ := by unfold Addr.add; split <;> simp_all
    rw [this, cell_of_row _ _ _ _ _ _ hg]
    simpa using hj
  · intro u hu; simp at hu; subst hu; rfl
  · unfold BRow
    rw [List.length_append, bcells_append]
    exact h2

set_option maxHeartbeats 1000000 in
theorem line_calls {w w0 : World} {B : Nat} {v : Value} {l : Bytes} (h : BRow w B v l) (hB : B ≤ w.heap.size) (h0 : Below B w0 w) (c : UInt8) (n : Nat) (hl : l.length ≤ 33554432) (hn : n ≤ 1048576) :
    Calls Try.prog 32 #[v, .int .u8 (c.toNat : Int), .int .i64 (n : Nat)] w fun e w' => ∃ v', e = .returned v' ∧ BRow w' B v' (l ++ c :: dec n ++ crlf) ∧ Below B w0 w' ∧ B ≤ w'.heap.size := by
  have hd := dec_len8 (n := n) (by omega)
  have H := Lib.hid h
  have H0 := Lib.hid h0
  have hP : ∀ w', Calls Try.prog 39 #[.int .i64 (n : Nat)] w' fun e w'' => e = .returned (.string (bat (dec n))) ∧ Below w'.heap.size w' w'' := fun w' => by
    have := Dg.print_calls (n : Nat) w' (by omega) (by omega)
    rw [txt_nat] at this
    exact this
  generalize dec n = d at hP hd ⊢
  have HP := Lib.hid hP
  clear h h0 hP
  go_enter Try.func32, Try.ntmps32
  go_wp2_with (at_builtin; refine wpList_append_sign rfl _ _ rfl B v l rfl (H.out.alloc _) w.heap.size c rfl (heap_alloc_new _ _) (by omega) (by simp; omega) ?_; intro v2 w2 hr2 hg2; have hb2 := (H.out.alloc _).grown hg2 (H0.out.alloc hB _) (by simp; omega); have hz2 := hg2.size; simp at hz2; have HR2 := Lib.hid (And.intro hr2 hb2); clear hr2 hb2 hg2)
  refine (HP.out _).mono ?_
  rintro e w3 ⟨rfl, hb3⟩
  have HR3 := Lib.hid (And.intro (HR2.out.1.below hb3) (HR2.out.2.trans (hb3.mono (by omega))))
  have hz3 := hb3.size
  clear hb3 HR2
  have hlc : (l ++ [c]).length = l.length + 1 := by simp
  have hld : ((l ++ [c]) ++ d).length = l.length + 1 + d.length := by simp; omega
  go_wp2_with (first
    | (at_builtin; refine wpList_append_text rfl _ _ rfl B v2 (l ++ [c]) rfl HR3.out.1 d rfl (by omega) (by omega) ?_; intro v4 w4 hr4 hg4; have hb4 := HR3.out.1.grown hg4 HR3.out.2 (by omega); have hz4 := hg4.size; have HR4 := Lib.hid (And.intro hr4 hb4); clear hr4 hb4 hg4)
    | (at_builtin; refine wpList_append_text rfl _ _ rfl B v4 (l ++ [c] ++ d) rfl HR4.out.1 crlf rfl (by rw [hld]; simp [crlf]; omega) (by omega) ?_; intro v5 w5 hr5 hg5; have hb5 := HR4.out.1.grown hg5 HR4.out.2 (by omega); have hz5 := hg5.size; have HR5 := Lib.hid (And.intro hr5 hb5); clear hr5 hb5 hg5))
  go_ret
  refine ⟨_, rfl, ?_, HR5.out.2, by omega⟩
  have := HR5.out.1
  simpa using this

set_option maxHeartbeats 4000000 in
set_option maxRecDepth 100000 in
theorem Command_calls (A : Option Addr) (cap : Nat) (l : List Bytes) (w : World) (hA : Texts w A (l.map bat)) (hc : l.length ≤ cap) (hl : longA l ≤ 1048576) :
    Calls Try.prog 22 #[.slice A l.length cap] w fun e w' => ∃ A' c, e = .returned (.slice A' (enc l).length c) ∧ Bts w' A' (enc l) ∧ Below w.heap.size w w' := by
  have HL := Lib.hid hl
  have HA := Lib.hid hA
  have hn : l.length ≤ 1048576 := by have := longA_len l; omega
  clear hA hl
  go_enter Try.func22, Try.ntmps22
  go_wp2_with fail
  refine (line_calls (BRow.nil w w.heap.size) (Nat.le_refl _) (Below.refl _ w) 42 l.length (by simp) hn).mono ?_
  rintro e w1 ⟨v1, rfl, hr1, hb1, hz1⟩
  have HR1 := Lib.hid (And.intro hr1 (And.intro hb1 hz1))
  clear hr1 hb1 hz1
  go_wp2_with fail
  go_loopw [3, 11] (fun v i wr => ∃ k : Nat, k ≤ l.length ∧ i = .int .i64 (k : Nat) ∧ Hid (BRow wr w.heap.size v (cmdAcc l k) ∧ Below w.heap.size w wr ∧ w.heap.size ≤ wr.heap.size)) (fun _ i _ => l.length - (intOf i).toNat)
  case atStart =>
    refine ⟨0, Nat.zero_le _, rfl, Lib.hid ⟨?_, HR1.out.2⟩⟩
    have := HR1.out.1
    unfold cmdAcc
    simpa [encAs] using this
  case round =>
    obtain ⟨k, hk, rfl, HB⟩ := hrel
    clear HR1
    by_cases hlt : k < l.length
    · obtain ⟨a, rfl, hc0⟩ := Texts.bat_at HA.out hlt
      have c0 := keep2 HB.out.2.1 hc0
      have hz : (bat l[k]).size = l[k].length := bat_size _
      have E := Lib.hid (cmdAcc_next hlt)
      have hx1 := cmdAcc_len l k HL.out
      have hx3 : l[k].length < 1048576 := by have := longA_mem (List.getElem_mem hlt); have := HL.out; omega
      generalize l[k] = b at c0 hz E hx3
      generalize cmdAcc l k = acc at E hx1 HB
      have i1 : (k : Int) < (l.length : Int) := by omega
      have hlt2 : decide ((k : Int) < (l.length : Int)) = true := decide_eq_true i1
      have hw1 : IntKind.i64.wrap ((k : Int) + 1) = (k : Int) + 1 := IntWalk.i64_in _ (by omega)
      have hd := dec_len8 (n := b.length) (by omega)
      go_wp2_with fail
      refine (line_calls HB.out.1 HB.out.2.2 HB.out.2.1 36 b.length (by omega) (by omega)).mono ?_
      rintro e w2 ⟨v2, rfl, hr2, hb2, hz2⟩
      have HR2 := Lib.hid (And.intro hr2 hb2)
      have hl2 : (acc ++ 36 :: dec b.length ++ crlf).length = acc.length + (dec b.length).length + 3 := by simp [crlf]; omega
      have hl3 : ((acc ++ 36 :: dec b.length ++ crlf) ++ b).length = acc.length + (dec b.length).length + 3 + b.length := by rw [List.length_append, hl2]
      clear hr2 hb2 c0 hc0
      go_wp2_with (first
        | (at_builtin; refine wpList_append_text rfl _ _ rfl w.heap.size v2 (acc ++ 36 :: dec b.length ++ crlf) rfl HR2.out.1 b rfl (by omega) (by omega) ?_; intro v4 w4 hr4 hg4; have hb4 := HR2.out.1.grown hg4 HR2.out.2 (by omega); have hz4 := hg4.size; have HR4 := Lib.hid (And.intro hr4 hb4); clear hr4 hb4 hg4)
        | (at_builtin; refine wpList_append_text rfl _ _ rfl w.heap.size v4 (acc ++ 36 :: dec b.length ++ crlf ++ b) rfl HR4.out.1 crlf rfl (by rw [hl3]; simp [crlf]; omega) (by omega) ?_; intro v5 w5 hr5 hg5; have hb5 := HR4.out.1.grown hg5 HR4.out.2 (by omega); have hz5 := hg5.size; have HR5 := Lib.hid (And.intro hr5 hb5); clear hr5 hb5 hg5))
      go_roundw
      case rel =>
        refine ⟨k + 1, by omega, by go_num, Lib.hid ⟨?_, HR5.out.2, by omega⟩⟩
        rw [E.out]
        have := HR5.out.1
        simpa [crlf] using this
      case measure => simp [intOf]; omega
    · have hkl : k = l.length := by omega
      have hlt2 : decide ((k : Int) < (l.length : Int)) = false := decide_eq_false (by omega)
      subst hkl
      rw [cmdAcc_end] at HB
      obtain ⟨A', c, hv, hbt, _⟩ := HB.out.1.view
      go_wp2_with fail
      go_ret
      exact ⟨A', c, by rw [← hv]; rfl, hbt, HB.out.2.1⟩
end Go.Proofs.Ytgjedhdnnfdcgaa.Rp
