/-
  What the document's own Command answers, in any world.
-/
import Derived.Test.YtgjedhdnnfdcgaaRspRfB
import Derived.Laws.IdiomStrings
namespace Go.Proofs.Ytgjedhdnnfdcgaa.Rp
open Go.RowKit
open Gw
open Dg (dec txt)

/-- what was written when so many arguments were -/
def cmdAcc (l : List Bytes) (k : Nat) : Bytes := 42 :: dec l.length ++ crlf ++ encAs (l.take k)
theorem cmdAcc_end (l : List Bytes) : cmdAcc l l.length = enc l := by unfold cmdAcc enc; rw [List.take_length]
theorem encAs_snoc (l : List Bytes) (a : Bytes) : encAs (l ++ [a]) = encAs l ++ encA a := by simp [encAs]
theorem cmdAcc_next {l : List Bytes} {k : Nat} (h : k < l.length) : cmdAcc l (k + 1) = cmdAcc l k ++ (36 :: dec l[k].length ++ [13, 10] ++ l[k] ++ [13, 10]) := by
  unfold cmdAcc
  rw [List.take_succ_eq_append_getElem h, encAs_snoc]
  simp [encA, crlf]
theorem dec_len8 {n : Nat} (h : n < 10000000) : (dec n).length ≤ 7 := Dg.dec_len 6 n (by omega)
theorem encAs_len (l : List Bytes) (h : ∀ a ∈ l, a.length < 10000000) : (encAs l).length ≤ 12 * longA l := by
  induction l with
  | nil => exact Nat.zero_le _
  | cons a l ih =>
    have e1 : encAs (a :: l) = encA a ++ encAs l := by simp [encAs]
    have e2 : longA (a :: l) = 1 + a.length + longA l := by simp [longA]
    have e3 : (encA a).length = 1 + (dec a.length).length + 2 + a.length + 2 := by simp [encA, crlf]; omega
    have h1 := dec_len8 (h a (by simp))
    have h2 := ih (fun b hb => h b (by simp [hb]))
    rw [e1, List.length_append, e2]
    omega
theorem cmdAcc_len (l : List Bytes) (k : Nat) (h : longA l ≤ 1048576) : (cmdAcc l k).length ≤ 16777216 := by
  have h0 : ∀ a ∈ l, a.length < 10000000 := fun a ha => by have := longA_mem ha; omega
  have h1 := encAs_len (l.take k) (fun a ha => h0 a (List.mem_of_mem_take ha))
  have h2 := longA_take_le l k
  have h3 := dec_len8 (n := l.length) (by have := longA_len l; omega)
  unfold cmdAcc
  simp [crlf]
  omega

/-- a text, as bytes of a new slice -/
theorem conv_text (w : World) (l : Bytes) : ∃ c w', (convert 9 23 (.string ⟨l.toArray⟩)).run Try.prog w = .ok (.slice (some ⟨w.heap.size, 0, none⟩) l.length c) w' ∧ Bts w' (some ⟨w.heap.size, 0, none⟩) l ∧ Below w.heap.size w w' := by
  have h := run_bytes_of_string (P := Try.prog) w 9 23 5 ⟨l.toArray⟩ Try.underlying9 Try.underlying23 Try.underlying5
  have hz : (⟨l.toArray⟩ : ByteArray).size = l.length := bat_size l
  rw [hz] at h
  refine ⟨_, _, h, fun i hi => ⟨_, rfl, ?_⟩, ((Below.refl _ _).drew).alloc (Nat.le_refl _) _⟩
  have e : (⟨w.heap.size, 0, none⟩ : Addr).add i = ⟨w.drew.heap.size, i, none⟩ := by
    show _ = (⟨w.heap.size, i, none⟩ : Addr)
    unfold Addr.add; split <;> simp_all
  rw [e, cell_of_row _ _ _ _ _ _ (heap_alloc_new w.drew _), bytesRow_at _ _ _ (by simpa using hi)]
  simp

set_option maxHeartbeats 4000000 in
set_option maxRecDepth 100000 in
theorem command_calls (A : Option Addr) (cap : Nat) (l : List Bytes) (w : World) (hA : Texts w A (l.map bat)) (hl : longA l ≤ 1048576) :
    Calls Try.prog 23 #[.slice A l.length cap] w fun e w' => ∃ A' c, e = .returned (.slice A' (enc l).length c) ∧ Bts w' A' (enc l) ∧ Below w.heap.size w w' := by
  have HL := Lib.hid hl
  have HA := Lib.hid hA
  have hn : l.length ≤ 1048576 := by have := longA_len l; omega
  clear hA hl
  go_enter Try.func23, Try.ntmps23
  go_wp2_with fail
  refine (Dg.refprint (l.length : Nat) _ (by omega) (by omega)).mono ?_
  rintro e w1 ⟨rfl, hb1⟩
  rw [txt_nat]
  have HB1 := Lib.hid hb1
  have hd0 := dec_len8 (n := l.length) (by omega)
  generalize hdd : dec l.length = d0 at hd0 ⊢
  have HD := Lib.hid hdd
  clear hb1 hdd
  go_wp2_with fail
  go_loopw [3, 4] (fun x i wr => ∃ k : Nat, k ≤ l.length ∧ i = .int .i64 k ∧ x = .string ⟨(cmdAcc l k).toArray⟩ ∧ Below w.heap.size w wr) (fun _ i _ => l.length - (intOf i).toNat)
  case atStart =>
    refine ⟨0, Nat.zero_le _, rfl, ?_, HB1.out⟩
    unfold cmdAcc
    rw [HD.out, ByteArray.mk_append_mk, ByteArray.mk_append_mk]
    simp [crlf, encAs]
  case round =>
    obtain ⟨k, hk, rfl, rfl, hb⟩ := hrel
    have HB := Lib.hid hb
    clear hb HB1
    by_cases hlt : k < l.length
    · obtain ⟨a, rfl, hc⟩ := Texts.bat_at HA.out hlt
      have c0 := keep2 HB.out hc
      have hz : (bat l[k]).size = l[k].length := bat_size _
      have E := Lib.hid (cmdAcc_next hlt)
      have hx1 := cmdAcc_len l k HL.out
      have hx2 := cmdAcc_len l (k + 1) HL.out
      have hx3 : l[k].length < 1048576 := by have := longA_mem (List.getElem_mem hlt); have := HL.out; omega
      generalize l[k] = b at c0 hz E hx3
      generalize cmdAcc l k = acc at E hx1 ⊢
      have g0 : ∀ g : Grow wr, g.w.cell? (a.add k) = some (.string (bat b)) := fun g => g.keep c0
      have i1 : (k : Int) < (l.length : Int) := by omega
      have hd := dec_len8 (n := b.length) (by omega)
      have hP : ∀ w', Calls Try.prog 33 #[.int .i64 (b.length : Nat)] w' fun e w'' => e = .returned (.string ⟨(dec b.length).toArray⟩) ∧ Below w'.heap.size w' w'' := fun w' => by
        have := Dg.refprint (b.length : Nat) w' (by omega) (by omega)
        rw [txt_nat] at this
        exact this
      generalize dec b.length = d at hP hd E
      have HP := Lib.hid hP
      clear hP
      go_wp2_with fail
      refine wp_region_grow (by kernel_rfl) (by kernel_rfl) ?_
      repeat (go_big_quiet_step ((go_at_call 33; exact grow_call (HP.out _))))
      refine wpQuiet_nil ?_
      intro _ hw'
      obtain ⟨gq, hw''⟩ := hw'
      subst hw''
      have HB2 := Lib.hid (HB.out.trans (gq.below.mono HB.out.size))
      clear g0 c0
      go_wp2_with fail
      go_roundw
      case rel =>
        refine ⟨k + 1, by omega, by go_num, ?_, HB2.out⟩
        rw [E.out]
        show Value.string (bat acc ++ bat [36] ++ bat d ++ bat [13, 10] ++ bat b ++ bat [13, 10]) = _
        simp only [bat, ByteArray.mk_append_mk]
        simp
      case measure => simp [intOf]; omega
    · have i1 : ¬ (k : Int) < (l.length : Int) := by omega
      have hke : cmdAcc l k = enc l := by rw [show k = l.length by omega, cmdAcc_end]
      have hx1 := cmdAcc_len l k HL.out
      rw [hke] at hx1 ⊢
      generalize hea : enc l = acc at hx1 ⊢
      have HKE := Lib.hid hea
      clear hke hea
      obtain ⟨c, w2, hcv, hbt, hbw⟩ := conv_text wr acc
      have HBT := Lib.hid hbt
      have HBW := Lib.hid (HB.out.trans (hbw.mono HB.out.size))
      clear hbt hbw
      go_wp2_with fail
      go_ret
      rw [HKE.out]
      exact ⟨_, ⟨_, rfl⟩, HBT.out, HBW.out⟩
end Go.Proofs.Ytgjedhdnnfdcgaa.Rp
