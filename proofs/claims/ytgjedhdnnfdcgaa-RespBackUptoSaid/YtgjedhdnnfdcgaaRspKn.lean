/-
  What the laws hold fixed of the chapter's example.
-/
import Derived.Test.YtgjedhdnnfdcgaaRspRC
import Derived.Lib.SlBytesConst
namespace Go.Proofs.Ytgjedhdnnfdcgaa.Rp
open Go.RowKit

def kb : Bytes := [42, 50, 13, 10, 36, 51, 13, 10, 71, 69, 84, 13, 10, 36, 49, 13, 10, 97, 13, 10, 42, 48]
def kc : Array Value := (kb.map fun c => Value.int .u8 (c.toNat : Int)).toArray
theorem kc_at (i : Nat) (h : i < kb.length) : kc[i]? = some (.int .u8 (kb[i].toNat : Int)) := by
  unfold kc
  simp [h]
theorem kb_enc : kb = encs [[[71, 69, 84], [97]]] ++ [42, 48] := by decide
theorem kb_may : May [[71, 69, 84], [97]] := ⟨by decide, by decide, fun a ha => by simp at ha; rcases ha with rfl | rfl <;> decide⟩
theorem kb_run : run .star kb = (.bad, [[[71, 69, 84], [97]]]) := by
  rw [kb_enc, run_append, run_encs (fun x hx => by rw [List.mem_singleton] at hx; rw [hx]; exact kb_may)]
  have h : run .star [42, 48] = (.bad, []) := by
    have hv : valid 1 50 [48] = false := by decide
    simp [run, step, hv]
  simp only [h]
  rfl
theorem kb_news : news [] kb = [[[71, 69, 84], [97]]] := by
  show (run .star kb).2 = _
  rw [kb_run]
theorem kb_wrong : wrong ([] ++ kb) = true := by
  rw [List.nil_append]
  exact wrong_iff.2 (by rw [kb_run])

set_option maxHeartbeats 4000000 in
set_option maxRecDepth 100000 in
theorem known_calls (C : RC) (w : World) :
    Calls Try.prog 10 #[] w fun e w' => e = .returned (.bool true) ∧ Below w.heap.size w w' := by
  go_enter Try.func10, Try.ntmps10
  go_wp2_with fail
  refine (C.new_ _).mono ?_
  rintro e w1 ⟨v, o1, rfl, a1, b1, l1⟩
  have H1 : Hid (∃ own, One C w w1 own v []) := Lib.hid ⟨o1, b1, a1, l1⟩
  clear a1 b1 l1
  go_wp2_with fail
  rw [show #[Value.int IntKind.u8 42, Value.int IntKind.u8 50, Value.int IntKind.u8 13, Value.int IntKind.u8 10, Value.int IntKind.u8 36, Value.int IntKind.u8 51, Value.int IntKind.u8 13, Value.int IntKind.u8 10, Value.int IntKind.u8 71, Value.int IntKind.u8 69, Value.int IntKind.u8 84, Value.int IntKind.u8 13, Value.int IntKind.u8 10, Value.int IntKind.u8 36, Value.int IntKind.u8 49, Value.int IntKind.u8 13, Value.int IntKind.u8 10, Value.int IntKind.u8 97, Value.int IntKind.u8 13, Value.int IntKind.u8 10, Value.int IntKind.u8 42, Value.int IntKind.u8 48] = kc from rfl, Lib.run_convert_bytes_const w1 23 5 kc 22 22 Try.underlying23 Try.underlying5]
  obtain ⟨own1, h1⟩ := H1.out
  have hbb : Below w1.heap.size w1 (w1.alloc (.cells kc 5 (kc.size, kc.size + 1))) := (Below.refl _ _).alloc (Nat.le_refl _) _
  have H2 := Lib.hid (h1.below hbb)
  have HS : Hid (BS (Free own1 (w1.alloc (.cells kc 5 (kc.size, kc.size + 1)))) (w1.alloc (.cells kc 5 (kc.size, kc.size + 1))) (some ⟨w1.heap.size, 0, none⟩) 22 kb) := Lib.hid {
    bts := fun i hi => by
      refine ⟨_, rfl, ?_⟩
      have e : (⟨w1.heap.size, 0, none⟩ : Addr).add i = ⟨w1.heap.size, i, none⟩ := by unfold Addr.add; split <;> simp_all
      rw [e, cell_of_row _ _ _ _ _ _ (heap_alloc_new w1 _)]
      exact kc_at i hi
    le := by decide
    nil := fun e => by cases e
    fr := fun a e _ => by
      injection e with e
      subst e
      exact ⟨by simp, fun hc => by have := C.good h1.2.1 _ hc; simp at this⟩ }
  clear hbb h1 H1
  go_wp2_with fail
  refine (C.feed_ H2.out.2.1 (some ⟨w1.heap.size, 0, none⟩) 22 kb HS.out (by decide)).mono ?_
  rintro e w2 ⟨o2, A2, c2, L2, rfl, -, hL, hh, a2, k2⟩
  have hL2 : ∃ XA xc, L2 = [([[71, 69, 84], [97]], XA, xc)] := by
    rw [kb_news] at hL
    rcases L2 with _ | ⟨⟨xa, XA, xc⟩, _ | ⟨y, L⟩⟩
    · simp at hL
    · simp at hL; subst hL; exact ⟨XA, xc, rfl⟩
    · simp at hL
  obtain ⟨XA, xc, rfl⟩ := hL2
  rw [show errI ([] ++ kb) = 7 by unfold errI; rw [if_pos kb_wrong]]
  have H3 := Lib.hid (H2.out.turn a2 k2)
  have HH3 := Lib.hid (hh.mono fun _ h => h.1)
  clear hL hh a2 k2 H2 HS
  go_wp2_with fail
  refine (C.feedNil _).mono ?_
  rintro e w3 ⟨A5, c5, rfl, hb3⟩
  have H4 := Lib.hid (H3.out.below hb3)
  have HH4 := Lib.hid (HH3.out.goes (below_stands hb3))
  clear hb3 H3 HH3
  obtain ⟨a, ea, -, c0, -⟩ := HH4.out.row 0 (by simp)
  obtain ⟨-, -, -, -, -, ht⟩ := HH4.out.one 0 (by simp)
  subst ea
  have c1 : w3.cell? a = some (.slice XA 2 xc) := by
    have e : a.add 0 = a := by simp [Addr.add]
    rw [e] at c0
    exact c0
  clear c0
  have HT := Lib.hid ht
  clear ht HH4
  go_wp2_with fail
  have ha : Below w3.heap.size w3 (w3.alloc (.cells #[.string ⟨#[71, 69, 84]⟩, .string ⟨#[97]⟩] 9)) := (Below.refl _ _).alloc (Nat.le_refl _) _
  have H5 := Lib.hid (H4.out.below ha)
  have ht2 : Texts (w3.alloc (.cells #[.string ⟨#[71, 69, 84]⟩, .string ⟨#[97]⟩] 9)) (some ⟨w3.heap.size, 0, none⟩) ([[71, 69, 84], [97]].map bat) := fun i hi => by
    refine ⟨_, rfl, ?_⟩
    have e : (⟨w3.heap.size, 0, none⟩ : Addr).add i = ⟨w3.heap.size, i, none⟩ := by unfold Addr.add; split <;> simp_all
    rw [e, cell_of_row _ _ _ _ _ _ (heap_alloc_new w3 _)]
    match i, hi with
    | 0, _ => rfl
    | 1, _ => rfl
  refine (same_true XA (some ⟨w3.heap.size, 0, none⟩) xc 2 ([[71, 69, 84], [97]].map bat) _ (HT.out.keep ha) ht2 (by simp)).mono ?_
  rintro e w4 ⟨rfl, hb4⟩
  have H6 := Lib.hid (H5.out.below hb4)
  clear ha ht2 hb4 H4 H5 HT c1
  go_wp2_with fail
  refine (C.wrong_ H6.out.2.1 (by decide)).mono ?_
  rw [kb_wrong]
  rintro e w5 ⟨rfl, hb5⟩
  have H7 := Lib.hid (H6.out.below hb5)
  clear hb5 H6
  go_wp2_with fail
  go_ret
  exact ⟨rfl, H7.out.1⟩
end Go.Proofs.Ytgjedhdnnfdcgaa.Rp
