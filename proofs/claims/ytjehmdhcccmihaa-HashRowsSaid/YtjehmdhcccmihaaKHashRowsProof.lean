/-
  The statement 'HashRows' is proved, for every input, without conditions: on every schedule the call returns true, without a data race; at its return every other goroutine has ended or is only leaving, and all that it did to memory happened before; the arguments read as before. The run lies in YtjehmdhcccmihaaPoolRwn, the phase of the machine in YtjehmdhcccmihaaPoolRun.
-/
import Derived.Test.YtjehmdhcccmihaaRows
import Derived.Test.YtjehmdhcccmihaaKGRwx
import Derived.Test.YtjehmdhcccmihaaKPoolOpn
import Derived.Below
import Derived.WalkKit
import Derived.ProofKit
import Derived.OpenShut
import Derived.JoinedCond
import Derived.Conc.LeavingOf
namespace Go.Proofs.Ytjehmdhcccmihaa.hashRows
open Go.ChangeShapes Go.WideShapes Go.ChangeAt Go.RowKit Go.Deep Go.Conc

theorem post_of {W w' : World} (h : Pool.Like W w') : Below W.heap.size W { w' with tape := W.tape } := ⟨h.1, rfl, h.2.1, h.2.2.1, h.2.2.2⟩
theorem like_frame {W w' : World} (h : Pool.Like W w') (may : MemPlace → Prop) : W.keptBut w' may := ⟨((post_of h).frame may).1, ((post_of h).frame may).2.1, ((post_of h).frame may).2.2⟩

theorem bytes_str : Try.prog.bytesOf 9 = 16 := by kernel_rfl
theorem open_len {H : Type} {enc : TypeId × Value → H} {W : World} {a0 : Option Addr} {len cap : Nat} {d : DataW H} {p : List MemPlace}
    (h : DataW.Trod enc Try.prog W 0 (fun _ => true) true 22 (.slice a0 len cap) d p) (B : Nat) (hB : ∀ n ∈ d.weights Try.prog 22, n ≤ B) : len ≤ B := by
  obtain ⟨fuel, hf⟩ := h
  rcases open_strs Try.underlying22 Try.underlying9 Hs.cells_str hf with ⟨hcs, hx⟩ | ⟨a, len', cap', m, Sx, hcs, _, hl, hm, hmm, hx, hcell⟩
  · simp [Value.cells] at hcs
    obtain ⟨rfl, rfl, rfl⟩ := hcs
    exact Nat.zero_le _
  · simp [Value.cells] at hcs
    obtain ⟨rfl, rfl, rfl⟩ := hcs
    simp only [Prod.mk.injEq] at hx
    obtain ⟨rfl, rfl⟩ := hx
    rw [DataW.weights, Try.underlying22] at hB
    have := hB _ (List.mem_cons_self ..)
    rw [bytes_str] at this
    simp at this
    omega

set_option maxRecDepth 100000 in
theorem lifted (os : Os) (started : os.Started) (H : Type) (enc : TypeId × Value → H) :
    ReturnsInLeavingWide {} Try.checked os 5 .any (Rows.hashRowsSpec.pre6 enc Try.prog Try.f5 Rows.hashRowsRow.domain false) (Rows.hashRowsSpec.post enc Try.prog Try.f5 false true false false) := by
  refine returnsInLeavingWide_of_change_sized (C := Try.checked) Hs.knob started Try.func5
    (ChangeSpec.witness6 (enc := enc) (C := Try.checked) false ⟨#[], #[.slice none 0 0, .slice none 0 0, .int .u8 0], []⟩ 8 (by kernel_rfl) (by kernel_rfl) (by kernel_rfl) (by kernel_rfl)) ?_
  intro W base args ds gs before hval0 hW _ hsz0 _
  have hsz : (DataW.weightsEach Try.prog (Try.f5.params.toList ++ Rows.hashRowsSpec.plain.varTypes Try.prog) (ds ++ gs)).all (· ≤ reachBytes) = true := hsz0
  have hval : ∀ (j : Nat) t v, Try.f5.params[j]? = some t → args[j]? = some v → Value.okWide Try.prog W .any base t v := hval0
  have hW' := hW
  obtain ⟨p, q, hA0, hV, rfl, hfz, hnd⟩ := hW
  have hA : DataW.TrodAll enc Try.prog W 0 (fun _ => true) true Try.f5.params.toList args.toList ds p := hA0
  rw [Try.params5] at hA hval hsz
  obtain ⟨v0, vs0, d0, ds0, p0, q0, hargs, rfl, rfl, h0, r0⟩ := trodAll_cons hA
  obtain ⟨v1, vs1, d1, ds1, p1, q1, rfl, rfl, rfl, h1, r1⟩ := trodAll_cons r0
  obtain ⟨v2, vs2, d2, ds2, p2, q2, rfl, rfl, rfl, h2, r2⟩ := trodAll_cons r1
  obtain ⟨rfl, rfl, rfl⟩ := trodAll_nil r2
  obtain rfl : args = #[v0, v1, v2] := by cases args; simp_all
  obtain ⟨rfl, rfl⟩ := trodVars_none hV
  obtain ⟨a0, len0, cap0, rfl⟩ := okWide_slice Try.underlying22 (hval 0 22 v0 rfl rfl)
  obtain ⟨a1, len1, cap1, rfl⟩ := okWide_slice Try.underlying22 (hval 1 22 v1 rfl rfl)
  have hlow0 := Hs.slice_low (hval 0 22 _ rfl rfl)
  have hlow1 := Hs.slice_low (hval 1 22 _ rfl rfl)
  obtain ⟨n, rfl, rfl, rfl, w2⟩ := open_int Try.underlying5 (hval 2 5 v2 rfl rfl) h2
  have hx : 0 ≤ n ∧ n < 256 := by
    simp [Lit.wf, IntKind.min, IntKind.max, IntKind.signed, IntKind.bits] at w2
    omega
  obtain ⟨hx0, hx1⟩ := hx
  have h0k := h0
  have h1k := h1
  obtain ⟨ps, rfl, hT, _, hn0, _, _, hwt0⟩ := Hs.open_texts h0
  obtain ⟨qs, rfl, hU, _, hn1, _, _, hwt1⟩ := Hs.open_texts h1
  clear hA0 hA hval0 hsz0
  simp only [List.append_nil] at hW'
  have hlt0 : ∀ x ∈ p0, x.block < W.heap.size := fun x hx => hW'.lt x (by simp [hx])
  have hlt1 : ∀ x ∈ p1, x.block < W.heap.size := fun x hx => hW'.lt x (by simp [hx])
  have hm0 : ∀ m ∈ d0.weights Try.prog 22, m ≤ 140737488355328 := fun m hm => by
    have h2 := DataW.weights_mem_each (P := Try.prog) (ts := [22, 22, 5] ++ Rows.hashRowsSpec.plain.varTypes Try.prog) (ds := [d0, d1, DataW.lit (.int .u8 n)] ++ []) (j := 0) rfl rfl m hm
    have h3 := List.all_eq_true.1 hsz m h2
    have h4 : m ≤ reachBytes := of_decide_eq_true h3
    simp only [reachBytes] at h4
    omega
  have hz0 := hwt0 _ hm0
  have hl0 := open_len h0 _ hm0
  have hm1 : ∀ m ∈ d1.weights Try.prog 22, m ≤ 140737488355328 := fun m hm => by
    have h2 := DataW.weights_mem_each (P := Try.prog) (ts := [22, 22, 5] ++ Rows.hashRowsSpec.plain.varTypes Try.prog) (ds := [d0, d1, DataW.lit (.int .u8 n)] ++ []) (j := 1) rfl rfl m hm
    have h3 := List.all_eq_true.1 hsz m h2
    have h4 : m ≤ reachBytes := of_decide_eq_true h3
    simp only [reachBytes] at h4
    omega
  have hz1 := hwt1 _ hm1
  have hl1 := open_len h1 _ hm1
  obtain ⟨K, last, o, w', t', e1, e2, e3, e4⟩ := Pool.rows_good (x := n) (ca := cap0) (cb := cap1) hx0 hx1 hlow0 hlow1 hT hU hn0 hn1 hl0 hl1 hz0 hz1
  refine ⟨K, last, o, w', t', e1, e2, e3, e4.mono ?_⟩
  rintro v ⟨rfl, hl⟩
  have hg := post_of hl
  exact ⟨_, _, _, [], _, [], hW', (trodAll_cons_mk (shut_bool Try.underlying4 _) trodAll_mk0),
    trodAll_cons_mk (DataW.Trod.of_heap (P := Try.prog) (w := { w' with tape := W.tape }) (w' := w') rfl (Below.trod Hs.laidOut (by kernel_rfl) (of_decide_eq_true (by kernel_rfl)) h0k hg hlt0))
      (trodAll_cons_mk (DataW.Trod.of_heap (P := Try.prog) (w := { w' with tape := W.tape }) (w' := w') rfl (Below.trod Hs.laidOut (by kernel_rfl) (of_decide_eq_true (by kernel_rfl)) h1k hg hlt1)) (trodAll_cons_mk (shut_int Try.underlying5 w2) trodAll_mk0)), rfl, like_frame hl _, fun h => by cases h⟩

theorem proved : Rows.HashRowsSaid :=
  OpenClaim.holds_of_wide_leaving 5 Try.f5 rfl rfl rfl rfl rfl rfl rfl ⟨rfl, rfl, rfl, rfl, rfl⟩ rfl rfl rfl rfl rfl (by kernel_rfl) Try.func5 (by kernel_rfl)
    (of_decide_eq_true (by kernel_rfl)) (by unfold Func.isWrapper; first | (rw [if_pos (by decide +kernel)]; kernel_rfl) | (rw [if_neg (by decide +kernel)]; exact ⟨rfl, rfl⟩))
    (fun os started H enc _ => lifted os started H enc)
end Go.Proofs.Ytjehmdhcccmihaa.hashRows
