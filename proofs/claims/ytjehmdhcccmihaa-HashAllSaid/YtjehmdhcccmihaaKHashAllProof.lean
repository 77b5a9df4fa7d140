/-
  The statement 'HashAll' is proved, for every input, without conditions: on every schedule the call returns true, without a data race; at its return every other goroutine has ended or is only leaving, and all that it did to memory happened before; the arguments read as before. The run lies in YtjehmdhcccmihaaPoolRna, the phase of the machine in YtjehmdhcccmihaaPoolRun.
-/
import Derived.Test.YtjehmdhcccmihaaRows
import Derived.Test.YtjehmdhcccmihaaKPoolEaa
import Derived.Test.YtjehmdhcccmihaaKPoolOpn
import Derived.Below
import Derived.WalkKit
import Derived.ProofKit
import Derived.OpenShut
import Derived.JoinedCond
import Derived.Conc.LeavingOf
namespace Go.Proofs.Ytjehmdhcccmihaa.hashAll
open Go.ChangeShapes Go.WideShapes Go.ChangeAt Go.RowKit Go.Deep Go.Conc

theorem post_of {W w' : World} (h : Pool.Like W w') : Below W.heap.size W { w' with tape := W.tape } := ⟨h.1, rfl, h.2.1, h.2.2.1, h.2.2.2⟩
theorem like_frame {W w' : World} (h : Pool.Like W w') (may : MemPlace → Prop) : W.keptBut w' may := ⟨((post_of h).frame may).1, ((post_of h).frame may).2.1, ((post_of h).frame may).2.2⟩

set_option maxRecDepth 100000 in
theorem lifted (os : Os) (started : os.Started) (H : Type) (enc : TypeId × Value → H) :
    ReturnsInLeavingWide {} Try.checked os 4 .any (Rows.hashAllSpec.pre6 enc Try.prog Try.f4 Rows.hashAllRow.domain false) (Rows.hashAllSpec.post enc Try.prog Try.f4 false true false false) := by
  refine returnsInLeavingWide_of_change_sized (C := Try.checked) Hs.knob started Try.func4
    (ChangeSpec.witness6 (enc := enc) (C := Try.checked) false ⟨#[], #[.slice none 0 0, .int .u8 0], []⟩ 8 (by kernel_rfl) (by kernel_rfl) (by kernel_rfl) (by kernel_rfl)) ?_
  intro W base args ds gs before hval0 hW _ hsz0 _
  have hsz : (DataW.weightsEach Try.prog (Try.f4.params.toList ++ Rows.hashAllSpec.plain.varTypes Try.prog) (ds ++ gs)).all (· ≤ reachBytes) = true := hsz0
  have hval : ∀ (j : Nat) t v, Try.f4.params[j]? = some t → args[j]? = some v → Value.okWide Try.prog W .any base t v := hval0
  have hW' := hW
  obtain ⟨p, q, hA0, hV, rfl, hfz, hnd⟩ := hW
  have hA : DataW.TrodAll enc Try.prog W 0 (fun _ => true) true Try.f4.params.toList args.toList ds p := hA0
  rw [Try.params4] at hA hval hsz
  obtain ⟨v0, vs0, d0, ds0, p0, q0, hargs, rfl, rfl, h0, r0⟩ := trodAll_cons hA
  obtain ⟨v1, vs1, d1, ds1, p1, q1, rfl, rfl, rfl, h1, r1⟩ := trodAll_cons r0
  obtain ⟨rfl, rfl, rfl⟩ := trodAll_nil r1
  obtain rfl : args = #[v0, v1] := by cases args; simp_all
  obtain ⟨rfl, rfl⟩ := trodVars_none hV
  obtain ⟨a0, len, cap, rfl⟩ := okWide_slice Try.underlying22 (hval 0 22 v0 rfl rfl)
  have hlow := Hs.slice_low (hval 0 22 _ rfl rfl)
  obtain ⟨n, rfl, rfl, rfl, w1⟩ := open_int Try.underlying5 (hval 1 5 v1 rfl rfl) h1
  have hx : 0 ≤ n ∧ n < 256 := by
    simp [Lit.wf, IntKind.min, IntKind.max, IntKind.signed, IntKind.bits] at w1
    omega
  obtain ⟨hx0, hx1⟩ := hx
  have h0k := h0
  obtain ⟨ps, rfl, hT, _, _, _, _, hwt⟩ := Hs.open_texts h0
  clear hA0 hA hval0 hsz0
  simp only [List.append_nil] at hW'
  have hlt : ∀ x ∈ p0, x.block < W.heap.size := fun x hx => by simpa using hW'.lt x hx
  have hz : ∀ q ∈ ps, q.size ≤ 140737488355328 := hwt _ fun m hm => by
    have h2 := DataW.weights_mem_each (P := Try.prog) (ts := [22, 5] ++ Rows.hashAllSpec.plain.varTypes Try.prog) (ds := [d0, DataW.lit (.int .u8 n)] ++ []) (j := 0) rfl rfl m hm
    have h3 := List.all_eq_true.1 hsz m h2
    have h4 : m ≤ reachBytes := of_decide_eq_true h3
    simp only [reachBytes] at h4
    omega
  obtain ⟨K, last, o, w', t', e1, e2, e3, e4⟩ := Pool.all_good (x := n) hx0 hx1 (cap := cap) hlow hT hz
  refine ⟨K, last, o, w', t', e1, e2, e3, e4.mono ?_⟩
  rintro v ⟨rfl, hl⟩
  have hg := post_of hl
  exact ⟨_, _, _, [], _, [], hW', (trodAll_cons_mk (shut_bool Try.underlying4 _) trodAll_mk0),
    trodAll_cons_mk (DataW.Trod.of_heap (P := Try.prog) (w := { w' with tape := W.tape }) (w' := w') rfl (Below.trod Hs.laidOut (by kernel_rfl) (of_decide_eq_true (by kernel_rfl)) h0k hg hlt)) (trodAll_cons_mk (shut_int Try.underlying5 w1) trodAll_mk0), rfl, like_frame hl _, fun h => by cases h⟩

theorem proved : Rows.HashAllSaid :=
  OpenClaim.holds_of_wide_leaving 4 Try.f4 rfl rfl rfl rfl rfl rfl rfl ⟨rfl, rfl, rfl, rfl, rfl⟩ rfl rfl rfl rfl rfl (by kernel_rfl) Try.func4 (by kernel_rfl)
    (of_decide_eq_true (by kernel_rfl)) (by unfold Func.isWrapper; first | (rw [if_pos (by decide +kernel)]; kernel_rfl) | (rw [if_neg (by decide +kernel)]; exact ⟨rfl, rfl⟩))
    (fun os started H enc _ => lifted os started H enc)
end Go.Proofs.Ytjehmdhcccmihaa.hashAll
