/-
  HashSpreads behind Wait, BESIDE LEAVERS: a walk that touches no cell of the group's block, on to the law's last frame, which returns true.
-/
import Derived.Test.YtjehmdhcccmihaaKPoolOut
import Derived.Test.YtjehmdhcccmihaaKLiftProg
namespace Go.Proofs.Ytjehmdhcccmihaa.Pool
open Go.RowKit Go.Conc Hs Lift

theorem RRow.same {w w' : World} {B : Nat} {v : Value} {l : List Cm} (h : RRow w B v l) (hb : ∀ k, v.ownBlock = some k → w'.heap[k]? = w.heap[k]?) : RRow w' B v l := by
  refine ⟨h.1, ?_⟩
  rcases h.2 with h2 | ⟨g, cap, cur, hv, hB, hg, r⟩
  · exact .inl h2
  · exact .inr ⟨g, cap, cur, hv, hB, by rw [hb g (by rw [hv]; rfl)]; exact hg, r⟩
theorem shut_heap {B : Nat → Prop} {w : World} {T : Nat → Question → Nat} {k : Nat} (hk : ¬ B k) : (Lift.as (shut B w) T).heap[k]? = w.heap[k]? := shut_far hk
theorem shut_cell {B : Nat → Prop} {w : World} {T : Nat → Question → Nat} {a : Addr} (hk : ¬ B a.block) : (Lift.as (shut B w) T).cell? a = w.cell? a := World.cell?_of_block (w := w) (shut_heap hk)
theorem sms_ok : (Item.inRegion smsParts.1 (List.range' 1 (smsParts.1.toList.drop 1).length) :: smsParts.2.map .code).all (okItem Try.prog plainFns sameFns) = true := by kernel_rfl
theorem spr_ok : (Item.inRegion sprParts.1 (List.range' 2 (sprParts.1.toList.drop 2).length) :: sprParts.2.map .code).all (okItem Try.prog plainFns sameFns) = true := by kernel_rfl
theorem lws_ok : (Item.inRegion lwsParts.1 (List.range' 3 (lwsParts.1.toList.drop 3).length) :: lwsParts.2.map .code).all (okItem Try.prog plainFns sameFns) = true := by kernel_rfl
theorem fit_blank {f : FuncId} {a : Act} {k : List Item} (hk : k.all (okItem Try.prog plainFns sameFns) = true) (ha : a.defers = []) (hf : ∃ fn, Try.prog.funcs[f]? = some fn) : FitF Try.prog plainFns sameFns ((blank f).at a k) :=
  ⟨fun it hi => List.all_eq_true.1 hk it hi, ha, rfl, rfl, .inl rfl, hf⟩
theorem spreads_fitX (v2 v3 v5 v6 v7 v8 v9 v10 v11 v12 v13 v14 v15 : Value) (A : Option Addr) (cap : Nat) (ps : List ByteArray) (n : Int) (g : Nat) : FitX Try.prog plainFns sameFns [spF A cap ps n g, lwF v2 v3 v5 v6 v7 v8 v9 v10 v11 v12 v13 v14 v15 A cap ps n] := fun x hx => by
  rcases List.mem_cons.1 hx with rfl | hx
  · refine ⟨rfl, fun v => ?_⟩
    rw [spF_finish]
    exact fit_blank spr_ok rfl ⟨_, Try.func9⟩
  · rw [List.mem_singleton] at hx
    subst hx
    refine ⟨rfl, fun v => ?_⟩
    rw [lwF_finish]
    exact fit_blank lws_ok rfl ⟨_, Try.func3⟩
/-- What was there has not turned, but for the blocks g and E. -/
def OnW (g E : Nat) (w wl : World) : Prop := wl.os = w.os ∧ wl.output = w.output ∧ w.heap.size ≤ wl.heap.size ∧ ∀ k, k < w.heap.size → k ≠ g → k ≠ E → wl.heap[k]? = w.heap[k]?
theorem ends_on {P : Program} {L X : List FuncId} (R : Value → Prop) (Q : World → Prop) (hQ : ∀ wl T, Q wl → Q (Lift.as wl T)) : Lift.Ends P L X (fun fr Y wl => AtOut P L X R fr Y wl ∧ Q wl) := ⟨fun h => h.1.1, fun h T => ⟨h.1, hQ _ T h.2⟩⟩
theorem spreads_gw (u0 u1 u2 u4 u5 u6 u7 u8 u9 u10 u11 u12 u13 u14 u15 u16 u17 u18 u19 u20 u21 u22 u23 u24 u25 u26 u27 u28 u29 u30 u31 : Value) (v2 v3 v5 v6 v7 v8 v9 v10 v11 v12 v13 v14 v15 : Value) (A : Option Addr) (cap : Nat) (ps : List ByteArray) (n : Int) (g b m cm E : Nat) (arr : Array Value) (ty : TypeId) (w0 : World) (Z : List Frame)
    (hE : w0.heap[E]? = some (.cells arr ty (0, 0))) (h0 : arr.size ≠ 0) (hA : Texts w0 A ps) (hAg : ∀ a, A = some a → a.block ≠ g) (hAE : ∀ a, A = some a → a.block ≠ E) (hl : ps.length ≤ 1048576) (hz : ∀ p ∈ ps, p.size ≤ maxLen) (hmg : m ≠ g) (hmE : m ≠ E) (hbE : b ≠ E) (hgE : g ≠ E)
    (hb : w0.cell? ⟨b, 0, none⟩ = some (.slice (some ⟨m, 0, none⟩) ps.length cm)) (hm : ∀ i (h : i < ps.length), w0.cell? ⟨m, i, none⟩ = some (.int .u64 (sum ps[i].data.toList : Nat)))
    (hrow : RRow w0 g (.slice (some ⟨g, 0, none⟩) (clip n) (clip n)) (List.replicate (clip n) ([], none, 0))) :
    GW Try.prog (DGrow (InB (· = E))) (fun a w => ∃ fr Y wl, a = G fr (Y ++ Z) ∧ (AtOut Try.prog plainFns sameFns (· = .bool true) fr Y wl ∧ OnW g E w0 wl) ∧ RelH (· = E) wl w) (G (smF u0 u1 u2 u4 u5 u6 u7 u8 u9 u10 u11 u12 u13 u14 u15 u16 u17 u18 u19 u20 u21 u22 u23 u24 u25 u26 u27 u28 u29 u30 u31 b) ([spF A cap ps n g, lwF v2 v3 v5 v6 v7 v8 v9 v10 v11 v12 v13 v14 v15 A cap ps n] ++ Z)) w0 := by
  have hF : FitF Try.prog plainFns sameFns (smF u0 u1 u2 u4 u5 u6 u7 u8 u9 u10 u11 u12 u13 u14 u15 u16 u17 u18 u19 u20 u21 u22 u23 u24 u25 u26 u27 u28 u29 u30 u31 b) := fit_blank sms_ok rfl ⟨_, Try.func16⟩
  have hY := spreads_fitX v2 v3 v5 v6 v7 v8 v9 v10 v11 v12 v13 v14 v15 A cap ps n g
  have hB : Lift.Stand (· = E) w0 := fun b hb => ⟨arr, ty, by rw [hb]; exact hE, h0⟩
  refine lift_walk closed (ends_on (· = .bool true) (OnW g E w0) (fun _ _ h => h)) hF hY hB fun T => ?_
  obtain ⟨fr, w', hs, hmd, hfn, hv, hon⟩ := spreads_out u0 u1 u2 u4 u5 u6 u7 u8 u9 u10 u11 u12 u13 u14 u15 u16 u17 u18 u19 u20 u21 u22 u23 u24 u25 u26 u27 u28 u29 u30 u31 v2 v3 v5 v6 v7 v8 v9 v10 v11 v12 v13 v14 v15 A cap ps n g b m cm (Lift.as (shut (· = E) w0) T) [door Try.prog]
    (fun i hi => by
      obtain ⟨a, e, hc⟩ := hA i hi
      exact ⟨a, e, by rw [shut_cell (by rw [add_block]; exact hAE a e)]; exact hc⟩) hAg hl hz hmg (by rw [shut_cell hbE]; exact hb) (fun i hi => by rw [shut_cell hmE]; exact hm i hi)
    (RRow.same hrow fun k hk => shut_heap (by
      have : k = g := by simpa [Value.ownBlock] using hk.symm
      subst this
      exact hgE))
  have hP : Pend (· = E) (Lift.as (shut (· = E) w0) T) := shut_pend hB
  have hfit := (steps_fit closed (Y := [spF A cap ps n g, lwF v2 v3 v5 v6 v7 v8 v9 v10 v11 v12 v13 v14 v15 A cap ps n]) (Y' := []) hF hY hP (.inr hmd) ⟨_, by rw [hfn]; exact Try.func3⟩ hs).1
  have hsz0 : (Lift.as (shut (· = E) w0) T).heap.size = w0.heap.size := shut_size
  have hQ : OnW g E w0 w' := ⟨hon.os, hon.output, by have := hon.size; rw [hsz0] at this; exact this, fun k hk h1 h2 => (hon.block k (by rw [hsz0]; exact hk) (by simpa using h1)).trans (shut_heap h2)⟩
  exact ⟨fr, [], w', hs, ⟨hfit, rfl, hmd, by rw [hfn]; kernel_rfl, _, 4, by rw [hfn]; exact Try.func3, rfl, hv⟩, hQ⟩
end Go.Proofs.Ytjehmdhcccmihaa.Pool
