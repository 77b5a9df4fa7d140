/-
  HashAll behind Wait, alone: on to the law's last frame, which returns true; and beside leavers.
-/
import Derived.Test.YtjehmdhcccmihaaKPoolGo
import Derived.Test.YtjehmdhcccmihaaKPoolPra
namespace Go.Proofs.Ytjehmdhcccmihaa.Pool
open Go.RowKit Go.Conc Hs Lift
theorem lwa_dst : (lwaParts.1[2]?).bind (·.dst) = some 29 := by kernel_rfl
theorem laF_finish (u2 u3 u14 u15 u16 u17 u18 u19 u20 u21 u22 u23 u24 u25 u26 u27 u28 : Value) (A : Option Addr) (cap : Nat) (ps : List ByteArray) (x : Int) (v : Value) : (laF u2 u3 u14 u15 u16 u17 u18 u19 u20 u21 u22 u23 u24 u25 u26 u27 u28 A cap ps x).finish v = (blank 4).at { tmps := #[.slice A ps.length cap, .int .u8 x, u2, u3, .bool false, .int .i64 (kof x), undef, undef, undef, undef, undef, undef, undef, undef, u14, u15, u16, u17, u18, u19, u20, u21, u22, u23, u24, u25, u26, u27, u28, v, undef, undef, undef, undef, undef, undef, undef, undef, undef, undef, undef, undef, undef, undef, undef, undef, undef, undef, undef, undef, undef, undef, undef, undef, undef, undef, undef, undef, undef, undef, undef, undef, undef, undef, undef, undef, undef, undef, undef, undef, undef, undef, undef, undef, undef, undef, undef, undef, undef, undef, undef, undef, undef, undef, undef, undef, undef, undef, undef, undef, undef, undef, undef, undef, undef, undef, undef, undef, undef, undef, undef, undef, undef, undef, undef, undef, undef, undef, undef, undef, undef], defers := [] } (.inRegion lwaParts.1 (List.range' 3 (lwaParts.1.toList.drop 3).length) :: lwaParts.2.map .code) := by
  unfold laF Frame.at Frame.finish
  simp only [lwa_dst]
  rfl
set_option maxHeartbeats 1000000 in
theorem all_out (y0 y1 y2 y4 y5 y6 y7 y8 y9 y10 y11 y12 y13 y14 y15 y16 y17 y18 y19 y20 y21 y22 y23 y24 y25 y26 y27 y28 y29 y30 y31 : Value) (u2 u3 u14 u15 u16 u17 u18 u19 u20 u21 u22 u23 u24 u25 u26 u27 u28 : Value) (A : Option Addr) (cap : Nat) (ps : List ByteArray) (x : Int) (g b m cm : Nat) (w : World) (Z : List Frame) (hA : Texts w A ps) (hAg : ∀ a, A = some a → a.block ≠ g) (hl : ps.length ≤ 60) (hz : ∀ p ∈ ps, p.size ≤ maxLen) (hmg : m ≠ g)
    (hb : w.cell? ⟨b, 0, none⟩ = some (.slice (some ⟨m, 0, none⟩) ps.length cm)) (hm : ∀ i (h : i < ps.length), w.cell? ⟨m, i, none⟩ = some (.int .u64 (sum ps[i].data.toList : Nat)))
    (hrow : RRow w g (.slice (some ⟨g, 0, none⟩) (clip (kof x)) (clip (kof x))) (List.replicate (clip (kof x)) ([], none, 0))) :
    ∃ fr w', Steps Try.prog (lone (smF y0 y1 y2 y4 y5 y6 y7 y8 y9 y10 y11 y12 y13 y14 y15 y16 y17 y18 y19 y20 y21 y22 y23 y24 y25 y26 y27 y28 y29 y30 y31 b) (spF A cap ps (kof x) g :: laF u2 u3 u14 u15 u16 u17 u18 u19 u20 u21 u22 u23 u24 u25 u26 u27 u28 A cap ps x :: Z) w) (lone fr Z w') ∧ fr.mode = .returning ∧ fr.fn = 4 ∧ fr.tmps.getD 4 undef = .bool true ∧ Only [g] w w' := by
  obtain ⟨kk, hkk, hk1, hk64⟩ := kof_nat x
  have hck := clip_of hk1 hk64
  have h1 := sums_rest y0 y1 y2 y4 y5 y6 y7 y8 y9 y10 y11 y12 y13 y14 y15 y16 y17 y18 y19 y20 y21 y22 y23 y24 y25 y26 y27 y28 y29 y30 y31 b m ps.length cm w hb
  rw [post_eq] at h1
  obtain ⟨v, w1, ⟨rfl, rfl⟩, s1⟩ := rest_steps (b := blank 16) Try.func16 rfl (wpOps_drop h1) (spF A cap ps (kof x) g) (laF u2 u3 u14 u15 u16 u17 u18 u19 u20 u21 u22 u23 u24 u25 u26 u27 u28 A cap ps x :: Z)
  rw [spF_finish] at s1
  have h2 := spread_rest A cap ps (kof x) g m cm (clip (kof x)) w1 (clip_pos _) (clip_le _) hA hAg (by omega) hmg hm hrow
  rw [post_ex] at h2
  obtain ⟨v, w2, ⟨rfl, L, hL⟩, s2⟩ := rest_steps (b := blank 9) Try.func9 rfl (wpOps_drop h2) (laF u2 u3 u14 u15 u16 u17 u18 u19 u20 u21 u22 u23 u24 u25 u26 u27 u28 A cap ps x) Z
  rw [laF_finish, hkk, hck] at s2
  have hA2 : Texts w2 A ps := fun i hi => by
    obtain ⟨a, e, hc⟩ := hA i hi
    exact ⟨a, e, only_cell hL.only hc (by simpa [add_block] using hAg a e)⟩
  have hR : Rows w2 (some ⟨g, 0, none⟩) (spreadR (clip (kof x)) (toShard (kof x)) ps) := by
    obtain ⟨A3, c3, e3, hr⟩ := RRow.view (l := L) (B := g) (v := .slice (some ⟨g, 0, none⟩) (clip (kof x)) (clip (kof x))) hL.row (B' := w1.heap.size) hL.rows
    injection e3 with e31 e32 e33
    subst e31
    have := hL.eq
    rw [List.take_length] at this
    rw [this] at hr
    exact hr
  rw [hkk, hck] at hR
  have h3 := all_rest u2 u3 u14 u15 u16 u17 u18 u19 u20 u21 u22 u23 u24 u25 u26 u27 u28 x A cap ps kk g w2 hk1 hk64 hA2 hl hz hR
  rw [post_eq] at h3
  obtain ⟨v, w3, fr, ⟨rfl, hb3⟩, s3, hfn, hlv⟩ := rest_last (b := blank 4) Try.func4 rfl (wpOps_drop h3) Z
  have hon : Only [g] w1 w3 := hL.only.trans (Only.of_below hb3) (fun x hx => absurd hx (by simp))
  rw [hkk, hck] at s1
  rw [hkk]
  refine ⟨fr, w3, Steps.trans s1 (Steps.trans s2 s3), hlv.1, hfn, ?_, hon⟩
  obtain ⟨_, _, _, fn, hf, hr⟩ := hlv
  rw [hfn] at hf
  obtain rfl : Try.f4 = fn := Option.some.inj (Try.func4.symm.trans hf)
  simp [results, Try.results4] at hr
  rw [Array.getD_eq_getD_getElem?]
  exact hr
theorem lwa_ok : (Item.inRegion lwaParts.1 (List.range' 3 (lwaParts.1.toList.drop 3).length) :: lwaParts.2.map .code).all (okItem Try.prog plainFns sameFns) = true := by kernel_rfl
theorem all_fitX (u2 u3 u14 u15 u16 u17 u18 u19 u20 u21 u22 u23 u24 u25 u26 u27 u28 : Value) (A : Option Addr) (cap : Nat) (ps : List ByteArray) (x : Int) (g : Nat) : FitX Try.prog plainFns sameFns [spF A cap ps (kof x) g, laF u2 u3 u14 u15 u16 u17 u18 u19 u20 u21 u22 u23 u24 u25 u26 u27 u28 A cap ps x] := fun x hx => by
  rcases List.mem_cons.1 hx with rfl | hx
  · refine ⟨rfl, fun v => ?_⟩
    rw [spF_finish]
    exact fit_blank spr_ok rfl ⟨_, Try.func9⟩
  · rw [List.mem_singleton] at hx
    subst hx
    refine ⟨rfl, fun v => ?_⟩
    rw [laF_finish]
    exact fit_blank lwa_ok rfl ⟨_, Try.func4⟩
theorem all_gw (y0 y1 y2 y4 y5 y6 y7 y8 y9 y10 y11 y12 y13 y14 y15 y16 y17 y18 y19 y20 y21 y22 y23 y24 y25 y26 y27 y28 y29 y30 y31 : Value) (u2 u3 u14 u15 u16 u17 u18 u19 u20 u21 u22 u23 u24 u25 u26 u27 u28 : Value) (A : Option Addr) (cap : Nat) (ps : List ByteArray) (x : Int) (g b m cm E : Nat) (arr : Array Value) (ty : TypeId) (w0 : World) (Z : List Frame)
    (hE : w0.heap[E]? = some (.cells arr ty (0, 0))) (h0 : arr.size ≠ 0) (hA : Texts w0 A ps) (hAg : ∀ a, A = some a → a.block ≠ g) (hAE : ∀ a, A = some a → a.block ≠ E) (hl : ps.length ≤ 60) (hz : ∀ p ∈ ps, p.size ≤ maxLen) (hmg : m ≠ g) (hmE : m ≠ E) (hbE : b ≠ E) (hgE : g ≠ E)
    (hb : w0.cell? ⟨b, 0, none⟩ = some (.slice (some ⟨m, 0, none⟩) ps.length cm)) (hm : ∀ i (h : i < ps.length), w0.cell? ⟨m, i, none⟩ = some (.int .u64 (sum ps[i].data.toList : Nat)))
    (hrow : RRow w0 g (.slice (some ⟨g, 0, none⟩) (clip (kof x)) (clip (kof x))) (List.replicate (clip (kof x)) ([], none, 0))) :
    GW Try.prog (DGrow (InB E)) (fun a w => ∃ fr Y wl, a = G fr (Y ++ Z) ∧ (AtOut Try.prog plainFns sameFns (· = .bool true) fr Y wl ∧ OnW g E w0 wl) ∧ RelH E wl w) (G (smF y0 y1 y2 y4 y5 y6 y7 y8 y9 y10 y11 y12 y13 y14 y15 y16 y17 y18 y19 y20 y21 y22 y23 y24 y25 y26 y27 y28 y29 y30 y31 b) ([spF A cap ps (kof x) g, laF u2 u3 u14 u15 u16 u17 u18 u19 u20 u21 u22 u23 u24 u25 u26 u27 u28 A cap ps x] ++ Z)) w0 := by
  have hF : FitF Try.prog plainFns sameFns (smF y0 y1 y2 y4 y5 y6 y7 y8 y9 y10 y11 y12 y13 y14 y15 y16 y17 y18 y19 y20 y21 y22 y23 y24 y25 y26 y27 y28 y29 y30 y31 b) := fit_blank sms_ok rfl ⟨_, Try.func16⟩
  have hY := all_fitX u2 u3 u14 u15 u16 u17 u18 u19 u20 u21 u22 u23 u24 u25 u26 u27 u28 A cap ps x g
  refine lift_walk closed (ends_on (· = .bool true) (OnW g E w0) (fun _ _ h => h)) hF hY hE h0 fun T => ?_
  obtain ⟨fr, w', hs, hmd, hfn, hv, hon⟩ := all_out y0 y1 y2 y4 y5 y6 y7 y8 y9 y10 y11 y12 y13 y14 y15 y16 y17 y18 y19 y20 y21 y22 y23 y24 y25 y26 y27 y28 y29 y30 y31 u2 u3 u14 u15 u16 u17 u18 u19 u20 u21 u22 u23 u24 u25 u26 u27 u28 A cap ps x g b m cm (Lift.as (shut E arr ty w0) T) [door Try.prog]
    (fun i hi => by
      obtain ⟨a, e, hc⟩ := hA i hi
      exact ⟨a, e, by rw [shut_cell (by rw [add_block]; exact hAE a e)]; exact hc⟩) hAg hl hz hmg (by rw [shut_cell hbE]; exact hb) (fun i hi => by rw [shut_cell hmE]; exact hm i hi)
    (RRow.same hrow fun k hk => shut_heap (by
      have : k = g := by simpa [Value.ownBlock] using hk.symm
      subst this
      exact hgE))
  have hP : Pend E (Lift.as (shut E arr ty w0) T) := shut_pend hE
  have hfit := (steps_fit closed (Y := [spF A cap ps (kof x) g, laF u2 u3 u14 u15 u16 u17 u18 u19 u20 u21 u22 u23 u24 u25 u26 u27 u28 A cap ps x]) (Y' := []) hF hY hP (.inr hmd) ⟨_, by rw [hfn]; exact Try.func4⟩ hs).1
  have hsz0 : (Lift.as (shut E arr ty w0) T).heap.size = w0.heap.size := Array.size_setIfInBounds ..
  have hQ : OnW g E w0 w' := ⟨hon.os, hon.output, by have := hon.size; rw [hsz0] at this; exact this, fun k hk h1 h2 => (hon.block k (by rw [hsz0]; exact hk) (by simpa using h1)).trans (shut_heap h2)⟩
  exact ⟨fr, [], w', hs, ⟨hfit, rfl, hmd, by rw [hfn]; kernel_rfl, _, 4, by rw [hfn]; exact Try.func4, rfl, hv⟩, hQ⟩
end Go.Proofs.Ytjehmdhcccmihaa.Pool
