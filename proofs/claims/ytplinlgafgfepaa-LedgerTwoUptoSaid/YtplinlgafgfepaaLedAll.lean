/-
  All dues, by rising numbers.
-/
import Derived.Test.YtplinlgafgfepaaLedApp
namespace Go.Proofs.Ytplinlgafgfepaa.Ld
open Go.RowKit Go.Maps Pr Go.Shelf

theorem collect_calls {w wq : World} {L : LL (List Lim)} {T rs : List Nat} {B b0 b1 b2 : Nat} (hE : Each Fence.wide 5 Try.prog 46 #[.pointer (some ⟨b0, 0, none⟩), .pointer (some ⟨b1, 0, none⟩), .pointer (some ⟨b2, 0, none⟩)] (yv L) (Fr B L T) (fun xs => xs.map (·.1) = T) (fun ow => ∀ r ∈ rs, r ∉ ow) wq)
    (hq : Below wq.heap.size wq w) (hrs : ∀ r ∈ rs, r < wq.heap.size) (hB : B ≤ wq.heap.size) (hT : T.length ≤ 1000) (ds : LL (List Lim)) (hd : T = ds.map (·.1)) (hf : ∀ d ∈ ds, fnd L d.1 = d) :
    Calls Try.prog 33 #[.func (.func 46) #[] #[.pointer (some ⟨b0, 0, none⟩), .pointer (some ⟨b1, 0, none⟩), .pointer (some ⟨b2, 0, none⟩)]] w fun e w' =>
      ∃ A cap, e = .returned (.slice A ds.length cap) ∧ (A = none → cap = 0) ∧ Dues (fun k => k < w'.heap.size ∧ B ≤ k) w' A ds ∧ Below w.heap.size w w' := by
  have H := Lib.hid (appendSeq_calls hE hq hrs hB hT ds hd hf)
  clear hE hq hrs hB hT hd hf
  go_enter Try.func33, Try.ntmps33
  go_wp2_with fail
  refine H.out.mono ?_
  rintro e w1 ⟨A, cap, rfl, hn, hdu, hb⟩
  have HH := Lib.hid (And.intro hn (And.intro hdu hb))
  clear hn hdu hb
  go_wp2_with fail
  go_ret
  exact ⟨A, cap, rfl, HH.out⟩

section
variable {w w' : World} {own : List Nat} {v p m last : Nat} {L : LL (List Lim)} {bl : Nat → Nat} {rs : List Nat} {D : Dt}
theorem All_calls (h : In w own v p m last L bl rs D) :
    Calls Try.prog 21 #[.pointer (some ⟨v, 0, none⟩)] w fun e w' => ∃ A cap, e = .returned (.slice A L.length cap) ∧ Dues (Out [] own w w') w' A L ∧ Below w.heap.size w w' := by
  have c1 := h.vc
  have hE := all_each h 5 (by omega)
  obtain ⟨hb, -, -, -⟩ := seq_world w p 9007199254740992 44
  have hz := hb.size
  have HC := Lib.hid (collect_calls hE (Below.refl _ _) (fun r hr => by have := h.old r (h.mr hr); omega) (Nat.le_refl _) (by rw [List.length_map]; exact h.good.few) L rfl (fun d hd => fnd_is h.good hd))
  have HB := Lib.hid hb
  have HO := Lib.hid h.old
  clear h hE hb hz
  go_enter Try.func21, Try.ntmps21
  go_wp2_with fail
  refine (made_calls v p _ c1).mono ?_
  rintro e w1 ⟨rfl, rfl⟩
  go_wp2_with fail
  refine (all_calls p _).mono ?_
  rintro e w2 ⟨rfl, rfl⟩
  go_wp2_with fail
  refine HC.out.mono ?_
  rintro e w3 ⟨A, cap, rfl, -, hdu, hb3⟩
  have HH := Lib.hid (And.intro hdu hb3)
  clear hdu hb3
  go_wp2_with fail
  go_ret
  exact ⟨A, cap, rfl, HH.out.1.mono fun k hk => out_new HO.out (by have := HB.out.size; omega) hk.1, HB.out.trans (HH.out.2.mono HB.out.size)⟩
end
end Go.Proofs.Ytplinlgafgfepaa.Ld
