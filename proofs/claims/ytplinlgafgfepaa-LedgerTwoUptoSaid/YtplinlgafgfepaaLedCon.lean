/-
  A copy; the program's own calls keep the contracts.
-/
import Derived.Test.YtplinlgafgfepaaLedAdd
namespace Go.Proofs.Ytplinlgafgfepaa.Ld
open Go.RowKit Go.Maps Pr Go.Shelf

section
variable {w w' : World} {own : List Nat} {v p m last : Nat} {L : LL (List Lim)} {bl : Nat → Nat} {rs : List Nat} {D : Dt}
theorem clone_calls {n : Nat} (hm : w.ownsMap Try.prog 3 elem m n D) : Calls Try.prog 37 #[.map (some m)] w fun e w' => e = .returned (.map (some w.heap.size)) ∧ w'.ownsMap Try.prog 3 elem w.heap.size n D ∧ Below w.heap.size w w' :=
  (AnyW.maps_Clone_owns cloneLays 3 elem m n D w hm).mono fun _ _ ⟨h1, h2, _, h4⟩ => ⟨h1, h2, h4⟩

set_option maxRecDepth 100000 in
set_option maxHeartbeats 4000000 in
theorem Copy_calls (h : In w own v p m last L bl rs D) :
    Calls Try.prog 24 #[.pointer (some ⟨v, 0, none⟩)] w fun e w' => ∃ v' own', e = .returned (.pointer (some ⟨v', 0, none⟩)) ∧ At w' own' v' last L ∧ (∀ x ∈ own', (x ∈ own ∧ Ro w x) ∨ w.heap.size ≤ x) ∧ Below w.heap.size w w' := by
  have c1 := h.vc
  have c2 := h.mc
  have c3 := h.lc
  have HC := Lib.hid (clone_calls (w := w.drew) h.map)
  have H := Lib.hid h
  clear h
  go_enter Try.func24, Try.ntmps24
  go_wp2_with fail
  refine (made_calls v p _ c1).mono ?_
  rintro e w1 ⟨rfl, rfl⟩
  go_wp2_with fail
  go_region_held3 (fun w' => w'.cell? ⟨v, 0, none⟩ = some (.pointer (some ⟨p, 0, none⟩)) ∧ w'.cell? ⟨p, 1, none⟩ = some (.map (some m)) ∧ w'.cell? ⟨p, 0, none⟩ = some (.int .i64 (last : Nat))) (go_keep) (first | (go_at_call 37; refine HC.out.mono ?_; rintro e w2 ⟨rfl, hm2, hb2⟩; have hb2' := (Below.refl w1.heap.size w1).drew.trans hb2; have x0 := (hb2'.cell (p := ⟨v, 0, none⟩) H.out.boxV.lt).trans c1; have x1 := (hb2'.cell (p := ⟨p, 1, none⟩) H.out.boxP.lt).trans c2; have x2 := (hb2'.cell (p := ⟨p, 0, none⟩) H.out.boxP.lt).trans c3; have HM2 := Lib.hid hm2; have HB2 := Lib.hid hb2'; clear hm2 hb2 hb2'))
  go_wp2_with fail
  go_ret
  obtain ⟨hb3, hp3⟩ := two_boxes w2 (.cells #[.int .i64 (last : Nat), .map (some w1.heap.size)] 68) 70 #[.pointer (some ⟨w2.heap.size, 0, none⟩)]
  have hq3 := (Box.new w2 68 #[.int .i64 (last : Nat), .map (some w1.heap.size)]).alloc (.cells #[.pointer (some ⟨w2.heap.size, 0, none⟩)] 70)
  have hb23 := HB2.out.trans (hb3.mono HB2.out.size)
  have hm3 : ((w2.alloc (.cells #[.int .i64 (last : Nat), .map (some w1.heap.size)] 68)).alloc (.cells #[.pointer (some ⟨w2.heap.size, 0, none⟩)] 70)).ownsMap Try.prog 3 elem w1.heap.size L.length D := ownsMap_eq HM2.out (hb3.block _ HM2.out.lt)
  have hz := HB2.out.size
  refine ⟨w2.heap.size + 1, (w2.heap.size + 1) :: w2.heap.size :: w1.heap.size :: rs, rfl, ⟨w2.heap.size, w1.heap.size, bl, rs, D, ⟨H.out.good, H.out.top, H.out.fits, rfl, hp3, hq3, hm3, H.out.reads, fun x hx h0 => ?_, fun r hr => (H.out.ro r hr).below hb23⟩⟩, fun x hx => ?_, hb23⟩
  · obtain ⟨h1, h2⟩ := H.out.lims x hx h0
    exact ⟨h1, h2.below hb23⟩
  · simp only [List.mem_cons] at hx
    rcases hx with rfl | rfl | rfl | hx
    · exact .inr (by omega)
    · exact .inr hz
    · exact .inr (Nat.le_refl _)
    · exact .inl ⟨H.out.mr hx, H.out.ro x hx⟩
end

/-- the program's own calls keep the contracts -/
def vc : LC where
  At := At
  keep h k hs := by
    obtain ⟨p, m, bl, rs, D, h⟩ := h
    exact ⟨p, m, bl, rs, D, h.keep k hs⟩
  good h := by
    obtain ⟨p, m, bl, rs, D, h⟩ := h
    exact ⟨h.good, h.old, h.fits⟩
  new_ w := New_calls w
  add_ h till A cap ls hlast _ hA _ hls := by
    obtain ⟨p, m, bl, rs, D, h⟩ := h
    exact Add_calls h till A cap ls hlast hA hls
  get_ h id hid := by
    obtain ⟨p, m, bl, rs, D, h⟩ := h
    exact Get_calls h id hid
  rem_ h id hid := by
    obtain ⟨p, m, bl, rs, D, h⟩ := h
    exact Remove_calls h id hid
  next_ h := by
    obtain ⟨p, m, bl, rs, D, h⟩ := h
    exact Next_calls h
  due_ h now _ := by
    obtain ⟨p, m, bl, rs, D, h⟩ := h
    exact Due_calls h now
  len_ h := by
    obtain ⟨p, m, bl, rs, D, h⟩ := h
    exact Len_calls h
  all_ h := by
    obtain ⟨p, m, bl, rs, D, h⟩ := h
    exact All_calls h
  copy_ h := by
    obtain ⟨p, m, bl, rs, D, h⟩ := h
    exact Copy_calls h
  lenNil w := lenNil_calls w
end Go.Proofs.Ytplinlgafgfepaa.Ld
