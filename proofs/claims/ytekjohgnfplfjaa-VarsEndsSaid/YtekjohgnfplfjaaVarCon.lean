/-
  The program's own calls keep the contracts.
-/
import Derived.Test.YtekjohgnfplfjaaVarK
namespace Go.Proofs.Ytekjohgnfplfjaa.Va
open Go.RowKit

def vc : VC where
  At := At
  keep h k hs := by obtain ⟨b, bl, D, h⟩ := h; exact ⟨b, bl, D, h.keep k hs⟩
  good h := by
    obtain ⟨b, bl, D, h⟩ := h
    exact ⟨h.good, h.old, fun x hx => ⟨(h.fits x hx).1, (h.fits x hx).2.1, by have := (h.fits x hx).2.2; unfold I64; omega⟩⟩
  new_ room w hr := New_calls room hr w
  get_ h key now hk _ := by obtain ⟨b, bl, D, h⟩ := h; exact Get_calls h key now hk
  left_ h key now hk _ := by obtain ⟨b, bl, D, h⟩ := h; exact Left_calls h key now hk
  len_ h now _ := by obtain ⟨b, bl, D, h⟩ := h; exact Len_calls h now
  keys_ h now _ := by obtain ⟨b, bl, D, h⟩ := h; exact Keys_calls h now
  set_ h key n now hk hn _ := by obtain ⟨b, bl, D, h⟩ := h; exact Set_calls h key n now hk hn
  add_ h key n now hk hn _ := by obtain ⟨b, bl, D, h⟩ := h; exact AddV_calls h key n now hk hn
  del_ h key now hk _ := by obtain ⟨b, bl, D, h⟩ := h; exact Delete_calls h key now hk
  exp_ h key last now hk hl hn := by obtain ⟨b, bl, D, h⟩ := h; exact Expire_calls h key last now hk hl hn
  setNil key n now w := setNil_calls key n now w
end Go.Proofs.Ytekjohgnfplfjaa.Va
