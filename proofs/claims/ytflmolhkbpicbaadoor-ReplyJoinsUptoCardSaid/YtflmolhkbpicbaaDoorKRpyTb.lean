/-
  What the program's variables hold.
-/
import Derived.Test.YtflmolhkbpicbaaDoorRows
import Derived.Shelf.Unicode.DecodeSlow
import Derived.Below
namespace Go.Proofs.YtflmolhkbpicbaaDoor.Ry
open Go.RowKit

/-- the tables of unicode/utf8, and some number in internal/bytealg.MaxLen -/
structure Tb (w : World) : Prop where
  tabs : Lib.Utf8Tabs 0 1 w
  max : ∃ m, w.cell? ⟨2, 0, none⟩ = some (.int .i64 m)
set_option maxRecDepth 100000 in
theorem Tb.keep {w w' : World} (h : Tb w) (hb : Below w.heap.size w w') : Tb w' := by
  obtain ⟨m, hm⟩ := h.max
  refine ⟨Utf8Tabs_below h.tabs hb, m, ?_⟩
  rw [← hm]
  refine hb.cell ?_
  rcases Nat.lt_or_ge 2 w.heap.size with h' | h'
  · exact h'
  · simp [World.cell?, Array.getElem?_eq_none h'] at hm
set_option maxRecDepth 100000 in
theorem Tb.upto {w w' : World} {B : Nat} (h : Tb w) (hb : Below B w w') (hB : w.heap.size ≤ B) : Tb w' := h.keep (hb.mono hB)
end Go.Proofs.YtflmolhkbpicbaaDoor.Ry
