/-
  A region that draws its order, reads, and calls what makes memory but writes none that was there: ONE walk of the text's order serves every order (the library's wp_region_quiet at the class of all worlds in which the memory of W is as it was).
-/
import Derived.Test.YtjehmdhcccmihaaKOwn
import Derived.BigQuiet
namespace Go.Proofs.Ytjehmdhcccmihaa
open Go.RowKit
namespace Gw

/-- a world in which W's memory is as it was -/
def Grow (W : World) : Type := { w : World // Below W.heap.size W w }
instance grow_some (W : World) : Nonempty (Grow W) := ⟨⟨W, Below.refl _ _⟩⟩
def Grow.w {W : World} (g : Grow W) : World := g.1
theorem Grow.below {W : World} (g : Grow W) : Below W.heap.size W g.w := g.2
theorem Grow.keep {W : World} (g : Grow W) {a : Addr} {v : Value} (h : W.cell? a = some v) : g.w.cell? a = some v := by
  rw [g.below.cell (World.block_lt_of_cell? W _ h)]; exact h

theorem wp_region_grow {P : Program} {id : Nat} {Q : Exit → Act → World → Prop} {a : Act} {W : World} {l : List Oper} (hm : P.follows .mixedOrders = true) (hB : Region.lexB .any l.toArray = true)
    (h : wpQuiet P l.toArray (fun w' => ∃ g : Grow W, w' = g.w) (fun a' => ∀ w', (∃ g : Grow W, w' = g.w) → Q .normal a' w') l a) : (Code.region id l.toArray true).wp P Q a W :=
  wp_region_quiet (C := fun w' => ∃ g : Grow W, w' = g.w) hm hB ⟨⟨W.drew, (Below.refl _ _).drew⟩, rfl⟩ (by simpa using h)
theorem grow_call {P : Program} {f : FuncId} {args : Array Value} {W : World} {g : Grow W} {v : Value} (h : Calls P f args g.w fun e w' => e = .returned v ∧ Below g.w.heap.size g.w w') :
    Calls P f args g.w fun e w'' => e = .returned v ∧ ∃ m : Grow W, w'' = m.w :=
  h.mono fun _ w' ⟨he, hb⟩ => ⟨he, ⟨w', g.below.trans (hb.mono g.below.size)⟩, rfl⟩
theorem grow_same {P : Program} {f : FuncId} {args : Array Value} {W : World} {g : Grow W} {v : Value} (h : Calls P f args g.w fun e w' => e = .returned v ∧ g.w = w') :
    Calls P f args g.w fun e w'' => e = .returned v ∧ ∃ m : Grow W, w'' = m.w :=
  h.mono fun _ _ ⟨he, hb⟩ => ⟨he, g, hb.symm⟩

end Gw
end Go.Proofs.Ytjehmdhcccmihaa
