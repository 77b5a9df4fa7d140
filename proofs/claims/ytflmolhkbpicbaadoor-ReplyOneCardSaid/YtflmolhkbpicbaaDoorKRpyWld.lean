/-
  What the listed variables hold, as the walks ask for it; a world in which they hold it.
-/
import Derived.Test.YtflmolhkbpicbaaDoorKRpyTb
import Derived.Test.YtflmolhkbpicbaaDoorKRpyShf
import Derived.Test.YtflmolhkbpicbaaDoorCards
import Derived.Test.YtflmolhkbpicbaaDoorTie
import Derived.PinnedBridge
import Derived.Lay
import Derived.Deep.DeepHandedRow
import Derived.Lib.LaidU8
namespace Go.Proofs.YtflmolhkbpicbaaDoor.Ry
open Go.RowKit Go.Lib

abbrev LD : List (String × DataW Unit) := [("unicode/utf8.acceptRanges", Rows.laid_unicode_utf8_acceptRanges), ("unicode/utf8.first", Rows.laid_unicode_utf8_first)]
set_option maxRecDepth 100000 in
theorem acc_eq : (Rows.laid_unicode_utf8_acceptRanges : DataW Unit) = acceptData := by kernel_rfl
set_option maxRecDepth 100000 in
theorem u8x : U8Extra Tryd.prog Tryd.lays260_ren := ⟨by kernel_rfl, by kernel_rfl, by kernel_rfl, by kernel_rfl, by kernel_rfl, by kernel_rfl, by kernel_rfl⟩
set_option maxRecDepth 100000 in
theorem tb_of {W : World} (hL : laidMetH Tryd.prog LD W) (hsh : W.ShapedOpen Tryd.prog) : Tb W := by
  rw [MakeChecks.laidMetH_plain _ _ _ (by kernel_rfl)] at hL
  have h1 := laidMet.reads hL (.head _)
  have h2 := laidMet.reads hL (.tail _ (.head _))
  rw [acc_eq] at h1
  have h3 : VarReads Tryd.prog W "unicode/utf8.first" firstData := Pinned.utf8First_eq ▸ h2
  exact ⟨utf8Tabs_of_reads Tryd.lays260 u8x h3 h1, Tryd.laysM145.s1_3 W hsh⟩
set_option maxRecDepth 100000 in
theorem met (os : Os) (args : Array Value) : laidMetH Tryd.prog LD ((World.laidAll Tryd.prog os LD).forCall (fun _ _ => 0) ⟨#[], args, []⟩).memory := by
  rw [MakeChecks.laidMetH_plain _ _ _ (by kernel_rfl)]
  exact laidMet_laidAll _ (by kernel_rfl) (by kernel_rfl)
set_option maxRecDepth 100000 in
theorem shp (os : Os) (args : Array Value) : ((World.laidAll Tryd.prog os LD).forCall (fun _ _ => 0) ⟨#[], args, []⟩).Shaped Tryd.prog :=
  World.shaped_of_ZipB (by kernel_rfl) (by kernel_rfl)
end Go.Proofs.YtflmolhkbpicbaaDoor.Ry
