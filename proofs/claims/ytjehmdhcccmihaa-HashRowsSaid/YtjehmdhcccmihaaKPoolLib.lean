/-
  Under which numbers this program holds what sync.WaitGroup is made of.
-/
import Derived.Test.YtjehmdhcccmihaaProg
import Derived.Conc.WgGenN2
namespace Go.Proofs.Ytjehmdhcccmihaa
open Go.Conc Go.Conc.Lib
namespace Pool

@[reducible] def link : WgLink := { add := 23, done := 25, wait := 27, relMerge := 30, disable := 31, enable := 32, inBubble := 33, associate := 34, fatal := 35, uOr := 36, uAdd := 37, raceRead := 38, uLoad := 39, uStore := 40, disassociate := 41, semrelease := 42, acquire := 43, isAssociated := 44, uCas := 45, raceWrite := 46, semacquire := 47, orU64 := 49, addU64 := 50, loadU64 := 51, storeU64 := 52, casU64 := 53, tWgP := 63, tUP := 65, tAssoc := 66, tWg := 59, tAU := 56, tU64 := 33, tUint := 70, tU32 := 57, tPU32 := 71, tPAU := 82, tPU64 := 84, tNoCopy := 52, tANoCopy := 53, tAlign64 := 54 }

theorem wgLib : WgLib Try.prog link :=
  ⟨Try.func23, Try.func25, Try.func27, Try.func30, Try.func31, Try.func32, Try.func33, Try.func34, Try.func35, Try.func36, Try.func37, Try.func38, Try.func39, Try.func40, Try.func41, Try.func42, Try.func43, Try.func44, Try.func45, Try.func46, Try.func47, Try.func49, Try.func50, Try.func51, Try.func52, Try.func53,
   Try.underlying63, Try.runUnderlying63, Try.sizeOf63, Try.isAgg63, Try.zeroValue63, Try.underlying65, Try.runUnderlying65, Try.sizeOf65, Try.isAgg65, Try.zeroValue65, Try.underlying66, Try.runUnderlying66, Try.sizeOf66, Try.isAgg66, Try.zeroValue66, Try.underlying59, Try.runUnderlying59, Try.sizeOf59, Try.isAgg59, Try.zeroValue59, Try.underlying56, Try.runUnderlying56, Try.sizeOf56, Try.isAgg56, Try.zeroValue56, Try.underlying33, Try.runUnderlying33, Try.sizeOf33, Try.isAgg33, Try.zeroValue33, Try.underlying70, Try.runUnderlying70, Try.sizeOf70, Try.isAgg70, Try.zeroValue70, Try.underlying57, Try.runUnderlying57, Try.sizeOf57, Try.isAgg57, Try.zeroValue57, Try.underlying71, Try.runUnderlying71, Try.sizeOf71, Try.isAgg71, Try.zeroValue71, Try.underlying82, Try.runUnderlying82, Try.sizeOf82, Try.isAgg82, Try.zeroValue82, Try.underlying84, Try.runUnderlying84, Try.sizeOf84, Try.isAgg84, Try.zeroValue84, Try.underlying0, Try.runUnderlying0, Try.sizeOf0, Try.isAgg0, Try.zeroValue0, Try.underlying3, Try.runUnderlying3, Try.sizeOf3, Try.isAgg3, Try.zeroValue3, Try.underlying4, Try.runUnderlying4, Try.sizeOf4, Try.isAgg4, Try.zeroValue4, Try.underlying9, Try.runUnderlying9, Try.sizeOf9, Try.isAgg9, Try.zeroValue9, Try.underlying20, Try.runUnderlying20, Try.sizeOf20, Try.isAgg20, Try.zeroValue20, Try.underlying21, Try.runUnderlying21, Try.sizeOf21, Try.isAgg21, Try.zeroValue21, (by kernel_rfl), (by kernel_rfl)⟩
end Pool
end Go.Proofs.Ytjehmdhcccmihaa
