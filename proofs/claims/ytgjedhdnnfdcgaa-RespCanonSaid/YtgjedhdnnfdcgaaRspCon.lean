/-
  The program's own contracts, in one bundle.
-/
import Derived.Test.YtgjedhdnnfdcgaaRspMay
import Derived.Test.YtgjedhdnnfdcgaaRspRC
namespace Go.Proofs.Ytgjedhdnnfdcgaa.Rp
open Go.RowKit

def rc : RC where
  At := AtR
  keep := fun h k hn => h.keep k hn
  good := fun h => h.good
  new_ := new_calls
  feed_ := fun h A cap b hB hl => Feed_calls h A cap b hB hl
  left_ := fun h hl => Left_calls h hl
  wrong_ := fun h hl => Wrong_calls h hl
  whole_ := fun A cap b w h1 h2 h3 h4 => Whole_calls A cap b w h1 h2 h3 h4
  command_ := fun A cap l w h1 h2 _ h4 => Command_calls A cap l w h1 h2 h4
  may_ := fun A cap l w h1 h2 _ h4 => May_calls A cap l w h1 h2 h4
  feedNil := FeedNil_calls
end Go.Proofs.Ytgjedhdnnfdcgaa.Rp
