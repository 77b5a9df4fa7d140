/-
  No cell of these rows narrows 'for every input' (looked for: loops, veiled, ifaces, maps, wideKeys, modest, calm, conditions, laid).
  DERIVED. THE GIVEN ROWS OF THIS SEAT. 7 by the template 'for every input the law returns true; each argument reads behind the call as it read before'; 0 by the template 'total and deterministic' (their statements: YtgjedhdnnfdcgaaTotals.lean).
  GIVEN WITH THE SEED: the statements are not yours to turn. If you find one false, say at which input.
  Laid BY PROGRAM, IN A SANDBOX (cutbox-rows.mjs): the forced cells as the released guide's own fill.sh prints them over the translation 657ec13f66b7a5fe… (all of the seat's roots in one cut). By AI agents, Wed Nov 11 2026. No macro, syntax, notation, axiom, sorry.
-/
import Derived.Test.YtgjedhdnnfdcgaaChecked
import GoSem.Claim
import GoSem.ClaimJoined
import GoSem.ClaimMapViews
import Derived.JoinedTies
import Derived.KernelRfl
namespace Go.Proofs.Ytgjedhdnnfdcgaa
/- THE CELL 'sum', in the pinned program and in every row, IS THE sha256 OF THE DUMP (.gsa) THAT YtgjedhdnnfdcgaaProg.lean LOADS. Nothing in Lean hashes anything: it is a label: what it is worth is what the hold of that sum in a sandbox is worth. -/
noncomputable def Try.pinned : Pinned := { name := "ytgjedhdnnfdcgaa", sum := "657ec13f66b7a5fe76a9ed58a4730db5d281369072913d813fb4a09a0a63ddf7", checked := Try.checked }
namespace Rows
def none {H : Type} : Left H := { results := [], args := [] }

/-- 'tapsterlaw16.RespFeeds': WHATEVER THE INPUT: true; the input reads as it did. -/
def respFeedsSpec : ChangeSpec := { name := "respFeeds", fn := fun _ => fun
  | [d] => { results := [.lit (.bool true)], args := [d] }
  | _ => none }
def respFeedsRow : OpenClaim := { program := "ytgjedhdnnfdcgaa", sum := "657ec13f66b7a5fe76a9ed58a4730db5d281369072913d813fb4a09a0a63ddf7", func := "tapster/tapsterlaw16.RespFeeds", spec := "respFeeds", unfollowed := true, recurses := true, apart := false }
def RespFeedsSaid : Prop := respFeedsRow.holds Try.pinned (OpenSpec.ofChange respFeedsSpec)

/-- ITS FALSE NEIGHBOUR: 'it returns false'. Refute it at one input. -/
def respFeedsWrong : ChangeSpec := { name := "respFeeds", fn := fun _ => fun
  | [d] => { results := [.lit (.bool false)], args := [d] }
  | _ => none }
def RespFeedsWrongFalsely : Prop := respFeedsRow.holds Try.pinned (OpenSpec.ofChange respFeedsWrong)

/-- 'tapsterlaw16.RespWholes': WHATEVER THE INPUT: true; the input reads as it did. -/
def respWholesSpec : ChangeSpec := { name := "respWholes", fn := fun _ => fun
  | [d1, d2] => { results := [.lit (.bool true)], args := [d1, d2] }
  | _ => none }
def respWholesRow : OpenClaim := { program := "ytgjedhdnnfdcgaa", sum := "657ec13f66b7a5fe76a9ed58a4730db5d281369072913d813fb4a09a0a63ddf7", func := "tapster/tapsterlaw16.RespWholes", spec := "respWholes", unfollowed := true, recurses := true, apart := false }
def RespWholesSaid : Prop := respWholesRow.holds Try.pinned (OpenSpec.ofChange respWholesSpec)

/-- ITS FALSE NEIGHBOUR: 'it returns false'. Refute it at one input. -/
def respWholesWrong : ChangeSpec := { name := "respWholes", fn := fun _ => fun
  | [d1, d2] => { results := [.lit (.bool false)], args := [d1, d2] }
  | _ => none }
def RespWholesWrongFalsely : Prop := respWholesRow.holds Try.pinned (OpenSpec.ofChange respWholesWrong)

/-- 'tapsterlaw16.RespCuts': WHATEVER THE INPUT: true; the input reads as it did. -/
def respCutsSpec : ChangeSpec := { name := "respCuts", fn := fun _ => fun
  | [d1, d2] => { results := [.lit (.bool true)], args := [d1, d2] }
  | _ => none }
def respCutsRow : OpenClaim := { program := "ytgjedhdnnfdcgaa", sum := "657ec13f66b7a5fe76a9ed58a4730db5d281369072913d813fb4a09a0a63ddf7", func := "tapster/tapsterlaw16.RespCuts", spec := "respCuts", unfollowed := true, recurses := true, apart := false }
def RespCutsSaid : Prop := respCutsRow.holds Try.pinned (OpenSpec.ofChange respCutsSpec)

/-- ITS FALSE NEIGHBOUR: 'it returns false'. Refute it at one input. -/
def respCutsWrong : ChangeSpec := { name := "respCuts", fn := fun _ => fun
  | [d1, d2] => { results := [.lit (.bool false)], args := [d1, d2] }
  | _ => none }
def RespCutsWrongFalsely : Prop := respCutsRow.holds Try.pinned (OpenSpec.ofChange respCutsWrong)

/-- 'tapsterlaw16.RespBack': WHATEVER THE INPUT: true; the input reads as it did. -/
def respBackSpec : ChangeSpec := { name := "respBack", fn := fun _ => fun
  | [d1, d2, d3] => { results := [.lit (.bool true)], args := [d1, d2, d3] }
  | _ => none }
def respBackRow : OpenClaim := { program := "ytgjedhdnnfdcgaa", sum := "657ec13f66b7a5fe76a9ed58a4730db5d281369072913d813fb4a09a0a63ddf7", func := "tapster/tapsterlaw16.RespBack", spec := "respBack", unfollowed := true, recurses := true, apart := false }
def RespBackSaid : Prop := respBackRow.holds Try.pinned (OpenSpec.ofChange respBackSpec)

/-- ITS FALSE NEIGHBOUR: 'it returns false'. Refute it at one input. -/
def respBackWrong : ChangeSpec := { name := "respBack", fn := fun _ => fun
  | [d1, d2, d3] => { results := [.lit (.bool false)], args := [d1, d2, d3] }
  | _ => none }
def RespBackWrongFalsely : Prop := respBackRow.holds Try.pinned (OpenSpec.ofChange respBackWrong)

/-- 'tapsterlaw16.RespCanon': WHATEVER THE INPUT: true; the input reads as it did. -/
def respCanonSpec : ChangeSpec := { name := "respCanon", fn := fun _ => fun
  | [d] => { results := [.lit (.bool true)], args := [d] }
  | _ => none }
def respCanonRow : OpenClaim := { program := "ytgjedhdnnfdcgaa", sum := "657ec13f66b7a5fe76a9ed58a4730db5d281369072913d813fb4a09a0a63ddf7", func := "tapster/tapsterlaw16.RespCanon", spec := "respCanon", unfollowed := true, recurses := true, apart := false }
def RespCanonSaid : Prop := respCanonRow.holds Try.pinned (OpenSpec.ofChange respCanonSpec)

/-- ITS FALSE NEIGHBOUR: 'it returns false'. Refute it at one input. -/
def respCanonWrong : ChangeSpec := { name := "respCanon", fn := fun _ => fun
  | [d] => { results := [.lit (.bool false)], args := [d] }
  | _ => none }
def RespCanonWrongFalsely : Prop := respCanonRow.holds Try.pinned (OpenSpec.ofChange respCanonWrong)

/-- 'tapsterlaw16.RespBegins': WHATEVER THE INPUT: true; the input reads as it did. -/
def respBeginsSpec : ChangeSpec := { name := "respBegins", fn := fun _ => fun
  | [d1, d2, d3] => { results := [.lit (.bool true)], args := [d1, d2, d3] }
  | _ => none }
def respBeginsRow : OpenClaim := { program := "ytgjedhdnnfdcgaa", sum := "657ec13f66b7a5fe76a9ed58a4730db5d281369072913d813fb4a09a0a63ddf7", func := "tapster/tapsterlaw16.RespBegins", spec := "respBegins", unfollowed := true, recurses := true, apart := false }
def RespBeginsSaid : Prop := respBeginsRow.holds Try.pinned (OpenSpec.ofChange respBeginsSpec)

/-- ITS FALSE NEIGHBOUR: 'it returns false'. Refute it at one input. -/
def respBeginsWrong : ChangeSpec := { name := "respBegins", fn := fun _ => fun
  | [d1, d2, d3] => { results := [.lit (.bool false)], args := [d1, d2, d3] }
  | _ => none }
def RespBeginsWrongFalsely : Prop := respBeginsRow.holds Try.pinned (OpenSpec.ofChange respBeginsWrong)

/-- 'tapsterlaw16.RespTwo': WHATEVER THE INPUT: true; the input reads as it did. -/
def respTwoSpec : ChangeSpec := { name := "respTwo", fn := fun _ => fun
  | [d1, d2] => { results := [.lit (.bool true)], args := [d1, d2] }
  | _ => none }
def respTwoRow : OpenClaim := { program := "ytgjedhdnnfdcgaa", sum := "657ec13f66b7a5fe76a9ed58a4730db5d281369072913d813fb4a09a0a63ddf7", func := "tapster/tapsterlaw16.RespTwo", spec := "respTwo", unfollowed := true, recurses := true, apart := false }
def RespTwoSaid : Prop := respTwoRow.holds Try.pinned (OpenSpec.ofChange respTwoSpec)

/-- ITS FALSE NEIGHBOUR: 'it returns false'. Refute it at one input. -/
def respTwoWrong : ChangeSpec := { name := "respTwo", fn := fun _ => fun
  | [d1, d2] => { results := [.lit (.bool false)], args := [d1, d2] }
  | _ => none }
def RespTwoWrongFalsely : Prop := respTwoRow.holds Try.pinned (OpenSpec.ofChange respTwoWrong)

/- THE SECOND FORM. 'bulk': how many values and letters a reading holds, each counted each time it is reached (what is shared counts as often as it is met; a slice's spare places count too). A statement '..UptoSaid' is the law's where the arguments, and the package variables that the reading takes, are together of bulk at most 1048576: NARROWER than '..Said'. Prove '..Said' where nothing that the law and all that it calls make is longer than what came in: it says more and counts as full. Else prove '..UptoSaid'. A law counts once. -/
mutual
def uptoBulk {H : Type} : DataW H → Nat
  | .lit (.string bytes) => bytes.length + 1
  | .lit _ => 1
  | .nil => 1
  | .ptr d => uptoBulk d + 1
  | .slice elems spare => uptoBulkAll elems + uptoBulkAll spare + 1
  | .agg parts => uptoBulkAll parts + 1
  | .iface _ d => uptoBulk d + 1
  | .map entries => uptoBulkEntries entries + 1
  | .held _ => 1
def uptoBulkAll {H : Type} : List (DataW H) → Nat
  | [] => 0
  | d :: r => uptoBulk d + uptoBulkAll r
def uptoBulkEntries {H : Type} : List (Lit × DataW H) → Nat
  | [] => 0
  | x :: r => uptoBulkEntry x + uptoBulkEntries r
def uptoBulkEntry {H : Type} : Lit × DataW H → Nat
  | (.string bytes, d) => bytes.length + uptoBulk d + 1
  | (_, d) => uptoBulk d + 1
 end
def uptoSmall : (H : Type) → List (DataW H) → Bool := fun _ ds => decide (uptoBulkAll ds ≤ 1048576)
def OpenSpec.upto (s : _root_.Go.ChangeSpec) : _root_.Go.OpenSpec := { _root_.Go.OpenSpec.ofChange s with cond := some uptoSmall }

/-- 'tapsterlaw16.RespFeeds', WHERE WHAT IT READS IS OF BULK AT MOST 1048576: true; the input reads as it did. -/
def respFeedsUptoRow : OpenClaim := { program := "ytgjedhdnnfdcgaa", sum := "657ec13f66b7a5fe76a9ed58a4730db5d281369072913d813fb4a09a0a63ddf7", func := "tapster/tapsterlaw16.RespFeeds", spec := "respFeeds", unfollowed := true, recurses := true, apart := false, narrowed := true }
def RespFeedsUptoSaid : Prop := respFeedsUptoRow.holds Try.pinned (OpenSpec.upto respFeedsSpec)

/-- 'tapsterlaw16.RespWholes', WHERE WHAT IT READS IS OF BULK AT MOST 1048576: true; the input reads as it did. -/
def respWholesUptoRow : OpenClaim := { program := "ytgjedhdnnfdcgaa", sum := "657ec13f66b7a5fe76a9ed58a4730db5d281369072913d813fb4a09a0a63ddf7", func := "tapster/tapsterlaw16.RespWholes", spec := "respWholes", unfollowed := true, recurses := true, apart := false, narrowed := true }
def RespWholesUptoSaid : Prop := respWholesUptoRow.holds Try.pinned (OpenSpec.upto respWholesSpec)

/-- 'tapsterlaw16.RespCuts', WHERE WHAT IT READS IS OF BULK AT MOST 1048576: true; the input reads as it did. -/
def respCutsUptoRow : OpenClaim := { program := "ytgjedhdnnfdcgaa", sum := "657ec13f66b7a5fe76a9ed58a4730db5d281369072913d813fb4a09a0a63ddf7", func := "tapster/tapsterlaw16.RespCuts", spec := "respCuts", unfollowed := true, recurses := true, apart := false, narrowed := true }
def RespCutsUptoSaid : Prop := respCutsUptoRow.holds Try.pinned (OpenSpec.upto respCutsSpec)

/-- 'tapsterlaw16.RespBack', WHERE WHAT IT READS IS OF BULK AT MOST 1048576: true; the input reads as it did. -/
def respBackUptoRow : OpenClaim := { program := "ytgjedhdnnfdcgaa", sum := "657ec13f66b7a5fe76a9ed58a4730db5d281369072913d813fb4a09a0a63ddf7", func := "tapster/tapsterlaw16.RespBack", spec := "respBack", unfollowed := true, recurses := true, apart := false, narrowed := true }
def RespBackUptoSaid : Prop := respBackUptoRow.holds Try.pinned (OpenSpec.upto respBackSpec)

/-- 'tapsterlaw16.RespCanon', WHERE WHAT IT READS IS OF BULK AT MOST 1048576: true; the input reads as it did. -/
def respCanonUptoRow : OpenClaim := { program := "ytgjedhdnnfdcgaa", sum := "657ec13f66b7a5fe76a9ed58a4730db5d281369072913d813fb4a09a0a63ddf7", func := "tapster/tapsterlaw16.RespCanon", spec := "respCanon", unfollowed := true, recurses := true, apart := false, narrowed := true }
def RespCanonUptoSaid : Prop := respCanonUptoRow.holds Try.pinned (OpenSpec.upto respCanonSpec)

/-- 'tapsterlaw16.RespBegins', WHERE WHAT IT READS IS OF BULK AT MOST 1048576: true; the input reads as it did. -/
def respBeginsUptoRow : OpenClaim := { program := "ytgjedhdnnfdcgaa", sum := "657ec13f66b7a5fe76a9ed58a4730db5d281369072913d813fb4a09a0a63ddf7", func := "tapster/tapsterlaw16.RespBegins", spec := "respBegins", unfollowed := true, recurses := true, apart := false, narrowed := true }
def RespBeginsUptoSaid : Prop := respBeginsUptoRow.holds Try.pinned (OpenSpec.upto respBeginsSpec)

/-- 'tapsterlaw16.RespTwo', WHERE WHAT IT READS IS OF BULK AT MOST 1048576: true; the input reads as it did. -/
def respTwoUptoRow : OpenClaim := { program := "ytgjedhdnnfdcgaa", sum := "657ec13f66b7a5fe76a9ed58a4730db5d281369072913d813fb4a09a0a63ddf7", func := "tapster/tapsterlaw16.RespTwo", spec := "respTwo", unfollowed := true, recurses := true, apart := false, narrowed := true }
def RespTwoUptoSaid : Prop := respTwoUptoRow.holds Try.pinned (OpenSpec.upto respTwoSpec)

end Rows
end Go.Proofs.Ytgjedhdnnfdcgaa
