/-
  No cell of these rows narrows 'for every input' (looked for: loops, veiled, ifaces, maps, wideKeys, modest, calm, conditions, laid).
  DERIVED. THE GIVEN ROWS OF THIS SEAT. 6 by the template 'for every input the law returns true; each argument reads behind the call as it read before'; 0 by the template 'total and deterministic' (their statements: YtlgdalgbonlelaaTotals.lean).
  GIVEN WITH THE SEED: the statements are not yours to turn. If you find one false, say at which input.
  Laid BY PROGRAM, IN A SANDBOX (cutbox-rows.mjs): the forced cells as the released guide's own fill.sh prints them over the translation fe0ac7673491f022… (all of the seat's roots in one cut). By AI agents, Wed Nov 11 2026. No macro, syntax, notation, axiom, sorry.
-/
import Derived.Test.YtlgdalgbonlelaaChecked
import GoSem.Claim
import GoSem.ClaimJoined
import GoSem.ClaimMapViews
import Derived.JoinedTies
import Derived.KernelRfl
namespace Go.Proofs.Ytlgdalgbonlelaa
/- THE CELL 'sum', in the pinned program and in every row, IS THE sha256 OF THE DUMP (.gsa) THAT YtlgdalgbonlelaaProg.lean LOADS. Nothing in Lean hashes anything: it is a label: what it is worth is what the hold of that sum in a sandbox is worth. -/
noncomputable def Try.pinned : Pinned := { name := "ytlgdalgbonlelaa", sum := "fe0ac7673491f022f4c5dfbddd5c5fb05d7976598ffee46b107110aabec460cd", checked := Try.checked }
namespace Rows
def none {H : Type} : Left H := { results := [], args := [] }

/-- 'tapsterlaw02.DigitsPrints': WHATEVER THE INPUT: true; the input reads as it did. -/
def digitsPrintsSpec : ChangeSpec := { name := "digitsPrints", fn := fun _ => fun
  | [d] => { results := [.lit (.bool true)], args := [d] }
  | _ => none }
def digitsPrintsRow : OpenClaim := { program := "ytlgdalgbonlelaa", sum := "fe0ac7673491f022f4c5dfbddd5c5fb05d7976598ffee46b107110aabec460cd", func := "tapster/tapsterlaw02.DigitsPrints", spec := "digitsPrints", recurses := true, apart := false }
def DigitsPrintsSaid : Prop := digitsPrintsRow.holds Try.pinned (OpenSpec.ofChange digitsPrintsSpec)

/-- ITS FALSE NEIGHBOUR: 'it returns false'. Refute it at one input. -/
def digitsPrintsWrong : ChangeSpec := { name := "digitsPrints", fn := fun _ => fun
  | [d] => { results := [.lit (.bool false)], args := [d] }
  | _ => none }
def DigitsPrintsWrongFalsely : Prop := digitsPrintsRow.holds Try.pinned (OpenSpec.ofChange digitsPrintsWrong)

/-- 'tapsterlaw02.DigitsParses': WHATEVER THE INPUT: true; the input reads as it did. -/
def digitsParsesSpec : ChangeSpec := { name := "digitsParses", fn := fun _ => fun
  | [d1, d2, d3] => { results := [.lit (.bool true)], args := [d1, d2, d3] }
  | _ => none }
def digitsParsesRow : OpenClaim := { program := "ytlgdalgbonlelaa", sum := "fe0ac7673491f022f4c5dfbddd5c5fb05d7976598ffee46b107110aabec460cd", func := "tapster/tapsterlaw02.DigitsParses", spec := "digitsParses", recurses := true, apart := false }
def DigitsParsesSaid : Prop := digitsParsesRow.holds Try.pinned (OpenSpec.ofChange digitsParsesSpec)

/-- ITS FALSE NEIGHBOUR: 'it returns false'. Refute it at one input. -/
def digitsParsesWrong : ChangeSpec := { name := "digitsParses", fn := fun _ => fun
  | [d1, d2, d3] => { results := [.lit (.bool false)], args := [d1, d2, d3] }
  | _ => none }
def DigitsParsesWrongFalsely : Prop := digitsParsesRow.holds Try.pinned (OpenSpec.ofChange digitsParsesWrong)

/-- 'tapsterlaw02.DigitsBack': WHATEVER THE INPUT: true; the input reads as it did. -/
def digitsBackSpec : ChangeSpec := { name := "digitsBack", fn := fun _ => fun
  | [d1, d2, d3, d4] => { results := [.lit (.bool true)], args := [d1, d2, d3, d4] }
  | _ => none }
def digitsBackRow : OpenClaim := { program := "ytlgdalgbonlelaa", sum := "fe0ac7673491f022f4c5dfbddd5c5fb05d7976598ffee46b107110aabec460cd", func := "tapster/tapsterlaw02.DigitsBack", spec := "digitsBack", apart := false }
def DigitsBackSaid : Prop := digitsBackRow.holds Try.pinned (OpenSpec.ofChange digitsBackSpec)

/-- ITS FALSE NEIGHBOUR: 'it returns false'. Refute it at one input. -/
def digitsBackWrong : ChangeSpec := { name := "digitsBack", fn := fun _ => fun
  | [d1, d2, d3, d4] => { results := [.lit (.bool false)], args := [d1, d2, d3, d4] }
  | _ => none }
def DigitsBackWrongFalsely : Prop := digitsBackRow.holds Try.pinned (OpenSpec.ofChange digitsBackWrong)

/-- 'tapsterlaw02.DigitsOne': WHATEVER THE INPUT: true; the input reads as it did. -/
def digitsOneSpec : ChangeSpec := { name := "digitsOne", fn := fun _ => fun
  | [d1, d2] => { results := [.lit (.bool true)], args := [d1, d2] }
  | _ => none }
def digitsOneRow : OpenClaim := { program := "ytlgdalgbonlelaa", sum := "fe0ac7673491f022f4c5dfbddd5c5fb05d7976598ffee46b107110aabec460cd", func := "tapster/tapsterlaw02.DigitsOne", spec := "digitsOne", apart := false }
def DigitsOneSaid : Prop := digitsOneRow.holds Try.pinned (OpenSpec.ofChange digitsOneSpec)

/-- ITS FALSE NEIGHBOUR: 'it returns false'. Refute it at one input. -/
def digitsOneWrong : ChangeSpec := { name := "digitsOne", fn := fun _ => fun
  | [d1, d2] => { results := [.lit (.bool false)], args := [d1, d2] }
  | _ => none }
def DigitsOneWrongFalsely : Prop := digitsOneRow.holds Try.pinned (OpenSpec.ofChange digitsOneWrong)

/-- 'tapsterlaw02.DigitsCounts': WHATEVER THE INPUT: true; the input reads as it did. -/
def digitsCountsSpec : ChangeSpec := { name := "digitsCounts", fn := fun _ => fun
  | [d1, d2] => { results := [.lit (.bool true)], args := [d1, d2] }
  | _ => none }
def digitsCountsRow : OpenClaim := { program := "ytlgdalgbonlelaa", sum := "fe0ac7673491f022f4c5dfbddd5c5fb05d7976598ffee46b107110aabec460cd", func := "tapster/tapsterlaw02.DigitsCounts", spec := "digitsCounts", apart := false }
def DigitsCountsSaid : Prop := digitsCountsRow.holds Try.pinned (OpenSpec.ofChange digitsCountsSpec)

/-- ITS FALSE NEIGHBOUR: 'it returns false'. Refute it at one input. -/
def digitsCountsWrong : ChangeSpec := { name := "digitsCounts", fn := fun _ => fun
  | [d1, d2] => { results := [.lit (.bool false)], args := [d1, d2] }
  | _ => none }
def DigitsCountsWrongFalsely : Prop := digitsCountsRow.holds Try.pinned (OpenSpec.ofChange digitsCountsWrong)

/-- 'tapsterlaw02.DigitsBounds': WHATEVER THE INPUT: true; the input reads as it did. -/
def digitsBoundsSpec : ChangeSpec := { name := "digitsBounds", fn := fun _ => fun
  | [d1, d2, d3, d4, d5] => { results := [.lit (.bool true)], args := [d1, d2, d3, d4, d5] }
  | _ => none }
def digitsBoundsRow : OpenClaim := { program := "ytlgdalgbonlelaa", sum := "fe0ac7673491f022f4c5dfbddd5c5fb05d7976598ffee46b107110aabec460cd", func := "tapster/tapsterlaw02.DigitsBounds", spec := "digitsBounds", recurses := true, apart := false }
def DigitsBoundsSaid : Prop := digitsBoundsRow.holds Try.pinned (OpenSpec.ofChange digitsBoundsSpec)

/-- ITS FALSE NEIGHBOUR: 'it returns false'. Refute it at one input. -/
def digitsBoundsWrong : ChangeSpec := { name := "digitsBounds", fn := fun _ => fun
  | [d1, d2, d3, d4, d5] => { results := [.lit (.bool false)], args := [d1, d2, d3, d4, d5] }
  | _ => none }
def DigitsBoundsWrongFalsely : Prop := digitsBoundsRow.holds Try.pinned (OpenSpec.ofChange digitsBoundsWrong)

/- THE SECOND FORM. 'bulk': how many values and letters a reading holds, each counted each time it is reached (what is shared counts as often as it is met; a slice's spare places count too). A statement '..UptoSaid' is the law's where the arguments, and the package variables that the reading takes, are together of bulk at most 1048576: NARROWER than '..Said'. Prove '..Said' where nothing that the law and all that it calls make is longer than what came in: it says more and counts as full. Else prove '..UptoSaid'. A law counts once. -/
mutual
def uptoBulk {H : Type} : DataW H → Nat
  | .lit (.string bytes) => bytes.length + 1
  | .lit _ => 1
  | .nil => 1
  | .ptr d => uptoBulk d + 1
  | .slice elems spare => uptoBulkAll elems + uptoBulkAll spare + 1
  | .agg parts => uptoBulkAll parts + 1
  | .iface _ d => uptoBulk d + 1
  | .map entries => uptoBulkEntries entries + 1
  | .held _ => 1
def uptoBulkAll {H : Type} : List (DataW H) → Nat
  | [] => 0
  | d :: r => uptoBulk d + uptoBulkAll r
def uptoBulkEntries {H : Type} : List (Lit × DataW H) → Nat
  | [] => 0
  | x :: r => uptoBulkEntry x + uptoBulkEntries r
def uptoBulkEntry {H : Type} : Lit × DataW H → Nat
  | (.string bytes, d) => bytes.length + uptoBulk d + 1
  | (_, d) => uptoBulk d + 1
 end
def uptoSmall : (H : Type) → List (DataW H) → Bool := fun _ ds => decide (uptoBulkAll ds ≤ 1048576)
def OpenSpec.upto (s : _root_.Go.ChangeSpec) : _root_.Go.OpenSpec := { _root_.Go.OpenSpec.ofChange s with cond := some uptoSmall }

/-- 'tapsterlaw02.DigitsPrints', WHERE WHAT IT READS IS OF BULK AT MOST 1048576: true; the input reads as it did. -/
def digitsPrintsUptoRow : OpenClaim := { program := "ytlgdalgbonlelaa", sum := "fe0ac7673491f022f4c5dfbddd5c5fb05d7976598ffee46b107110aabec460cd", func := "tapster/tapsterlaw02.DigitsPrints", spec := "digitsPrints", recurses := true, apart := false, narrowed := true }
def DigitsPrintsUptoSaid : Prop := digitsPrintsUptoRow.holds Try.pinned (OpenSpec.upto digitsPrintsSpec)

/-- 'tapsterlaw02.DigitsParses', WHERE WHAT IT READS IS OF BULK AT MOST 1048576: true; the input reads as it did. -/
def digitsParsesUptoRow : OpenClaim := { program := "ytlgdalgbonlelaa", sum := "fe0ac7673491f022f4c5dfbddd5c5fb05d7976598ffee46b107110aabec460cd", func := "tapster/tapsterlaw02.DigitsParses", spec := "digitsParses", recurses := true, apart := false, narrowed := true }
def DigitsParsesUptoSaid : Prop := digitsParsesUptoRow.holds Try.pinned (OpenSpec.upto digitsParsesSpec)

/-- 'tapsterlaw02.DigitsBack', WHERE WHAT IT READS IS OF BULK AT MOST 1048576: true; the input reads as it did. -/
def digitsBackUptoRow : OpenClaim := { program := "ytlgdalgbonlelaa", sum := "fe0ac7673491f022f4c5dfbddd5c5fb05d7976598ffee46b107110aabec460cd", func := "tapster/tapsterlaw02.DigitsBack", spec := "digitsBack", apart := false, narrowed := true }
def DigitsBackUptoSaid : Prop := digitsBackUptoRow.holds Try.pinned (OpenSpec.upto digitsBackSpec)

/-- 'tapsterlaw02.DigitsOne', WHERE WHAT IT READS IS OF BULK AT MOST 1048576: true; the input reads as it did. -/
def digitsOneUptoRow : OpenClaim := { program := "ytlgdalgbonlelaa", sum := "fe0ac7673491f022f4c5dfbddd5c5fb05d7976598ffee46b107110aabec460cd", func := "tapster/tapsterlaw02.DigitsOne", spec := "digitsOne", apart := false, narrowed := true }
def DigitsOneUptoSaid : Prop := digitsOneUptoRow.holds Try.pinned (OpenSpec.upto digitsOneSpec)

/-- 'tapsterlaw02.DigitsCounts', WHERE WHAT IT READS IS OF BULK AT MOST 1048576: true; the input reads as it did. -/
def digitsCountsUptoRow : OpenClaim := { program := "ytlgdalgbonlelaa", sum := "fe0ac7673491f022f4c5dfbddd5c5fb05d7976598ffee46b107110aabec460cd", func := "tapster/tapsterlaw02.DigitsCounts", spec := "digitsCounts", apart := false, narrowed := true }
def DigitsCountsUptoSaid : Prop := digitsCountsUptoRow.holds Try.pinned (OpenSpec.upto digitsCountsSpec)

/-- 'tapsterlaw02.DigitsBounds', WHERE WHAT IT READS IS OF BULK AT MOST 1048576: true; the input reads as it did. -/
def digitsBoundsUptoRow : OpenClaim := { program := "ytlgdalgbonlelaa", sum := "fe0ac7673491f022f4c5dfbddd5c5fb05d7976598ffee46b107110aabec460cd", func := "tapster/tapsterlaw02.DigitsBounds", spec := "digitsBounds", recurses := true, apart := false, narrowed := true }
def DigitsBoundsUptoSaid : Prop := digitsBoundsUptoRow.holds Try.pinned (OpenSpec.upto digitsBoundsSpec)

end Rows
end Go.Proofs.Ytlgdalgbonlelaa
