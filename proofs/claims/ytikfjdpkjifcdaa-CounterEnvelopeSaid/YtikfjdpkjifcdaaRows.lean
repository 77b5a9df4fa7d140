/-
  No cell of these rows narrows 'for every input' (looked for: loops, veiled, ifaces, maps, wideKeys, modest, calm, conditions, laid).
  DERIVED. THE GIVEN ROWS OF THIS SEAT. 7 by the template 'for every input the law returns true; each argument reads behind the call as it read before'; 0 by the template 'total and deterministic' (their statements: YtikfjdpkjifcdaaTotals.lean).
  GIVEN WITH THE SEED: the statements are not yours to turn. If you find one false, say at which input.
  Laid BY PROGRAM, IN A SANDBOX (cutbox-rows.mjs): the forced cells as the released guide's own fill.sh prints them over the translation 40c502028452f850… (all of the seat's roots in one cut). By AI agents, Wed Nov 11 2026. No macro, syntax, notation, axiom, sorry.
-/
import Derived.Test.YtikfjdpkjifcdaaChecked
import GoSem.Claim
import GoSem.ClaimJoined
import GoSem.ClaimMapViews
import Derived.JoinedTies
import Derived.KernelRfl
namespace Go.Proofs.Ytikfjdpkjifcdaa
/- THE CELL 'sum', in the pinned program and in every row, IS THE sha256 OF THE DUMP (.gsa) THAT YtikfjdpkjifcdaaProg.lean LOADS. Nothing in Lean hashes anything: it is a label: what it is worth is what the hold of that sum in a sandbox is worth. -/
noncomputable def Try.pinned : Pinned := { name := "ytikfjdpkjifcdaa", sum := "40c502028452f8505e25935fa23946d0728b78471daa30fd83e0cfb268530e33", checked := Try.checked }
namespace Rows
def none {H : Type} : Left H := { results := [], args := [] }

/-- 'tapsterlaw07.CounterSteps': WHATEVER THE INPUT: true; the input reads as it did. -/
def counterStepsSpec : ChangeSpec := { name := "counterSteps", fn := fun _ => fun
  | [d1, d2, d3, d4, d5] => { results := [.lit (.bool true)], args := [d1, d2, d3, d4, d5] }
  | _ => none }
def counterStepsRow : OpenClaim := { program := "ytikfjdpkjifcdaa", sum := "40c502028452f8505e25935fa23946d0728b78471daa30fd83e0cfb268530e33", func := "tapster/tapsterlaw07.CounterSteps", spec := "counterSteps", unfollowed := true, recurses := true, apart := false }
def CounterStepsSaid : Prop := counterStepsRow.holds Try.pinned (OpenSpec.ofChange counterStepsSpec)

/-- ITS FALSE NEIGHBOUR: 'it returns false'. Refute it at one input. -/
def counterStepsWrong : ChangeSpec := { name := "counterSteps", fn := fun _ => fun
  | [d1, d2, d3, d4, d5] => { results := [.lit (.bool false)], args := [d1, d2, d3, d4, d5] }
  | _ => none }
def CounterStepsWrongFalsely : Prop := counterStepsRow.holds Try.pinned (OpenSpec.ofChange counterStepsWrong)

/-- 'tapsterlaw07.CounterStates': WHATEVER THE INPUT: true; the input reads as it did. -/
def counterStatesSpec : ChangeSpec := { name := "counterStates", fn := fun _ => fun
  | [d1, d2, d3, d4, d5] => { results := [.lit (.bool true)], args := [d1, d2, d3, d4, d5] }
  | _ => none }
def counterStatesRow : OpenClaim := { program := "ytikfjdpkjifcdaa", sum := "40c502028452f8505e25935fa23946d0728b78471daa30fd83e0cfb268530e33", func := "tapster/tapsterlaw07.CounterStates", spec := "counterStates", unfollowed := true, recurses := true, apart := false }
def CounterStatesSaid : Prop := counterStatesRow.holds Try.pinned (OpenSpec.ofChange counterStatesSpec)

/-- ITS FALSE NEIGHBOUR: 'it returns false'. Refute it at one input. -/
def counterStatesWrong : ChangeSpec := { name := "counterStates", fn := fun _ => fun
  | [d1, d2, d3, d4, d5] => { results := [.lit (.bool false)], args := [d1, d2, d3, d4, d5] }
  | _ => none }
def CounterStatesWrongFalsely : Prop := counterStatesRow.holds Try.pinned (OpenSpec.ofChange counterStatesWrong)

/-- 'tapsterlaw07.CounterRetries': WHATEVER THE INPUT: true; the input reads as it did. -/
def counterRetriesSpec : ChangeSpec := { name := "counterRetries", fn := fun _ => fun
  | [d1, d2, d3, d4, d5] => { results := [.lit (.bool true)], args := [d1, d2, d3, d4, d5] }
  | _ => none }
def counterRetriesRow : OpenClaim := { program := "ytikfjdpkjifcdaa", sum := "40c502028452f8505e25935fa23946d0728b78471daa30fd83e0cfb268530e33", func := "tapster/tapsterlaw07.CounterRetries", spec := "counterRetries", unfollowed := true, recurses := true, apart := false }
def CounterRetriesSaid : Prop := counterRetriesRow.holds Try.pinned (OpenSpec.ofChange counterRetriesSpec)

/-- ITS FALSE NEIGHBOUR: 'it returns false'. Refute it at one input. -/
def counterRetriesWrong : ChangeSpec := { name := "counterRetries", fn := fun _ => fun
  | [d1, d2, d3, d4, d5] => { results := [.lit (.bool false)], args := [d1, d2, d3, d4, d5] }
  | _ => none }
def CounterRetriesWrongFalsely : Prop := counterRetriesRow.holds Try.pinned (OpenSpec.ofChange counterRetriesWrong)

/-- 'tapsterlaw07.CounterBacks': WHATEVER THE INPUT: true; the input reads as it did. -/
def counterBacksSpec : ChangeSpec := { name := "counterBacks", fn := fun _ => fun
  | [d1, d2, d3, d4, d5, d6] => { results := [.lit (.bool true)], args := [d1, d2, d3, d4, d5, d6] }
  | _ => none }
def counterBacksRow : OpenClaim := { program := "ytikfjdpkjifcdaa", sum := "40c502028452f8505e25935fa23946d0728b78471daa30fd83e0cfb268530e33", func := "tapster/tapsterlaw07.CounterBacks", spec := "counterBacks", unfollowed := true, recurses := true, apart := false }
def CounterBacksSaid : Prop := counterBacksRow.holds Try.pinned (OpenSpec.ofChange counterBacksSpec)

/-- ITS FALSE NEIGHBOUR: 'it returns false'. Refute it at one input. -/
def counterBacksWrong : ChangeSpec := { name := "counterBacks", fn := fun _ => fun
  | [d1, d2, d3, d4, d5, d6] => { results := [.lit (.bool false)], args := [d1, d2, d3, d4, d5, d6] }
  | _ => none }
def CounterBacksWrongFalsely : Prop := counterBacksRow.holds Try.pinned (OpenSpec.ofChange counterBacksWrong)

/-- 'tapsterlaw07.CounterEnvelope': WHATEVER THE INPUT: true; the input reads as it did. -/
def counterEnvelopeSpec : ChangeSpec := { name := "counterEnvelope", fn := fun _ => fun
  | [d1, d2, d3, d4] => { results := [.lit (.bool true)], args := [d1, d2, d3, d4] }
  | _ => none }
def counterEnvelopeRow : OpenClaim := { program := "ytikfjdpkjifcdaa", sum := "40c502028452f8505e25935fa23946d0728b78471daa30fd83e0cfb268530e33", func := "tapster/tapsterlaw07.CounterEnvelope", spec := "counterEnvelope", unfollowed := true, recurses := true, apart := false }
def CounterEnvelopeSaid : Prop := counterEnvelopeRow.holds Try.pinned (OpenSpec.ofChange counterEnvelopeSpec)

/-- ITS FALSE NEIGHBOUR: 'it returns false'. Refute it at one input. -/
def counterEnvelopeWrong : ChangeSpec := { name := "counterEnvelope", fn := fun _ => fun
  | [d1, d2, d3, d4] => { results := [.lit (.bool false)], args := [d1, d2, d3, d4] }
  | _ => none }
def CounterEnvelopeWrongFalsely : Prop := counterEnvelopeRow.holds Try.pinned (OpenSpec.ofChange counterEnvelopeWrong)

/-- 'tapsterlaw07.CounterWaits': WHATEVER THE INPUT: true; the input reads as it did. -/
def counterWaitsSpec : ChangeSpec := { name := "counterWaits", fn := fun _ => fun
  | [d1, d2, d3, d4, d5] => { results := [.lit (.bool true)], args := [d1, d2, d3, d4, d5] }
  | _ => none }
def counterWaitsRow : OpenClaim := { program := "ytikfjdpkjifcdaa", sum := "40c502028452f8505e25935fa23946d0728b78471daa30fd83e0cfb268530e33", func := "tapster/tapsterlaw07.CounterWaits", spec := "counterWaits", unfollowed := true, recurses := true, apart := false }
def CounterWaitsSaid : Prop := counterWaitsRow.holds Try.pinned (OpenSpec.ofChange counterWaitsSpec)

/-- ITS FALSE NEIGHBOUR: 'it returns false'. Refute it at one input. -/
def counterWaitsWrong : ChangeSpec := { name := "counterWaits", fn := fun _ => fun
  | [d1, d2, d3, d4, d5] => { results := [.lit (.bool false)], args := [d1, d2, d3, d4, d5] }
  | _ => none }
def CounterWaitsWrongFalsely : Prop := counterWaitsRow.holds Try.pinned (OpenSpec.ofChange counterWaitsWrong)

/-- 'tapsterlaw07.CounterHalves': WHATEVER THE INPUT: true; the input reads as it did. -/
def counterHalvesSpec : ChangeSpec := { name := "counterHalves", fn := fun _ => fun
  | [d1, d2, d3, d4, d5] => { results := [.lit (.bool true)], args := [d1, d2, d3, d4, d5] }
  | _ => none }
def counterHalvesRow : OpenClaim := { program := "ytikfjdpkjifcdaa", sum := "40c502028452f8505e25935fa23946d0728b78471daa30fd83e0cfb268530e33", func := "tapster/tapsterlaw07.CounterHalves", spec := "counterHalves", unfollowed := true, recurses := true, apart := false }
def CounterHalvesSaid : Prop := counterHalvesRow.holds Try.pinned (OpenSpec.ofChange counterHalvesSpec)

/-- ITS FALSE NEIGHBOUR: 'it returns false'. Refute it at one input. -/
def counterHalvesWrong : ChangeSpec := { name := "counterHalves", fn := fun _ => fun
  | [d1, d2, d3, d4, d5] => { results := [.lit (.bool false)], args := [d1, d2, d3, d4, d5] }
  | _ => none }
def CounterHalvesWrongFalsely : Prop := counterHalvesRow.holds Try.pinned (OpenSpec.ofChange counterHalvesWrong)

/- THE SECOND FORM. 'bulk': how many values and letters a reading holds, each counted each time it is reached (what is shared counts as often as it is met; a slice's spare places count too). A statement '..UptoSaid' is the law's where the arguments, and the package variables that the reading takes, are together of bulk at most 1048576: NARROWER than '..Said'. Prove '..Said' where nothing that the law and all that it calls make is longer than what came in: it says more and counts as full. Else prove '..UptoSaid'. A law counts once. -/
mutual
def uptoBulk {H : Type} : DataW H → Nat
  | .lit (.string bytes) => bytes.length + 1
  | .lit _ => 1
  | .nil => 1
  | .ptr d => uptoBulk d + 1
  | .slice elems spare => uptoBulkAll elems + uptoBulkAll spare + 1
  | .agg parts => uptoBulkAll parts + 1
  | .iface _ d => uptoBulk d + 1
  | .map entries => uptoBulkEntries entries + 1
  | .held _ => 1
def uptoBulkAll {H : Type} : List (DataW H) → Nat
  | [] => 0
  | d :: r => uptoBulk d + uptoBulkAll r
def uptoBulkEntries {H : Type} : List (Lit × DataW H) → Nat
  | [] => 0
  | x :: r => uptoBulkEntry x + uptoBulkEntries r
def uptoBulkEntry {H : Type} : Lit × DataW H → Nat
  | (.string bytes, d) => bytes.length + uptoBulk d + 1
  | (_, d) => uptoBulk d + 1
 end
def uptoSmall : (H : Type) → List (DataW H) → Bool := fun _ ds => decide (uptoBulkAll ds ≤ 1048576)
def OpenSpec.upto (s : _root_.Go.ChangeSpec) : _root_.Go.OpenSpec := { _root_.Go.OpenSpec.ofChange s with cond := some uptoSmall }

/-- 'tapsterlaw07.CounterSteps', WHERE WHAT IT READS IS OF BULK AT MOST 1048576: true; the input reads as it did. -/
def counterStepsUptoRow : OpenClaim := { program := "ytikfjdpkjifcdaa", sum := "40c502028452f8505e25935fa23946d0728b78471daa30fd83e0cfb268530e33", func := "tapster/tapsterlaw07.CounterSteps", spec := "counterSteps", unfollowed := true, recurses := true, apart := false, narrowed := true }
def CounterStepsUptoSaid : Prop := counterStepsUptoRow.holds Try.pinned (OpenSpec.upto counterStepsSpec)

/-- 'tapsterlaw07.CounterStates', WHERE WHAT IT READS IS OF BULK AT MOST 1048576: true; the input reads as it did. -/
def counterStatesUptoRow : OpenClaim := { program := "ytikfjdpkjifcdaa", sum := "40c502028452f8505e25935fa23946d0728b78471daa30fd83e0cfb268530e33", func := "tapster/tapsterlaw07.CounterStates", spec := "counterStates", unfollowed := true, recurses := true, apart := false, narrowed := true }
def CounterStatesUptoSaid : Prop := counterStatesUptoRow.holds Try.pinned (OpenSpec.upto counterStatesSpec)

/-- 'tapsterlaw07.CounterRetries', WHERE WHAT IT READS IS OF BULK AT MOST 1048576: true; the input reads as it did. -/
def counterRetriesUptoRow : OpenClaim := { program := "ytikfjdpkjifcdaa", sum := "40c502028452f8505e25935fa23946d0728b78471daa30fd83e0cfb268530e33", func := "tapster/tapsterlaw07.CounterRetries", spec := "counterRetries", unfollowed := true, recurses := true, apart := false, narrowed := true }
def CounterRetriesUptoSaid : Prop := counterRetriesUptoRow.holds Try.pinned (OpenSpec.upto counterRetriesSpec)

/-- 'tapsterlaw07.CounterBacks', WHERE WHAT IT READS IS OF BULK AT MOST 1048576: true; the input reads as it did. -/
def counterBacksUptoRow : OpenClaim := { program := "ytikfjdpkjifcdaa", sum := "40c502028452f8505e25935fa23946d0728b78471daa30fd83e0cfb268530e33", func := "tapster/tapsterlaw07.CounterBacks", spec := "counterBacks", unfollowed := true, recurses := true, apart := false, narrowed := true }
def CounterBacksUptoSaid : Prop := counterBacksUptoRow.holds Try.pinned (OpenSpec.upto counterBacksSpec)

/-- 'tapsterlaw07.CounterEnvelope', WHERE WHAT IT READS IS OF BULK AT MOST 1048576: true; the input reads as it did. -/
def counterEnvelopeUptoRow : OpenClaim := { program := "ytikfjdpkjifcdaa", sum := "40c502028452f8505e25935fa23946d0728b78471daa30fd83e0cfb268530e33", func := "tapster/tapsterlaw07.CounterEnvelope", spec := "counterEnvelope", unfollowed := true, recurses := true, apart := false, narrowed := true }
def CounterEnvelopeUptoSaid : Prop := counterEnvelopeUptoRow.holds Try.pinned (OpenSpec.upto counterEnvelopeSpec)

/-- 'tapsterlaw07.CounterWaits', WHERE WHAT IT READS IS OF BULK AT MOST 1048576: true; the input reads as it did. -/
def counterWaitsUptoRow : OpenClaim := { program := "ytikfjdpkjifcdaa", sum := "40c502028452f8505e25935fa23946d0728b78471daa30fd83e0cfb268530e33", func := "tapster/tapsterlaw07.CounterWaits", spec := "counterWaits", unfollowed := true, recurses := true, apart := false, narrowed := true }
def CounterWaitsUptoSaid : Prop := counterWaitsUptoRow.holds Try.pinned (OpenSpec.upto counterWaitsSpec)

/-- 'tapsterlaw07.CounterHalves', WHERE WHAT IT READS IS OF BULK AT MOST 1048576: true; the input reads as it did. -/
def counterHalvesUptoRow : OpenClaim := { program := "ytikfjdpkjifcdaa", sum := "40c502028452f8505e25935fa23946d0728b78471daa30fd83e0cfb268530e33", func := "tapster/tapsterlaw07.CounterHalves", spec := "counterHalves", unfollowed := true, recurses := true, apart := false, narrowed := true }
def CounterHalvesUptoSaid : Prop := counterHalvesUptoRow.holds Try.pinned (OpenSpec.upto counterHalvesSpec)

end Rows
end Go.Proofs.Ytikfjdpkjifcdaa
