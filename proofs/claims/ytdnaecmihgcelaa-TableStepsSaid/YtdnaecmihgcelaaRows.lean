/-
  No cell of these rows narrows 'for every input' (looked for: loops, veiled, ifaces, maps, wideKeys, modest, calm, conditions, laid).
  DERIVED. THE GIVEN ROWS OF THIS SEAT. 6 by the template 'for every input the law returns true; each argument reads behind the call as it read before'; 0 by the template 'total and deterministic' (their statements: YtdnaecmihgcelaaTotals.lean).
  GIVEN WITH THE SEED: the statements are not yours to turn. If you find one false, say at which input.
  Laid BY PROGRAM, IN A SANDBOX (cutbox-rows.mjs): the forced cells as the released guide's own fill.sh prints them over the translation f123252f9e9e82e8… (all of the seat's roots in one cut). By AI agents, Wed Nov 11 2026. No macro, syntax, notation, axiom, sorry.
-/
import Derived.Test.YtdnaecmihgcelaaChecked
import GoSem.Claim
import GoSem.ClaimJoined
import GoSem.ClaimMapViews
import Derived.JoinedTies
import Derived.KernelRfl
namespace Go.Proofs.Ytdnaecmihgcelaa
/- THE CELL 'sum', in the pinned program and in every row, IS THE sha256 OF THE DUMP (.gsa) THAT YtdnaecmihgcelaaProg.lean LOADS. Nothing in Lean hashes anything: it is a label: what it is worth is what the hold of that sum in a sandbox is worth. -/
noncomputable def Try.pinned : Pinned := { name := "ytdnaecmihgcelaa", sum := "f123252f9e9e82e81bd15b6f7a42bad900d593cbfc7c570a3f60f93cc0c87569", checked := Try.checked }
namespace Rows
def none {H : Type} : Left H := { results := [], args := [] }

/-- 'tapsterlaw09.TableSteps': WHATEVER THE INPUT: true; the input reads as it did. -/
def tableStepsSpec : ChangeSpec := { name := "tableSteps", fn := fun _ => fun
  | [d1, d2, d3] => { results := [.lit (.bool true)], args := [d1, d2, d3] }
  | _ => none }
def tableStepsRow : OpenClaim := { program := "ytdnaecmihgcelaa", sum := "f123252f9e9e82e81bd15b6f7a42bad900d593cbfc7c570a3f60f93cc0c87569", func := "tapster/tapsterlaw09.TableSteps", spec := "tableSteps", unfollowed := true, recurses := true, apart := false }
def TableStepsSaid : Prop := tableStepsRow.holds Try.pinned (OpenSpec.ofChange tableStepsSpec)

/-- ITS FALSE NEIGHBOUR: 'it returns false'. Refute it at one input. -/
def tableStepsWrong : ChangeSpec := { name := "tableSteps", fn := fun _ => fun
  | [d1, d2, d3] => { results := [.lit (.bool false)], args := [d1, d2, d3] }
  | _ => none }
def TableStepsWrongFalsely : Prop := tableStepsRow.holds Try.pinned (OpenSpec.ofChange tableStepsWrong)

/-- 'tapsterlaw09.TableRoom': WHATEVER THE INPUT: true; the input reads as it did. -/
def tableRoomSpec : ChangeSpec := { name := "tableRoom", fn := fun _ => fun
  | [d1, d2] => { results := [.lit (.bool true)], args := [d1, d2] }
  | _ => none }
def tableRoomRow : OpenClaim := { program := "ytdnaecmihgcelaa", sum := "f123252f9e9e82e81bd15b6f7a42bad900d593cbfc7c570a3f60f93cc0c87569", func := "tapster/tapsterlaw09.TableRoom", spec := "tableRoom", unfollowed := true, recurses := true, apart := false }
def TableRoomSaid : Prop := tableRoomRow.holds Try.pinned (OpenSpec.ofChange tableRoomSpec)

/-- ITS FALSE NEIGHBOUR: 'it returns false'. Refute it at one input. -/
def tableRoomWrong : ChangeSpec := { name := "tableRoom", fn := fun _ => fun
  | [d1, d2] => { results := [.lit (.bool false)], args := [d1, d2] }
  | _ => none }
def TableRoomWrongFalsely : Prop := tableRoomRow.holds Try.pinned (OpenSpec.ofChange tableRoomWrong)

/-- 'tapsterlaw09.TableKeeps': WHATEVER THE INPUT: true; the input reads as it did. -/
def tableKeepsSpec : ChangeSpec := { name := "tableKeeps", fn := fun _ => fun
  | [d1, d2, d3] => { results := [.lit (.bool true)], args := [d1, d2, d3] }
  | _ => none }
def tableKeepsRow : OpenClaim := { program := "ytdnaecmihgcelaa", sum := "f123252f9e9e82e81bd15b6f7a42bad900d593cbfc7c570a3f60f93cc0c87569", func := "tapster/tapsterlaw09.TableKeeps", spec := "tableKeeps", unfollowed := true, recurses := true, apart := false }
def TableKeepsSaid : Prop := tableKeepsRow.holds Try.pinned (OpenSpec.ofChange tableKeepsSpec)

/-- ITS FALSE NEIGHBOUR: 'it returns false'. Refute it at one input. -/
def tableKeepsWrong : ChangeSpec := { name := "tableKeeps", fn := fun _ => fun
  | [d1, d2, d3] => { results := [.lit (.bool false)], args := [d1, d2, d3] }
  | _ => none }
def TableKeepsWrongFalsely : Prop := tableKeepsRow.holds Try.pinned (OpenSpec.ofChange tableKeepsWrong)

/-- 'tapsterlaw09.TableOldest': WHATEVER THE INPUT: true; the input reads as it did. -/
def tableOldestSpec : ChangeSpec := { name := "tableOldest", fn := fun _ => fun
  | [d] => { results := [.lit (.bool true)], args := [d] }
  | _ => none }
def tableOldestRow : OpenClaim := { program := "ytdnaecmihgcelaa", sum := "f123252f9e9e82e81bd15b6f7a42bad900d593cbfc7c570a3f60f93cc0c87569", func := "tapster/tapsterlaw09.TableOldest", spec := "tableOldest", unfollowed := true, recurses := true, apart := false }
def TableOldestSaid : Prop := tableOldestRow.holds Try.pinned (OpenSpec.ofChange tableOldestSpec)

/-- ITS FALSE NEIGHBOUR: 'it returns false'. Refute it at one input. -/
def tableOldestWrong : ChangeSpec := { name := "tableOldest", fn := fun _ => fun
  | [d] => { results := [.lit (.bool false)], args := [d] }
  | _ => none }
def TableOldestWrongFalsely : Prop := tableOldestRow.holds Try.pinned (OpenSpec.ofChange tableOldestWrong)

/-- 'tapsterlaw09.TablePeeks': WHATEVER THE INPUT: true; the input reads as it did. -/
def tablePeeksSpec : ChangeSpec := { name := "tablePeeks", fn := fun _ => fun
  | [d1, d2] => { results := [.lit (.bool true)], args := [d1, d2] }
  | _ => none }
def tablePeeksRow : OpenClaim := { program := "ytdnaecmihgcelaa", sum := "f123252f9e9e82e81bd15b6f7a42bad900d593cbfc7c570a3f60f93cc0c87569", func := "tapster/tapsterlaw09.TablePeeks", spec := "tablePeeks", unfollowed := true, recurses := true, apart := false }
def TablePeeksSaid : Prop := tablePeeksRow.holds Try.pinned (OpenSpec.ofChange tablePeeksSpec)

/-- ITS FALSE NEIGHBOUR: 'it returns false'. Refute it at one input. -/
def tablePeeksWrong : ChangeSpec := { name := "tablePeeks", fn := fun _ => fun
  | [d1, d2] => { results := [.lit (.bool false)], args := [d1, d2] }
  | _ => none }
def TablePeeksWrongFalsely : Prop := tablePeeksRow.holds Try.pinned (OpenSpec.ofChange tablePeeksWrong)

/-- 'tapsterlaw09.TableMany': WHATEVER THE INPUT: true; the input reads as it did. -/
def tableManySpec : ChangeSpec := { name := "tableMany", fn := fun _ => fun
  | [d1, d2] => { results := [.lit (.bool true)], args := [d1, d2] }
  | _ => none }
def tableManyRow : OpenClaim := { program := "ytdnaecmihgcelaa", sum := "f123252f9e9e82e81bd15b6f7a42bad900d593cbfc7c570a3f60f93cc0c87569", func := "tapster/tapsterlaw09.TableMany", spec := "tableMany", unfollowed := true, recurses := true, apart := false }
def TableManySaid : Prop := tableManyRow.holds Try.pinned (OpenSpec.ofChange tableManySpec)

/-- ITS FALSE NEIGHBOUR: 'it returns false'. Refute it at one input. -/
def tableManyWrong : ChangeSpec := { name := "tableMany", fn := fun _ => fun
  | [d1, d2] => { results := [.lit (.bool false)], args := [d1, d2] }
  | _ => none }
def TableManyWrongFalsely : Prop := tableManyRow.holds Try.pinned (OpenSpec.ofChange tableManyWrong)

/- THE SECOND FORM. 'bulk': how many values and letters a reading holds, each counted each time it is reached (what is shared counts as often as it is met; a slice's spare places count too). A statement '..UptoSaid' is the law's where the arguments, and the package variables that the reading takes, are together of bulk at most 1048576: NARROWER than '..Said'. Prove '..Said' where nothing that the law and all that it calls make is longer than what came in: it says more and counts as full. Else prove '..UptoSaid'. A law counts once. -/
mutual
def uptoBulk {H : Type} : DataW H → Nat
  | .lit (.string bytes) => bytes.length + 1
  | .lit _ => 1
  | .nil => 1
  | .ptr d => uptoBulk d + 1
  | .slice elems spare => uptoBulkAll elems + uptoBulkAll spare + 1
  | .agg parts => uptoBulkAll parts + 1
  | .iface _ d => uptoBulk d + 1
  | .map entries => uptoBulkEntries entries + 1
  | .held _ => 1
def uptoBulkAll {H : Type} : List (DataW H) → Nat
  | [] => 0
  | d :: r => uptoBulk d + uptoBulkAll r
def uptoBulkEntries {H : Type} : List (Lit × DataW H) → Nat
  | [] => 0
  | x :: r => uptoBulkEntry x + uptoBulkEntries r
def uptoBulkEntry {H : Type} : Lit × DataW H → Nat
  | (.string bytes, d) => bytes.length + uptoBulk d + 1
  | (_, d) => uptoBulk d + 1
 end
def uptoSmall : (H : Type) → List (DataW H) → Bool := fun _ ds => decide (uptoBulkAll ds ≤ 1048576)
def OpenSpec.upto (s : _root_.Go.ChangeSpec) : _root_.Go.OpenSpec := { _root_.Go.OpenSpec.ofChange s with cond := some uptoSmall }

/-- 'tapsterlaw09.TableSteps', WHERE WHAT IT READS IS OF BULK AT MOST 1048576: true; the input reads as it did. -/
def tableStepsUptoRow : OpenClaim := { program := "ytdnaecmihgcelaa", sum := "f123252f9e9e82e81bd15b6f7a42bad900d593cbfc7c570a3f60f93cc0c87569", func := "tapster/tapsterlaw09.TableSteps", spec := "tableSteps", unfollowed := true, recurses := true, apart := false, narrowed := true }
def TableStepsUptoSaid : Prop := tableStepsUptoRow.holds Try.pinned (OpenSpec.upto tableStepsSpec)

/-- 'tapsterlaw09.TableRoom', WHERE WHAT IT READS IS OF BULK AT MOST 1048576: true; the input reads as it did. -/
def tableRoomUptoRow : OpenClaim := { program := "ytdnaecmihgcelaa", sum := "f123252f9e9e82e81bd15b6f7a42bad900d593cbfc7c570a3f60f93cc0c87569", func := "tapster/tapsterlaw09.TableRoom", spec := "tableRoom", unfollowed := true, recurses := true, apart := false, narrowed := true }
def TableRoomUptoSaid : Prop := tableRoomUptoRow.holds Try.pinned (OpenSpec.upto tableRoomSpec)

/-- 'tapsterlaw09.TableKeeps', WHERE WHAT IT READS IS OF BULK AT MOST 1048576: true; the input reads as it did. -/
def tableKeepsUptoRow : OpenClaim := { program := "ytdnaecmihgcelaa", sum := "f123252f9e9e82e81bd15b6f7a42bad900d593cbfc7c570a3f60f93cc0c87569", func := "tapster/tapsterlaw09.TableKeeps", spec := "tableKeeps", unfollowed := true, recurses := true, apart := false, narrowed := true }
def TableKeepsUptoSaid : Prop := tableKeepsUptoRow.holds Try.pinned (OpenSpec.upto tableKeepsSpec)

/-- 'tapsterlaw09.TableOldest', WHERE WHAT IT READS IS OF BULK AT MOST 1048576: true; the input reads as it did. -/
def tableOldestUptoRow : OpenClaim := { program := "ytdnaecmihgcelaa", sum := "f123252f9e9e82e81bd15b6f7a42bad900d593cbfc7c570a3f60f93cc0c87569", func := "tapster/tapsterlaw09.TableOldest", spec := "tableOldest", unfollowed := true, recurses := true, apart := false, narrowed := true }
def TableOldestUptoSaid : Prop := tableOldestUptoRow.holds Try.pinned (OpenSpec.upto tableOldestSpec)

/-- 'tapsterlaw09.TablePeeks', WHERE WHAT IT READS IS OF BULK AT MOST 1048576: true; the input reads as it did. -/
def tablePeeksUptoRow : OpenClaim := { program := "ytdnaecmihgcelaa", sum := "f123252f9e9e82e81bd15b6f7a42bad900d593cbfc7c570a3f60f93cc0c87569", func := "tapster/tapsterlaw09.TablePeeks", spec := "tablePeeks", unfollowed := true, recurses := true, apart := false, narrowed := true }
def TablePeeksUptoSaid : Prop := tablePeeksUptoRow.holds Try.pinned (OpenSpec.upto tablePeeksSpec)

/-- 'tapsterlaw09.TableMany', WHERE WHAT IT READS IS OF BULK AT MOST 1048576: true; the input reads as it did. -/
def tableManyUptoRow : OpenClaim := { program := "ytdnaecmihgcelaa", sum := "f123252f9e9e82e81bd15b6f7a42bad900d593cbfc7c570a3f60f93cc0c87569", func := "tapster/tapsterlaw09.TableMany", spec := "tableMany", unfollowed := true, recurses := true, apart := false, narrowed := true }
def TableManyUptoSaid : Prop := tableManyUptoRow.holds Try.pinned (OpenSpec.upto tableManySpec)

end Rows
end Go.Proofs.Ytdnaecmihgcelaa
