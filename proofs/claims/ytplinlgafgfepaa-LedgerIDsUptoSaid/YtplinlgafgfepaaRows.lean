/-
  No cell of these rows narrows 'for every input' (looked for: loops, veiled, ifaces, maps, wideKeys, modest, calm, conditions, laid).
  DERIVED. THE GIVEN ROWS OF THIS SEAT. 6 by the template 'for every input the law returns true; each argument reads behind the call as it read before'; 0 by the template 'total and deterministic' (their statements: YtplinlgafgfepaaTotals.lean).
  GIVEN WITH THE SEED: the statements are not yours to turn. If you find one false, say at which input.
  Laid BY PROGRAM, IN A SANDBOX (cutbox-rows.mjs): the forced cells as the released guide's own fill.sh prints them over the translation e18b6c6f43409640… (all of the seat's roots in one cut). By AI agents, Wed Nov 11 2026. No macro, syntax, notation, axiom, sorry.
-/
import Derived.Test.YtplinlgafgfepaaChecked
import GoSem.Claim
import GoSem.ClaimJoined
import GoSem.ClaimMapViews
import Derived.JoinedTies
import Derived.KernelRfl
namespace Go.Proofs.Ytplinlgafgfepaa
/- THE CELL 'sum', in the pinned program and in every row, IS THE sha256 OF THE DUMP (.gsa) THAT YtplinlgafgfepaaProg.lean LOADS. Nothing in Lean hashes anything: it is a label: what it is worth is what the hold of that sum in a sandbox is worth. -/
noncomputable def Try.pinned : Pinned := { name := "ytplinlgafgfepaa", sum := "e18b6c6f4340964029e1d70aa5c41cc824a6607f3ea65f1e34567267f30e3e8c", checked := Try.checked }
namespace Rows
def none {H : Type} : Left H := { results := [], args := [] }

/-- 'tapsterlaw14.LedgerSteps': WHATEVER THE INPUT: true; the input reads as it did. -/
def ledgerStepsSpec : ChangeSpec := { name := "ledgerSteps", fn := fun _ => fun
  | [d1, d2] => { results := [.lit (.bool true)], args := [d1, d2] }
  | _ => none }
def ledgerStepsRow : OpenClaim := { program := "ytplinlgafgfepaa", sum := "e18b6c6f4340964029e1d70aa5c41cc824a6607f3ea65f1e34567267f30e3e8c", func := "tapster/tapsterlaw14.LedgerSteps", spec := "ledgerSteps", unfollowed := true, recurses := true, apart := false }
def LedgerStepsSaid : Prop := ledgerStepsRow.holds Try.pinned (OpenSpec.ofChange ledgerStepsSpec)

/-- ITS FALSE NEIGHBOUR: 'it returns false'. Refute it at one input. -/
def ledgerStepsWrong : ChangeSpec := { name := "ledgerSteps", fn := fun _ => fun
  | [d1, d2] => { results := [.lit (.bool false)], args := [d1, d2] }
  | _ => none }
def LedgerStepsWrongFalsely : Prop := ledgerStepsRow.holds Try.pinned (OpenSpec.ofChange ledgerStepsWrong)

/-- 'tapsterlaw14.LedgerDue': WHATEVER THE INPUT: true; the input reads as it did. -/
def ledgerDueSpec : ChangeSpec := { name := "ledgerDue", fn := fun _ => fun
  | [d1, d2, d3] => { results := [.lit (.bool true)], args := [d1, d2, d3] }
  | _ => none }
def ledgerDueRow : OpenClaim := { program := "ytplinlgafgfepaa", sum := "e18b6c6f4340964029e1d70aa5c41cc824a6607f3ea65f1e34567267f30e3e8c", func := "tapster/tapsterlaw14.LedgerDue", spec := "ledgerDue", unfollowed := true, recurses := true, apart := false }
def LedgerDueSaid : Prop := ledgerDueRow.holds Try.pinned (OpenSpec.ofChange ledgerDueSpec)

/-- ITS FALSE NEIGHBOUR: 'it returns false'. Refute it at one input. -/
def ledgerDueWrong : ChangeSpec := { name := "ledgerDue", fn := fun _ => fun
  | [d1, d2, d3] => { results := [.lit (.bool false)], args := [d1, d2, d3] }
  | _ => none }
def LedgerDueWrongFalsely : Prop := ledgerDueRow.holds Try.pinned (OpenSpec.ofChange ledgerDueWrong)

/-- 'tapsterlaw14.LedgerIDs': WHATEVER THE INPUT: true; the input reads as it did. -/
def ledgerIDsSpec : ChangeSpec := { name := "ledgerIDs", fn := fun _ => fun
  | [d1, d2, d3] => { results := [.lit (.bool true)], args := [d1, d2, d3] }
  | _ => none }
def ledgerIDsRow : OpenClaim := { program := "ytplinlgafgfepaa", sum := "e18b6c6f4340964029e1d70aa5c41cc824a6607f3ea65f1e34567267f30e3e8c", func := "tapster/tapsterlaw14.LedgerIDs", spec := "ledgerIDs", inPlace := ["maps.clone"], unfollowed := true, recurses := true, apart := false }
def LedgerIDsSaid : Prop := ledgerIDsRow.holds Try.pinned (OpenSpec.ofChange ledgerIDsSpec)

/-- ITS FALSE NEIGHBOUR: 'it returns false'. Refute it at one input. -/
def ledgerIDsWrong : ChangeSpec := { name := "ledgerIDs", fn := fun _ => fun
  | [d1, d2, d3] => { results := [.lit (.bool false)], args := [d1, d2, d3] }
  | _ => none }
def LedgerIDsWrongFalsely : Prop := ledgerIDsRow.holds Try.pinned (OpenSpec.ofChange ledgerIDsWrong)

/-- 'tapsterlaw14.LedgerFull': WHATEVER THE INPUT: true; the input reads as it did. -/
def ledgerFullSpec : ChangeSpec := { name := "ledgerFull", fn := fun _ => fun
  | [d] => { results := [.lit (.bool true)], args := [d] }
  | _ => none }
def ledgerFullRow : OpenClaim := { program := "ytplinlgafgfepaa", sum := "e18b6c6f4340964029e1d70aa5c41cc824a6607f3ea65f1e34567267f30e3e8c", func := "tapster/tapsterlaw14.LedgerFull", spec := "ledgerFull", unfollowed := true, recurses := true, apart := false }
def LedgerFullSaid : Prop := ledgerFullRow.holds Try.pinned (OpenSpec.ofChange ledgerFullSpec)

/-- ITS FALSE NEIGHBOUR: 'it returns false'. Refute it at one input. -/
def ledgerFullWrong : ChangeSpec := { name := "ledgerFull", fn := fun _ => fun
  | [d] => { results := [.lit (.bool false)], args := [d] }
  | _ => none }
def LedgerFullWrongFalsely : Prop := ledgerFullRow.holds Try.pinned (OpenSpec.ofChange ledgerFullWrong)

/-- 'tapsterlaw14.LedgerNext': WHATEVER THE INPUT: true; the input reads as it did. -/
def ledgerNextSpec : ChangeSpec := { name := "ledgerNext", fn := fun _ => fun
  | [d] => { results := [.lit (.bool true)], args := [d] }
  | _ => none }
def ledgerNextRow : OpenClaim := { program := "ytplinlgafgfepaa", sum := "e18b6c6f4340964029e1d70aa5c41cc824a6607f3ea65f1e34567267f30e3e8c", func := "tapster/tapsterlaw14.LedgerNext", spec := "ledgerNext", inPlace := ["maps.clone"], unfollowed := true, recurses := true, apart := false }
def LedgerNextSaid : Prop := ledgerNextRow.holds Try.pinned (OpenSpec.ofChange ledgerNextSpec)

/-- ITS FALSE NEIGHBOUR: 'it returns false'. Refute it at one input. -/
def ledgerNextWrong : ChangeSpec := { name := "ledgerNext", fn := fun _ => fun
  | [d] => { results := [.lit (.bool false)], args := [d] }
  | _ => none }
def LedgerNextWrongFalsely : Prop := ledgerNextRow.holds Try.pinned (OpenSpec.ofChange ledgerNextWrong)

/-- 'tapsterlaw14.LedgerTwo': WHATEVER THE INPUT: true; the input reads as it did. -/
def ledgerTwoSpec : ChangeSpec := { name := "ledgerTwo", fn := fun _ => fun
  | [d1, d2, d3, d4] => { results := [.lit (.bool true)], args := [d1, d2, d3, d4] }
  | _ => none }
def ledgerTwoRow : OpenClaim := { program := "ytplinlgafgfepaa", sum := "e18b6c6f4340964029e1d70aa5c41cc824a6607f3ea65f1e34567267f30e3e8c", func := "tapster/tapsterlaw14.LedgerTwo", spec := "ledgerTwo", unfollowed := true, recurses := true, apart := false }
def LedgerTwoSaid : Prop := ledgerTwoRow.holds Try.pinned (OpenSpec.ofChange ledgerTwoSpec)

/-- ITS FALSE NEIGHBOUR: 'it returns false'. Refute it at one input. -/
def ledgerTwoWrong : ChangeSpec := { name := "ledgerTwo", fn := fun _ => fun
  | [d1, d2, d3, d4] => { results := [.lit (.bool false)], args := [d1, d2, d3, d4] }
  | _ => none }
def LedgerTwoWrongFalsely : Prop := ledgerTwoRow.holds Try.pinned (OpenSpec.ofChange ledgerTwoWrong)

/- THE SECOND FORM. 'bulk': how many values and letters a reading holds, each counted each time it is reached (what is shared counts as often as it is met; a slice's spare places count too). A statement '..UptoSaid' is the law's where the arguments, and the package variables that the reading takes, are together of bulk at most 1048576: NARROWER than '..Said'. Prove '..Said' where nothing that the law and all that it calls make is longer than what came in: it says more and counts as full. Else prove '..UptoSaid'. A law counts once. -/
mutual
def uptoBulk {H : Type} : DataW H → Nat
  | .lit (.string bytes) => bytes.length + 1
  | .lit _ => 1
  | .nil => 1
  | .ptr d => uptoBulk d + 1
  | .slice elems spare => uptoBulkAll elems + uptoBulkAll spare + 1
  | .agg parts => uptoBulkAll parts + 1
  | .iface _ d => uptoBulk d + 1
  | .map entries => uptoBulkEntries entries + 1
  | .held _ => 1
def uptoBulkAll {H : Type} : List (DataW H) → Nat
  | [] => 0
  | d :: r => uptoBulk d + uptoBulkAll r
def uptoBulkEntries {H : Type} : List (Lit × DataW H) → Nat
  | [] => 0
  | x :: r => uptoBulkEntry x + uptoBulkEntries r
def uptoBulkEntry {H : Type} : Lit × DataW H → Nat
  | (.string bytes, d) => bytes.length + uptoBulk d + 1
  | (_, d) => uptoBulk d + 1
 end
def uptoSmall : (H : Type) → List (DataW H) → Bool := fun _ ds => decide (uptoBulkAll ds ≤ 1048576)
def OpenSpec.upto (s : _root_.Go.ChangeSpec) : _root_.Go.OpenSpec := { _root_.Go.OpenSpec.ofChange s with cond := some uptoSmall }

/-- 'tapsterlaw14.LedgerSteps', WHERE WHAT IT READS IS OF BULK AT MOST 1048576: true; the input reads as it did. -/
def ledgerStepsUptoRow : OpenClaim := { program := "ytplinlgafgfepaa", sum := "e18b6c6f4340964029e1d70aa5c41cc824a6607f3ea65f1e34567267f30e3e8c", func := "tapster/tapsterlaw14.LedgerSteps", spec := "ledgerSteps", unfollowed := true, recurses := true, apart := false, narrowed := true }
def LedgerStepsUptoSaid : Prop := ledgerStepsUptoRow.holds Try.pinned (OpenSpec.upto ledgerStepsSpec)

/-- 'tapsterlaw14.LedgerDue', WHERE WHAT IT READS IS OF BULK AT MOST 1048576: true; the input reads as it did. -/
def ledgerDueUptoRow : OpenClaim := { program := "ytplinlgafgfepaa", sum := "e18b6c6f4340964029e1d70aa5c41cc824a6607f3ea65f1e34567267f30e3e8c", func := "tapster/tapsterlaw14.LedgerDue", spec := "ledgerDue", unfollowed := true, recurses := true, apart := false, narrowed := true }
def LedgerDueUptoSaid : Prop := ledgerDueUptoRow.holds Try.pinned (OpenSpec.upto ledgerDueSpec)

/-- 'tapsterlaw14.LedgerIDs', WHERE WHAT IT READS IS OF BULK AT MOST 1048576: true; the input reads as it did. -/
def ledgerIDsUptoRow : OpenClaim := { program := "ytplinlgafgfepaa", sum := "e18b6c6f4340964029e1d70aa5c41cc824a6607f3ea65f1e34567267f30e3e8c", func := "tapster/tapsterlaw14.LedgerIDs", spec := "ledgerIDs", inPlace := ["maps.clone"], unfollowed := true, recurses := true, apart := false, narrowed := true }
def LedgerIDsUptoSaid : Prop := ledgerIDsUptoRow.holds Try.pinned (OpenSpec.upto ledgerIDsSpec)

/-- 'tapsterlaw14.LedgerFull', WHERE WHAT IT READS IS OF BULK AT MOST 1048576: true; the input reads as it did. -/
def ledgerFullUptoRow : OpenClaim := { program := "ytplinlgafgfepaa", sum := "e18b6c6f4340964029e1d70aa5c41cc824a6607f3ea65f1e34567267f30e3e8c", func := "tapster/tapsterlaw14.LedgerFull", spec := "ledgerFull", unfollowed := true, recurses := true, apart := false, narrowed := true }
def LedgerFullUptoSaid : Prop := ledgerFullUptoRow.holds Try.pinned (OpenSpec.upto ledgerFullSpec)

/-- 'tapsterlaw14.LedgerNext', WHERE WHAT IT READS IS OF BULK AT MOST 1048576: true; the input reads as it did. -/
def ledgerNextUptoRow : OpenClaim := { program := "ytplinlgafgfepaa", sum := "e18b6c6f4340964029e1d70aa5c41cc824a6607f3ea65f1e34567267f30e3e8c", func := "tapster/tapsterlaw14.LedgerNext", spec := "ledgerNext", inPlace := ["maps.clone"], unfollowed := true, recurses := true, apart := false, narrowed := true }
def LedgerNextUptoSaid : Prop := ledgerNextUptoRow.holds Try.pinned (OpenSpec.upto ledgerNextSpec)

/-- 'tapsterlaw14.LedgerTwo', WHERE WHAT IT READS IS OF BULK AT MOST 1048576: true; the input reads as it did. -/
def ledgerTwoUptoRow : OpenClaim := { program := "ytplinlgafgfepaa", sum := "e18b6c6f4340964029e1d70aa5c41cc824a6607f3ea65f1e34567267f30e3e8c", func := "tapster/tapsterlaw14.LedgerTwo", spec := "ledgerTwo", unfollowed := true, recurses := true, apart := false, narrowed := true }
def LedgerTwoUptoSaid : Prop := ledgerTwoUptoRow.holds Try.pinned (OpenSpec.upto ledgerTwoSpec)

end Rows
end Go.Proofs.Ytplinlgafgfepaa
