/-
  No cell of these rows narrows 'for every input' (looked for: loops, veiled, ifaces, maps, wideKeys, modest, calm, conditions, laid).
  DERIVED. THE GIVEN ROWS OF THIS SEAT. 4 by the template 'for every input the law returns true; each argument reads behind the call as it read before'; 0 by the template 'total and deterministic' (their statements: YtekjohgnfplfjaaTotals.lean).
  GIVEN WITH THE SEED: the statements are not yours to turn. If you find one false, say at which input.
  Laid BY PROGRAM, IN A SANDBOX (cutbox-rows.mjs): the forced cells as the released guide's own fill.sh prints them over the translation db46c18604f1cc1c… (all of the seat's roots in one cut). By AI agents, Wed Nov 11 2026. No macro, syntax, notation, axiom, sorry.
-/
import Derived.Test.YtekjohgnfplfjaaChecked
import GoSem.Claim
import GoSem.ClaimJoined
import GoSem.ClaimMapViews
import Derived.JoinedTies
import Derived.KernelRfl
namespace Go.Proofs.Ytekjohgnfplfjaa
/- THE CELL 'sum', in the pinned program and in every row, IS THE sha256 OF THE DUMP (.gsa) THAT YtekjohgnfplfjaaProg.lean LOADS. Nothing in Lean hashes anything: it is a label: what it is worth is what the hold of that sum in a sandbox is worth. -/
noncomputable def Try.pinned : Pinned := { name := "ytekjohgnfplfjaa", sum := "db46c18604f1cc1cb2203fcaed232129901b4fdb084b27c31283911a06a2f7eb", checked := Try.checked }
namespace Rows
def none {H : Type} : Left H := { results := [], args := [] }

/-- 'tapsterlaw11.VarsEnds': WHATEVER THE INPUT: true; the input reads as it did. -/
def varsEndsSpec : ChangeSpec := { name := "varsEnds", fn := fun _ => fun
  | [d1, d2, d3, d4, d5] => { results := [.lit (.bool true)], args := [d1, d2, d3, d4, d5] }
  | _ => none }
def varsEndsRow : OpenClaim := { program := "ytekjohgnfplfjaa", sum := "db46c18604f1cc1cb2203fcaed232129901b4fdb084b27c31283911a06a2f7eb", func := "tapster/tapsterlaw11.VarsEnds", spec := "varsEnds", unfollowed := true, recurses := true, apart := false }
def VarsEndsSaid : Prop := varsEndsRow.holds Try.pinned (OpenSpec.ofChange varsEndsSpec)

/-- ITS FALSE NEIGHBOUR: 'it returns false'. Refute it at one input. -/
def varsEndsWrong : ChangeSpec := { name := "varsEnds", fn := fun _ => fun
  | [d1, d2, d3, d4, d5] => { results := [.lit (.bool false)], args := [d1, d2, d3, d4, d5] }
  | _ => none }
def VarsEndsWrongFalsely : Prop := varsEndsRow.holds Try.pinned (OpenSpec.ofChange varsEndsWrong)

/-- 'tapsterlaw11.VarsSums': WHATEVER THE INPUT: true; the input reads as it did. -/
def varsSumsSpec : ChangeSpec := { name := "varsSums", fn := fun _ => fun
  | [d1, d2] => { results := [.lit (.bool true)], args := [d1, d2] }
  | _ => none }
def varsSumsRow : OpenClaim := { program := "ytekjohgnfplfjaa", sum := "db46c18604f1cc1cb2203fcaed232129901b4fdb084b27c31283911a06a2f7eb", func := "tapster/tapsterlaw11.VarsSums", spec := "varsSums", unfollowed := true, recurses := true, apart := false }
def VarsSumsSaid : Prop := varsSumsRow.holds Try.pinned (OpenSpec.ofChange varsSumsSpec)

/-- ITS FALSE NEIGHBOUR: 'it returns false'. Refute it at one input. -/
def varsSumsWrong : ChangeSpec := { name := "varsSums", fn := fun _ => fun
  | [d1, d2] => { results := [.lit (.bool false)], args := [d1, d2] }
  | _ => none }
def VarsSumsWrongFalsely : Prop := varsSumsRow.holds Try.pinned (OpenSpec.ofChange varsSumsWrong)

/-- 'tapsterlaw11.VarsRoom': WHATEVER THE INPUT: true; the input reads as it did. -/
def varsRoomSpec : ChangeSpec := { name := "varsRoom", fn := fun _ => fun
  | [d1, d2] => { results := [.lit (.bool true)], args := [d1, d2] }
  | _ => none }
def varsRoomRow : OpenClaim := { program := "ytekjohgnfplfjaa", sum := "db46c18604f1cc1cb2203fcaed232129901b4fdb084b27c31283911a06a2f7eb", func := "tapster/tapsterlaw11.VarsRoom", spec := "varsRoom", unfollowed := true, recurses := true, apart := false }
def VarsRoomSaid : Prop := varsRoomRow.holds Try.pinned (OpenSpec.ofChange varsRoomSpec)

/-- ITS FALSE NEIGHBOUR: 'it returns false'. Refute it at one input. -/
def varsRoomWrong : ChangeSpec := { name := "varsRoom", fn := fun _ => fun
  | [d1, d2] => { results := [.lit (.bool false)], args := [d1, d2] }
  | _ => none }
def VarsRoomWrongFalsely : Prop := varsRoomRow.holds Try.pinned (OpenSpec.ofChange varsRoomWrong)

/-- 'tapsterlaw11.VarsOrder': WHATEVER THE INPUT: true; the input reads as it did. -/
def varsOrderSpec : ChangeSpec := { name := "varsOrder", fn := fun _ => fun
  | [d1, d2, d3, d4] => { results := [.lit (.bool true)], args := [d1, d2, d3, d4] }
  | _ => none }
def varsOrderRow : OpenClaim := { program := "ytekjohgnfplfjaa", sum := "db46c18604f1cc1cb2203fcaed232129901b4fdb084b27c31283911a06a2f7eb", func := "tapster/tapsterlaw11.VarsOrder", spec := "varsOrder", unfollowed := true, recurses := true, apart := false }
def VarsOrderSaid : Prop := varsOrderRow.holds Try.pinned (OpenSpec.ofChange varsOrderSpec)

/-- ITS FALSE NEIGHBOUR: 'it returns false'. Refute it at one input. -/
def varsOrderWrong : ChangeSpec := { name := "varsOrder", fn := fun _ => fun
  | [d1, d2, d3, d4] => { results := [.lit (.bool false)], args := [d1, d2, d3, d4] }
  | _ => none }
def VarsOrderWrongFalsely : Prop := varsOrderRow.holds Try.pinned (OpenSpec.ofChange varsOrderWrong)

/- THE SECOND FORM. 'bulk': how many values and letters a reading holds, each counted each time it is reached (what is shared counts as often as it is met; a slice's spare places count too). A statement '..UptoSaid' is the law's where the arguments, and the package variables that the reading takes, are together of bulk at most 1048576: NARROWER than '..Said'. Prove '..Said' where nothing that the law and all that it calls make is longer than what came in: it says more and counts as full. Else prove '..UptoSaid'. A law counts once. -/
mutual
def uptoBulk {H : Type} : DataW H → Nat
  | .lit (.string bytes) => bytes.length + 1
  | .lit _ => 1
  | .nil => 1
  | .ptr d => uptoBulk d + 1
  | .slice elems spare => uptoBulkAll elems + uptoBulkAll spare + 1
  | .agg parts => uptoBulkAll parts + 1
  | .iface _ d => uptoBulk d + 1
  | .map entries => uptoBulkEntries entries + 1
  | .held _ => 1
def uptoBulkAll {H : Type} : List (DataW H) → Nat
  | [] => 0
  | d :: r => uptoBulk d + uptoBulkAll r
def uptoBulkEntries {H : Type} : List (Lit × DataW H) → Nat
  | [] => 0
  | x :: r => uptoBulkEntry x + uptoBulkEntries r
def uptoBulkEntry {H : Type} : Lit × DataW H → Nat
  | (.string bytes, d) => bytes.length + uptoBulk d + 1
  | (_, d) => uptoBulk d + 1
 end
def uptoSmall : (H : Type) → List (DataW H) → Bool := fun _ ds => decide (uptoBulkAll ds ≤ 1048576)
def OpenSpec.upto (s : _root_.Go.ChangeSpec) : _root_.Go.OpenSpec := { _root_.Go.OpenSpec.ofChange s with cond := some uptoSmall }

/-- 'tapsterlaw11.VarsEnds', WHERE WHAT IT READS IS OF BULK AT MOST 1048576: true; the input reads as it did. -/
def varsEndsUptoRow : OpenClaim := { program := "ytekjohgnfplfjaa", sum := "db46c18604f1cc1cb2203fcaed232129901b4fdb084b27c31283911a06a2f7eb", func := "tapster/tapsterlaw11.VarsEnds", spec := "varsEnds", unfollowed := true, recurses := true, apart := false, narrowed := true }
def VarsEndsUptoSaid : Prop := varsEndsUptoRow.holds Try.pinned (OpenSpec.upto varsEndsSpec)

/-- 'tapsterlaw11.VarsSums', WHERE WHAT IT READS IS OF BULK AT MOST 1048576: true; the input reads as it did. -/
def varsSumsUptoRow : OpenClaim := { program := "ytekjohgnfplfjaa", sum := "db46c18604f1cc1cb2203fcaed232129901b4fdb084b27c31283911a06a2f7eb", func := "tapster/tapsterlaw11.VarsSums", spec := "varsSums", unfollowed := true, recurses := true, apart := false, narrowed := true }
def VarsSumsUptoSaid : Prop := varsSumsUptoRow.holds Try.pinned (OpenSpec.upto varsSumsSpec)

/-- 'tapsterlaw11.VarsRoom', WHERE WHAT IT READS IS OF BULK AT MOST 1048576: true; the input reads as it did. -/
def varsRoomUptoRow : OpenClaim := { program := "ytekjohgnfplfjaa", sum := "db46c18604f1cc1cb2203fcaed232129901b4fdb084b27c31283911a06a2f7eb", func := "tapster/tapsterlaw11.VarsRoom", spec := "varsRoom", unfollowed := true, recurses := true, apart := false, narrowed := true }
def VarsRoomUptoSaid : Prop := varsRoomUptoRow.holds Try.pinned (OpenSpec.upto varsRoomSpec)

/-- 'tapsterlaw11.VarsOrder', WHERE WHAT IT READS IS OF BULK AT MOST 1048576: true; the input reads as it did. -/
def varsOrderUptoRow : OpenClaim := { program := "ytekjohgnfplfjaa", sum := "db46c18604f1cc1cb2203fcaed232129901b4fdb084b27c31283911a06a2f7eb", func := "tapster/tapsterlaw11.VarsOrder", spec := "varsOrder", unfollowed := true, recurses := true, apart := false, narrowed := true }
def VarsOrderUptoSaid : Prop := varsOrderUptoRow.holds Try.pinned (OpenSpec.upto varsOrderSpec)

end Rows
end Go.Proofs.Ytekjohgnfplfjaa
