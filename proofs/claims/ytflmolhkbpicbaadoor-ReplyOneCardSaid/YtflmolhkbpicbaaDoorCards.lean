/-
  DERIVED. GIVEN WITH THE SEED: THE CARDS: each row of YtflmolhkbpicbaaDoorRows.lean that lists a variable, with what it lists TIED to the program's text (the seventh form; the later family's looks); each row that meets fmt, with fmt's text TOLD by the authors' own Lean function (tested against real Go, not proved from fmt's source: count such statements apart). THE CARD IS WHAT COUNTS. Prove the row's statement (the work); the ties are given (YtflmolhkbpicbaaDoorTie.lean); close each card by the builder's one call (the guide's Derived/Test/ToyasCard.lean, 'card_holds'). Laid BY PROGRAM, IN A SANDBOX (cutbox-door.mjs). By AI agents, Wed Nov 11 2026. No macro, syntax, notation, axiom, sorry.
-/
import Derived.Test.YtflmolhkbpicbaaDoorRows
import GoSem.ClaimSeven
namespace Go.Proofs.YtflmolhkbpicbaaDoor
namespace Rows

/-- THE TIED CARD OF 'tapsterlaw17.ReplyEncodes'. -/
def replyEncodesCard : Claim7 := { stood := { row := replyEncodesRow, standIns := [], harness := (true, "350409e3f67d10736e380436d1c862569b31e957313238391987675430a19dd5"), looks := false }, kinds := [], alts := [], laidByText := true, laidKinds := [.data, .pinned], laidTests := true, laidLooks := .later }
def ReplyEncodesCardSaid : Prop := Claim7.holds Tryd.pinned (.plain (OpenSpec.ofChange replyEncodesSpec)) replyEncodesCard

/-- THE TIED CARD OF 'tapsterlaw17.ReplyDecodes'. -/
def replyDecodesCard : Claim7 := { stood := { row := replyDecodesRow, standIns := [], harness := (true, "350409e3f67d10736e380436d1c862569b31e957313238391987675430a19dd5"), looks := false }, kinds := [], alts := [], laidByText := true, laidKinds := [.data, .pinned], laidTests := true, laidLooks := .later }
def ReplyDecodesCardSaid : Prop := Claim7.holds Tryd.pinned (.plain (OpenSpec.ofChange replyDecodesSpec)) replyDecodesCard

/-- THE TIED CARD OF 'tapsterlaw17.ReplyBack'. -/
def replyBackCard : Claim7 := { stood := { row := replyBackRow, standIns := [], harness := (true, "350409e3f67d10736e380436d1c862569b31e957313238391987675430a19dd5"), looks := false }, kinds := [], alts := [], laidByText := true, laidKinds := [.data, .pinned], laidTests := true, laidLooks := .later }
def ReplyBackCardSaid : Prop := Claim7.holds Tryd.pinned (.plain (OpenSpec.ofChange replyBackSpec)) replyBackCard

/-- THE TIED CARD OF 'tapsterlaw17.ReplyOne'. -/
def replyOneCard : Claim7 := { stood := { row := replyOneRow, standIns := [], harness := (true, "350409e3f67d10736e380436d1c862569b31e957313238391987675430a19dd5"), looks := false }, kinds := [], alts := [], laidByText := true, laidKinds := [.data, .pinned], laidTests := true, laidLooks := .later }
def ReplyOneCardSaid : Prop := Claim7.holds Tryd.pinned (.plain (OpenSpec.ofChange replyOneSpec)) replyOneCard

/-- THE TIED CARD OF 'tapsterlaw17.ReplyPlain'. -/
def replyPlainCard : Claim7 := { stood := { row := replyPlainRow, standIns := [], harness := (true, "350409e3f67d10736e380436d1c862569b31e957313238391987675430a19dd5"), looks := false }, kinds := [], alts := [], laidByText := true, laidKinds := [.data, .pinned], laidTests := true, laidLooks := .later }
def ReplyPlainCardSaid : Prop := Claim7.holds Tryd.pinned (.plain (OpenSpec.ofChange replyPlainSpec)) replyPlainCard

/-- THE TIED CARD OF 'tapsterlaw17.ReplyJoins'. -/
def replyJoinsCard : Claim7 := { stood := { row := replyJoinsRow, standIns := [], harness := (true, "350409e3f67d10736e380436d1c862569b31e957313238391987675430a19dd5"), looks := false }, kinds := [], alts := [], laidByText := true, laidKinds := [.data, .pinned], laidTests := true, laidLooks := .later }
def ReplyJoinsCardSaid : Prop := Claim7.holds Tryd.pinned (.plain (OpenSpec.ofChange replyJoinsSpec)) replyJoinsCard

/-- THE SECOND FORM's CARD OF 'tapsterlaw17.ReplyEncodes'. -/
def replyEncodesUptoCard : Claim7 := { stood := { row := replyEncodesUptoRow, standIns := [], harness := (true, "350409e3f67d10736e380436d1c862569b31e957313238391987675430a19dd5"), looks := false }, kinds := [], alts := [], laidByText := true, laidKinds := [.data, .pinned], laidTests := true, laidLooks := .later }
def ReplyEncodesUptoCardSaid : Prop := Claim7.holds Tryd.pinned (.plain (OpenSpec.upto replyEncodesSpec)) replyEncodesUptoCard

/-- THE SECOND FORM's CARD OF 'tapsterlaw17.ReplyDecodes'. -/
def replyDecodesUptoCard : Claim7 := { stood := { row := replyDecodesUptoRow, standIns := [], harness := (true, "350409e3f67d10736e380436d1c862569b31e957313238391987675430a19dd5"), looks := false }, kinds := [], alts := [], laidByText := true, laidKinds := [.data, .pinned], laidTests := true, laidLooks := .later }
def ReplyDecodesUptoCardSaid : Prop := Claim7.holds Tryd.pinned (.plain (OpenSpec.upto replyDecodesSpec)) replyDecodesUptoCard

/-- THE SECOND FORM's CARD OF 'tapsterlaw17.ReplyBack'. -/
def replyBackUptoCard : Claim7 := { stood := { row := replyBackUptoRow, standIns := [], harness := (true, "350409e3f67d10736e380436d1c862569b31e957313238391987675430a19dd5"), looks := false }, kinds := [], alts := [], laidByText := true, laidKinds := [.data, .pinned], laidTests := true, laidLooks := .later }
def ReplyBackUptoCardSaid : Prop := Claim7.holds Tryd.pinned (.plain (OpenSpec.upto replyBackSpec)) replyBackUptoCard

/-- THE SECOND FORM's CARD OF 'tapsterlaw17.ReplyOne'. -/
def replyOneUptoCard : Claim7 := { stood := { row := replyOneUptoRow, standIns := [], harness := (true, "350409e3f67d10736e380436d1c862569b31e957313238391987675430a19dd5"), looks := false }, kinds := [], alts := [], laidByText := true, laidKinds := [.data, .pinned], laidTests := true, laidLooks := .later }
def ReplyOneUptoCardSaid : Prop := Claim7.holds Tryd.pinned (.plain (OpenSpec.upto replyOneSpec)) replyOneUptoCard

/-- THE SECOND FORM's CARD OF 'tapsterlaw17.ReplyPlain'. -/
def replyPlainUptoCard : Claim7 := { stood := { row := replyPlainUptoRow, standIns := [], harness := (true, "350409e3f67d10736e380436d1c862569b31e957313238391987675430a19dd5"), looks := false }, kinds := [], alts := [], laidByText := true, laidKinds := [.data, .pinned], laidTests := true, laidLooks := .later }
def ReplyPlainUptoCardSaid : Prop := Claim7.holds Tryd.pinned (.plain (OpenSpec.upto replyPlainSpec)) replyPlainUptoCard

/-- THE SECOND FORM's CARD OF 'tapsterlaw17.ReplyJoins'. -/
def replyJoinsUptoCard : Claim7 := { stood := { row := replyJoinsUptoRow, standIns := [], harness := (true, "350409e3f67d10736e380436d1c862569b31e957313238391987675430a19dd5"), looks := false }, kinds := [], alts := [], laidByText := true, laidKinds := [.data, .pinned], laidTests := true, laidLooks := .later }
def ReplyJoinsUptoCardSaid : Prop := Claim7.holds Tryd.pinned (.plain (OpenSpec.upto replyJoinsSpec)) replyJoinsUptoCard
end Rows
end Go.Proofs.YtflmolhkbpicbaaDoor
