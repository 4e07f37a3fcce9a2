/-
  DERIVED. GIVEN WITH THE SEED: THE CARDS: each row of YtllgodaphoncnaaGreatDoorRows.lean that lists a variable, with what it lists TIED to the program's text (the seventh form; the later family's looks); each row that meets fmt, with fmt's text TOLD by the authors' own Lean function (tested against real Go, not proved from fmt's source: count such statements apart). THE CARD IS WHAT COUNTS. Prove the row's statement (the work); the ties are given (YtllgodaphoncnaaGreatDoorTie.lean); close each card by the builder's one call (the guide's Derived/Test/ToyasCard.lean, 'card_holds'). Laid BY PROGRAM, IN A SANDBOX (cutbox-door.mjs). By AI agents, Wed Nov 11 2026. No macro, syntax, notation, axiom, sorry.
-/
import Derived.Test.YtllgodaphoncnaaGreatDoorRows
import GoSem.ClaimSeven
namespace Go.Proofs.YtllgodaphoncnaaGreatDoor
namespace Rows

/-- THE TIED CARD OF 'gatepostlaw08.SyntaxExprs'. -/
def syntaxExprsCard : Claim7 := { stood := { row := syntaxExprsRow, standIns := [], harness := (true, "b176b3243159d69f03a00f85094165a8a84e3fe04246b76bb0b9f4d3e37d1e9c"), looks := true }, kinds := [], alts := [], laidByText := true, laidKinds := [.data, .data, .data, .data, .sentinel, .sentinel, .data, .pinned], laidTests := true, laidLooks := .later }
def SyntaxExprsCardSaid : Prop := Claim7.holds Tryz.pinned (.plain (OpenSpec.ofChange syntaxExprsSpec)) syntaxExprsCard

/-- THE TIED CARD OF 'gatepostlaw08.SyntaxReads'. -/
def syntaxReadsCard : Claim7 := { stood := { row := syntaxReadsRow, standIns := [], harness := (true, "b176b3243159d69f03a00f85094165a8a84e3fe04246b76bb0b9f4d3e37d1e9c"), looks := true }, kinds := [], alts := [], laidByText := true, laidKinds := [.data, .data, .data, .data, .sentinel, .sentinel, .data, .pinned], laidTests := true, laidLooks := .later }
def SyntaxReadsCardSaid : Prop := Claim7.holds Tryz.pinned (.plain (OpenSpec.ofChange syntaxReadsSpec)) syntaxReadsCard

/-- THE TIED CARD OF 'gatepostlaw08.SyntaxFirst'. -/
def syntaxFirstCard : Claim7 := { stood := { row := syntaxFirstRow, standIns := [], harness := (true, "b176b3243159d69f03a00f85094165a8a84e3fe04246b76bb0b9f4d3e37d1e9c"), looks := true }, kinds := [], alts := [], laidByText := true, laidKinds := [.data, .data, .data, .data, .sentinel, .sentinel, .data, .pinned], laidTests := true, laidLooks := .later }
def SyntaxFirstCardSaid : Prop := Claim7.holds Tryz.pinned (.plain (OpenSpec.ofChange syntaxFirstSpec)) syntaxFirstCard

/-- THE TIED CARD OF 'gatepostlaw08.SyntaxDocs'. -/
def syntaxDocsCard : Claim7 := { stood := { row := syntaxDocsRow, standIns := [], harness := (true, "b176b3243159d69f03a00f85094165a8a84e3fe04246b76bb0b9f4d3e37d1e9c"), looks := true }, kinds := [], alts := [], laidByText := true, laidKinds := [.data, .data, .data, .data, .sentinel, .sentinel, .data, .pinned], laidTests := true, laidLooks := .later }
def SyntaxDocsCardSaid : Prop := Claim7.holds Tryz.pinned (.plain (OpenSpec.ofChange syntaxDocsSpec)) syntaxDocsCard

/-- THE TIED CARD OF 'gatepostlaw08.SyntaxBent'. -/
def syntaxBentCard : Claim7 := { stood := { row := syntaxBentRow, standIns := [], harness := (true, "b176b3243159d69f03a00f85094165a8a84e3fe04246b76bb0b9f4d3e37d1e9c"), looks := true }, kinds := [], alts := [], laidByText := true, laidKinds := [.data, .data, .data, .data, .sentinel, .sentinel, .data, .pinned], laidTests := true, laidLooks := .later }
def SyntaxBentCardSaid : Prop := Claim7.holds Tryz.pinned (.plain (OpenSpec.ofChange syntaxBentSpec)) syntaxBentCard

/-- THE TIED CARD OF 'gatepostlaw08.SyntaxKept'. -/
def syntaxKeptCard : Claim7 := { stood := { row := syntaxKeptRow, standIns := [], harness := (true, "b176b3243159d69f03a00f85094165a8a84e3fe04246b76bb0b9f4d3e37d1e9c"), looks := true }, kinds := [], alts := [], laidByText := true, laidKinds := [.data, .data, .data, .data, .sentinel, .sentinel, .data, .pinned], laidTests := true, laidLooks := .later }
def SyntaxKeptCardSaid : Prop := Claim7.holds Tryz.pinned (.plain (OpenSpec.ofChange syntaxKeptSpec)) syntaxKeptCard

/-- THE SECOND FORM's CARD OF 'gatepostlaw08.SyntaxExprs'. -/
def syntaxExprsUptoCard : Claim7 := { stood := { row := syntaxExprsUptoRow, standIns := [], harness := (true, "b176b3243159d69f03a00f85094165a8a84e3fe04246b76bb0b9f4d3e37d1e9c"), looks := true }, kinds := [], alts := [], laidByText := true, laidKinds := [.data, .data, .data, .data, .sentinel, .sentinel, .data, .pinned], laidTests := true, laidLooks := .later }
def SyntaxExprsUptoCardSaid : Prop := Claim7.holds Tryz.pinned (.plain (OpenSpec.upto syntaxExprsSpec)) syntaxExprsUptoCard

/-- THE SECOND FORM's CARD OF 'gatepostlaw08.SyntaxReads'. -/
def syntaxReadsUptoCard : Claim7 := { stood := { row := syntaxReadsUptoRow, standIns := [], harness := (true, "b176b3243159d69f03a00f85094165a8a84e3fe04246b76bb0b9f4d3e37d1e9c"), looks := true }, kinds := [], alts := [], laidByText := true, laidKinds := [.data, .data, .data, .data, .sentinel, .sentinel, .data, .pinned], laidTests := true, laidLooks := .later }
def SyntaxReadsUptoCardSaid : Prop := Claim7.holds Tryz.pinned (.plain (OpenSpec.upto syntaxReadsSpec)) syntaxReadsUptoCard

/-- THE SECOND FORM's CARD OF 'gatepostlaw08.SyntaxFirst'. -/
def syntaxFirstUptoCard : Claim7 := { stood := { row := syntaxFirstUptoRow, standIns := [], harness := (true, "b176b3243159d69f03a00f85094165a8a84e3fe04246b76bb0b9f4d3e37d1e9c"), looks := true }, kinds := [], alts := [], laidByText := true, laidKinds := [.data, .data, .data, .data, .sentinel, .sentinel, .data, .pinned], laidTests := true, laidLooks := .later }
def SyntaxFirstUptoCardSaid : Prop := Claim7.holds Tryz.pinned (.plain (OpenSpec.upto syntaxFirstSpec)) syntaxFirstUptoCard

/-- THE SECOND FORM's CARD OF 'gatepostlaw08.SyntaxDocs'. -/
def syntaxDocsUptoCard : Claim7 := { stood := { row := syntaxDocsUptoRow, standIns := [], harness := (true, "b176b3243159d69f03a00f85094165a8a84e3fe04246b76bb0b9f4d3e37d1e9c"), looks := true }, kinds := [], alts := [], laidByText := true, laidKinds := [.data, .data, .data, .data, .sentinel, .sentinel, .data, .pinned], laidTests := true, laidLooks := .later }
def SyntaxDocsUptoCardSaid : Prop := Claim7.holds Tryz.pinned (.plain (OpenSpec.upto syntaxDocsSpec)) syntaxDocsUptoCard

/-- THE SECOND FORM's CARD OF 'gatepostlaw08.SyntaxBent'. -/
def syntaxBentUptoCard : Claim7 := { stood := { row := syntaxBentUptoRow, standIns := [], harness := (true, "b176b3243159d69f03a00f85094165a8a84e3fe04246b76bb0b9f4d3e37d1e9c"), looks := true }, kinds := [], alts := [], laidByText := true, laidKinds := [.data, .data, .data, .data, .sentinel, .sentinel, .data, .pinned], laidTests := true, laidLooks := .later }
def SyntaxBentUptoCardSaid : Prop := Claim7.holds Tryz.pinned (.plain (OpenSpec.upto syntaxBentSpec)) syntaxBentUptoCard

/-- THE SECOND FORM's CARD OF 'gatepostlaw08.SyntaxKept'. -/
def syntaxKeptUptoCard : Claim7 := { stood := { row := syntaxKeptUptoRow, standIns := [], harness := (true, "b176b3243159d69f03a00f85094165a8a84e3fe04246b76bb0b9f4d3e37d1e9c"), looks := true }, kinds := [], alts := [], laidByText := true, laidKinds := [.data, .data, .data, .data, .sentinel, .sentinel, .data, .pinned], laidTests := true, laidLooks := .later }
def SyntaxKeptUptoCardSaid : Prop := Claim7.holds Tryz.pinned (.plain (OpenSpec.upto syntaxKeptSpec)) syntaxKeptUptoCard
end Rows
end Go.Proofs.YtllgodaphoncnaaGreatDoor
