/-
  DERIVED. GIVEN WITH THE SEED: THE CARDS: each row of YtmdhoeogibkobaaDoorRows.lean that lists a variable, with what it lists TIED to the program's text (the seventh form; the later family's looks); each row that meets fmt, with fmt's text TOLD by the authors' own Lean function (tested against real Go, not proved from fmt's source: count such statements apart). THE CARD IS WHAT COUNTS. Prove the row's statement (the work); the ties are given (YtmdhoeogibkobaaDoorTie.lean); close each card by the builder's one call (the guide's Derived/Test/ToyasCard.lean, 'card_holds'). Laid BY PROGRAM, IN A SANDBOX (cutbox-door.mjs). By AI agents, Wed Nov 11 2026. No macro, syntax, notation, axiom, sorry.
-/
import Derived.Test.YtmdhoeogibkobaaDoorRows
import GoSem.ClaimSeven
namespace Go.Proofs.YtmdhoeogibkobaaDoor
namespace Rows

/-- THE TIED CARD OF 'gatepostlaw01.ShaOf'. -/
def shaOfCard : Claim7 := { stood := { row := shaOfRow, standIns := [], harness := (true, "3dceaad454a72f1cf0211552876eb60328ad8a60f24d15fdf175e2239ff2dade"), looks := false }, kinds := [], alts := [], laidByText := true, laidKinds := [.data], laidTests := true, laidLooks := .later }
def ShaOfCardSaid : Prop := Claim7.holds Tryd.pinned (.plain (OpenSpec.ofChange shaOfSpec)) shaOfCard

/-- THE TIED CARD OF 'gatepostlaw01.ShaStreams'. -/
def shaStreamsCard : Claim7 := { stood := { row := shaStreamsRow, standIns := [], harness := (true, "3dceaad454a72f1cf0211552876eb60328ad8a60f24d15fdf175e2239ff2dade"), looks := false }, kinds := [], alts := [], laidByText := true, laidKinds := [.data], laidTests := true, laidLooks := .later }
def ShaStreamsCardSaid : Prop := Claim7.holds Tryd.pinned (.plain (OpenSpec.ofChange shaStreamsSpec)) shaStreamsCard

/-- THE TIED CARD OF 'gatepostlaw01.ShaCuts'. -/
def shaCutsCard : Claim7 := { stood := { row := shaCutsRow, standIns := [], harness := (true, "3dceaad454a72f1cf0211552876eb60328ad8a60f24d15fdf175e2239ff2dade"), looks := false }, kinds := [], alts := [], laidByText := true, laidKinds := [.data], laidTests := true, laidLooks := .later }
def ShaCutsCardSaid : Prop := Claim7.holds Tryd.pinned (.plain (OpenSpec.ofChange shaCutsSpec)) shaCutsCard

/-- THE TIED CARD OF 'gatepostlaw01.ShaLinks'. -/
def shaLinksCard : Claim7 := { stood := { row := shaLinksRow, standIns := [], harness := (true, "3dceaad454a72f1cf0211552876eb60328ad8a60f24d15fdf175e2239ff2dade"), looks := false }, kinds := [], alts := [], laidByText := true, laidKinds := [.data], laidTests := true, laidLooks := .later }
def ShaLinksCardSaid : Prop := Claim7.holds Tryd.pinned (.plain (OpenSpec.ofChange shaLinksSpec)) shaLinksCard

/-- THE TIED CARD OF 'gatepostlaw01.ShaOwn'. -/
def shaOwnCard : Claim7 := { stood := { row := shaOwnRow, standIns := [], harness := (true, "3dceaad454a72f1cf0211552876eb60328ad8a60f24d15fdf175e2239ff2dade"), looks := false }, kinds := [], alts := [], laidByText := true, laidKinds := [.data], laidTests := true, laidLooks := .later }
def ShaOwnCardSaid : Prop := Claim7.holds Tryd.pinned (.plain (OpenSpec.ofChange shaOwnSpec)) shaOwnCard

/-- THE SECOND FORM's CARD OF 'gatepostlaw01.ShaOf'. -/
def shaOfUptoCard : Claim7 := { stood := { row := shaOfUptoRow, standIns := [], harness := (true, "3dceaad454a72f1cf0211552876eb60328ad8a60f24d15fdf175e2239ff2dade"), looks := false }, kinds := [], alts := [], laidByText := true, laidKinds := [.data], laidTests := true, laidLooks := .later }
def ShaOfUptoCardSaid : Prop := Claim7.holds Tryd.pinned (.plain (OpenSpec.upto shaOfSpec)) shaOfUptoCard

/-- THE SECOND FORM's CARD OF 'gatepostlaw01.ShaStreams'. -/
def shaStreamsUptoCard : Claim7 := { stood := { row := shaStreamsUptoRow, standIns := [], harness := (true, "3dceaad454a72f1cf0211552876eb60328ad8a60f24d15fdf175e2239ff2dade"), looks := false }, kinds := [], alts := [], laidByText := true, laidKinds := [.data], laidTests := true, laidLooks := .later }
def ShaStreamsUptoCardSaid : Prop := Claim7.holds Tryd.pinned (.plain (OpenSpec.upto shaStreamsSpec)) shaStreamsUptoCard

/-- THE SECOND FORM's CARD OF 'gatepostlaw01.ShaCuts'. -/
def shaCutsUptoCard : Claim7 := { stood := { row := shaCutsUptoRow, standIns := [], harness := (true, "3dceaad454a72f1cf0211552876eb60328ad8a60f24d15fdf175e2239ff2dade"), looks := false }, kinds := [], alts := [], laidByText := true, laidKinds := [.data], laidTests := true, laidLooks := .later }
def ShaCutsUptoCardSaid : Prop := Claim7.holds Tryd.pinned (.plain (OpenSpec.upto shaCutsSpec)) shaCutsUptoCard

/-- THE SECOND FORM's CARD OF 'gatepostlaw01.ShaLinks'. -/
def shaLinksUptoCard : Claim7 := { stood := { row := shaLinksUptoRow, standIns := [], harness := (true, "3dceaad454a72f1cf0211552876eb60328ad8a60f24d15fdf175e2239ff2dade"), looks := false }, kinds := [], alts := [], laidByText := true, laidKinds := [.data], laidTests := true, laidLooks := .later }
def ShaLinksUptoCardSaid : Prop := Claim7.holds Tryd.pinned (.plain (OpenSpec.upto shaLinksSpec)) shaLinksUptoCard

/-- THE SECOND FORM's CARD OF 'gatepostlaw01.ShaOwn'. -/
def shaOwnUptoCard : Claim7 := { stood := { row := shaOwnUptoRow, standIns := [], harness := (true, "3dceaad454a72f1cf0211552876eb60328ad8a60f24d15fdf175e2239ff2dade"), looks := false }, kinds := [], alts := [], laidByText := true, laidKinds := [.data], laidTests := true, laidLooks := .later }
def ShaOwnUptoCardSaid : Prop := Claim7.holds Tryd.pinned (.plain (OpenSpec.upto shaOwnSpec)) shaOwnUptoCard
end Rows
end Go.Proofs.YtmdhoeogibkobaaDoor
