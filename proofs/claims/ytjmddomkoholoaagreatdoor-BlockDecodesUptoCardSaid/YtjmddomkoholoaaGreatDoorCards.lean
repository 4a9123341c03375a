/-
  DERIVED. GIVEN WITH THE SEED: THE CARDS: each row of YtjmddomkoholoaaGreatDoorRows.lean that lists a variable, with what it lists TIED to the program's text (the seventh form; the later family's looks); each row that meets fmt, with fmt's text TOLD by the authors' own Lean function (tested against real Go, not proved from fmt's source: count such statements apart). THE CARD IS WHAT COUNTS. Prove the row's statement (the work); the ties are given (YtjmddomkoholoaaGreatDoorTie.lean); close each card by the builder's one call (the guide's Derived/Test/ToyasCard.lean, 'card_holds'). Laid BY PROGRAM, IN A SANDBOX (cutbox-door.mjs). By AI agents, Wed Nov 11 2026. No macro, syntax, notation, axiom, sorry.
-/
import Derived.Test.YtjmddomkoholoaaGreatDoorRows
import GoSem.ClaimSeven
namespace Go.Proofs.YtjmddomkoholoaaGreatDoor
namespace Rows

/-- THE TIED CARD OF 'gristlaw08.BlockDecodes'. -/
def blockDecodesCard : Claim7 := { stood := { row := blockDecodesRow, standIns := [], harness := (true, "08ecf62b8d29301998b5a484783c53e2586fa23d1eb44f8b4102c565e80a7e44"), looks := false }, kinds := [], alts := [], laidByText := true, laidKinds := [.data, .data], laidTests := true, laidLooks := .later }
def BlockDecodesCardSaid : Prop := Claim7.holds Tryz.pinned (.plain (OpenSpec.ofChange blockDecodesSpec)) blockDecodesCard

/-- THE TIED CARD OF 'gristlaw12.FileFinds'. -/
def fileFindsCard : Claim7 := { stood := { row := fileFindsRow, standIns := [], harness := (true, "08ecf62b8d29301998b5a484783c53e2586fa23d1eb44f8b4102c565e80a7e44"), looks := false }, kinds := [], alts := [], laidByText := true, laidKinds := [.data, .data], laidTests := true, laidLooks := .later }
def FileFindsCardSaid : Prop := Claim7.holds Tryz.pinned (.plain (OpenSpec.ofChange fileFindsSpec)) fileFindsCard

/-- THE TIED CARD OF 'gristlaw12.FileBlocks'. -/
def fileBlocksCard : Claim7 := { stood := { row := fileBlocksRow, standIns := [], harness := (true, "08ecf62b8d29301998b5a484783c53e2586fa23d1eb44f8b4102c565e80a7e44"), looks := false }, kinds := [], alts := [], laidByText := true, laidKinds := [.data, .data], laidTests := true, laidLooks := .later }
def FileBlocksCardSaid : Prop := Claim7.holds Tryz.pinned (.plain (OpenSpec.ofChange fileBlocksSpec)) fileBlocksCard

/-- THE SECOND FORM's CARD OF 'gristlaw08.BlockDecodes'. -/
def blockDecodesUptoCard : Claim7 := { stood := { row := blockDecodesUptoRow, standIns := [], harness := (true, "08ecf62b8d29301998b5a484783c53e2586fa23d1eb44f8b4102c565e80a7e44"), looks := false }, kinds := [], alts := [], laidByText := true, laidKinds := [.data, .data], laidTests := true, laidLooks := .later }
def BlockDecodesUptoCardSaid : Prop := Claim7.holds Tryz.pinned (.plain (OpenSpec.upto blockDecodesSpec)) blockDecodesUptoCard

/-- THE SECOND FORM's CARD OF 'gristlaw12.FileFinds'. -/
def fileFindsUptoCard : Claim7 := { stood := { row := fileFindsUptoRow, standIns := [], harness := (true, "08ecf62b8d29301998b5a484783c53e2586fa23d1eb44f8b4102c565e80a7e44"), looks := false }, kinds := [], alts := [], laidByText := true, laidKinds := [.data, .data], laidTests := true, laidLooks := .later }
def FileFindsUptoCardSaid : Prop := Claim7.holds Tryz.pinned (.plain (OpenSpec.upto fileFindsSpec)) fileFindsUptoCard

/-- THE SECOND FORM's CARD OF 'gristlaw12.FileBlocks'. -/
def fileBlocksUptoCard : Claim7 := { stood := { row := fileBlocksUptoRow, standIns := [], harness := (true, "08ecf62b8d29301998b5a484783c53e2586fa23d1eb44f8b4102c565e80a7e44"), looks := false }, kinds := [], alts := [], laidByText := true, laidKinds := [.data, .data], laidTests := true, laidLooks := .later }
def FileBlocksUptoCardSaid : Prop := Claim7.holds Tryz.pinned (.plain (OpenSpec.upto fileBlocksSpec)) fileBlocksUptoCard
end Rows
end Go.Proofs.YtjmddomkoholoaaGreatDoor
