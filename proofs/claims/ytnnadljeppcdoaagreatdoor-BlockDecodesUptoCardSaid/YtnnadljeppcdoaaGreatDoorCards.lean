/-
  DERIVED. GIVEN WITH THE SEED: THE CARDS: each row of YtnnadljeppcdoaaGreatDoorRows.lean that lists a variable, with what it lists TIED to the program's text (the seventh form; the later family's looks); each row that meets fmt, with fmt's text TOLD by the authors' own Lean function (tested against real Go, not proved from fmt's source: count such statements apart). THE CARD IS WHAT COUNTS. Prove the row's statement (the work); the ties are given (YtnnadljeppcdoaaGreatDoorTie.lean); close each card by the builder's one call (the guide's Derived/Test/ToyasCard.lean, 'card_holds'). Laid BY PROGRAM, IN A SANDBOX (cutbox-door.mjs). By AI agents, Wed Nov 11 2026. No macro, syntax, notation, axiom, sorry.
-/
import Derived.Test.YtnnadljeppcdoaaGreatDoorRows
import GoSem.ClaimSeven
namespace Go.Proofs.YtnnadljeppcdoaaGreatDoor
namespace Rows

/-- THE TIED CARD OF 'gristlaw08.BlockDecodes'. -/
def blockDecodesCard : Claim7 := { stood := { row := blockDecodesRow, standIns := [], harness := (true, "eaff5d385b606bdbef54ae8a31895ae99e60b27018577000d6332a8f512da635"), looks := false }, kinds := [], alts := [], laidByText := true, laidKinds := [.data, .data], laidTests := true, laidLooks := .later }
def BlockDecodesCardSaid : Prop := Claim7.holds Tryz.pinned (.plain (OpenSpec.ofChange blockDecodesSpec)) blockDecodesCard

/-- THE SECOND FORM's CARD OF 'gristlaw08.BlockDecodes'. -/
def blockDecodesUptoCard : Claim7 := { stood := { row := blockDecodesUptoRow, standIns := [], harness := (true, "eaff5d385b606bdbef54ae8a31895ae99e60b27018577000d6332a8f512da635"), looks := false }, kinds := [], alts := [], laidByText := true, laidKinds := [.data, .data], laidTests := true, laidLooks := .later }
def BlockDecodesUptoCardSaid : Prop := Claim7.holds Tryz.pinned (.plain (OpenSpec.upto blockDecodesSpec)) blockDecodesUptoCard
end Rows
end Go.Proofs.YtnnadljeppcdoaaGreatDoor
