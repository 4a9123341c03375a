/-
  DERIVED. GIVEN WITH THE SEED: THE CARDS: each row of YtdaknlmnelfedaaGreatDoorRows.lean that lists a variable, with what it lists TIED to the program's text (the seventh form; the later family's looks); each row that meets fmt, with fmt's text TOLD by the authors' own Lean function (tested against real Go, not proved from fmt's source: count such statements apart). THE CARD IS WHAT COUNTS. Prove the row's statement (the work); the ties are given (YtdaknlmnelfedaaGreatDoorTie.lean); close each card by the builder's one call (the guide's Derived/Test/ToyasCard.lean, 'card_holds'). Laid BY PROGRAM, IN A SANDBOX (cutbox-door.mjs). By AI agents, Wed Nov 11 2026. No macro, syntax, notation, axiom, sorry.
-/
import Derived.Test.YtdaknlmnelfedaaGreatDoorRows
import GoSem.ClaimSeven
namespace Go.Proofs.YtdaknlmnelfedaaGreatDoor
namespace Rows

/-- THE TIED CARD OF 'gristlaw10.WalPlays'. -/
def walPlaysCard : Claim7 := { stood := { row := walPlaysRow, standIns := [], harness := (true, "deb9d42d4a497d006042ee9b18e0239d02bc90b5e52ea9974fd5df5f550efa79"), looks := true }, kinds := [], alts := [], laidByText := true, laidKinds := [.data, .data, .data, .sentinel, .sentinel], laidTests := true, laidLooks := .later }
def WalPlaysCardSaid : Prop := Claim7.holds Tryz.pinned (.plain (OpenSpec.ofChange walPlaysSpec)) walPlaysCard

/-- THE TIED CARD OF 'gristlaw10.WalAll'. -/
def walAllCard : Claim7 := { stood := { row := walAllRow, standIns := [], harness := (true, "deb9d42d4a497d006042ee9b18e0239d02bc90b5e52ea9974fd5df5f550efa79"), looks := true }, kinds := [], alts := [], laidByText := true, laidKinds := [.data, .data, .data, .sentinel, .sentinel], laidTests := true, laidLooks := .later }
def WalAllCardSaid : Prop := Claim7.holds Tryz.pinned (.plain (OpenSpec.ofChange walAllSpec)) walAllCard

/-- THE SECOND FORM's CARD OF 'gristlaw10.WalPlays'. -/
def walPlaysUptoCard : Claim7 := { stood := { row := walPlaysUptoRow, standIns := [], harness := (true, "deb9d42d4a497d006042ee9b18e0239d02bc90b5e52ea9974fd5df5f550efa79"), looks := true }, kinds := [], alts := [], laidByText := true, laidKinds := [.data, .data, .data, .sentinel, .sentinel], laidTests := true, laidLooks := .later }
def WalPlaysUptoCardSaid : Prop := Claim7.holds Tryz.pinned (.plain (OpenSpec.upto walPlaysSpec)) walPlaysUptoCard

/-- THE SECOND FORM's CARD OF 'gristlaw10.WalAll'. -/
def walAllUptoCard : Claim7 := { stood := { row := walAllUptoRow, standIns := [], harness := (true, "deb9d42d4a497d006042ee9b18e0239d02bc90b5e52ea9974fd5df5f550efa79"), looks := true }, kinds := [], alts := [], laidByText := true, laidKinds := [.data, .data, .data, .sentinel, .sentinel], laidTests := true, laidLooks := .later }
def WalAllUptoCardSaid : Prop := Claim7.holds Tryz.pinned (.plain (OpenSpec.upto walAllSpec)) walAllUptoCard
end Rows
end Go.Proofs.YtdaknlmnelfedaaGreatDoor
