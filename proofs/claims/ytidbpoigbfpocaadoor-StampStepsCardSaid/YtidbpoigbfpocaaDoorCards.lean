/-
  DERIVED. GIVEN WITH THE SEED: THE CARDS: each row of YtidbpoigbfpocaaDoorRows.lean that lists a variable, with what it lists TIED to the program's text (the seventh form; the later family's looks); each row that meets fmt, with fmt's text TOLD by the authors' own Lean function (tested against real Go, not proved from fmt's source: count such statements apart). THE CARD IS WHAT COUNTS. Prove the row's statement (the work); the ties are given (YtidbpoigbfpocaaDoorTie.lean); close each card by the builder's one call (the guide's Derived/Test/ToyasCard.lean, 'card_holds'). Laid BY PROGRAM, IN A SANDBOX (cutbox-door.mjs). By AI agents, Wed Nov 11 2026. No macro, syntax, notation, axiom, sorry.
-/
import Derived.Test.YtidbpoigbfpocaaDoorRows
import GoSem.ClaimSeven
namespace Go.Proofs.YtidbpoigbfpocaaDoor
namespace Rows

/-- THE TIED CARD OF 'gristlaw05.StampEncodes'. -/
def stampEncodesCard : Claim7 := { stood := { row := stampEncodesRow, standIns := [], harness := (true, "763f65a0596a38c03096aefd79577f9b674fc894d57db498e9cff1a8a487e360"), looks := false }, kinds := [], alts := [], laidByText := true, laidKinds := [.data], laidTests := true, laidLooks := .later }
def StampEncodesCardSaid : Prop := Claim7.holds Tryd.pinned (.plain (OpenSpec.ofChange stampEncodesSpec)) stampEncodesCard

/-- THE TIED CARD OF 'gristlaw05.StampDecodes'. -/
def stampDecodesCard : Claim7 := { stood := { row := stampDecodesRow, standIns := [], harness := (true, "763f65a0596a38c03096aefd79577f9b674fc894d57db498e9cff1a8a487e360"), looks := false }, kinds := [], alts := [], laidByText := true, laidKinds := [.data], laidTests := true, laidLooks := .later }
def StampDecodesCardSaid : Prop := Claim7.holds Tryd.pinned (.plain (OpenSpec.ofChange stampDecodesSpec)) stampDecodesCard

/-- THE TIED CARD OF 'gristlaw05.StampBack'. -/
def stampBackCard : Claim7 := { stood := { row := stampBackRow, standIns := [], harness := (true, "763f65a0596a38c03096aefd79577f9b674fc894d57db498e9cff1a8a487e360"), looks := false }, kinds := [], alts := [], laidByText := true, laidKinds := [.data], laidTests := true, laidLooks := .later }
def StampBackCardSaid : Prop := Claim7.holds Tryd.pinned (.plain (OpenSpec.ofChange stampBackSpec)) stampBackCard

/-- THE TIED CARD OF 'gristlaw05.StampSteps'. -/
def stampStepsCard : Claim7 := { stood := { row := stampStepsRow, standIns := [], harness := (true, "763f65a0596a38c03096aefd79577f9b674fc894d57db498e9cff1a8a487e360"), looks := false }, kinds := [], alts := [], laidByText := true, laidKinds := [.data], laidTests := true, laidLooks := .later }
def StampStepsCardSaid : Prop := Claim7.holds Tryd.pinned (.plain (OpenSpec.ofChange stampStepsSpec)) stampStepsCard

/-- THE TIED CARD OF 'gristlaw05.StampLimits'. -/
def stampLimitsCard : Claim7 := { stood := { row := stampLimitsRow, standIns := [], harness := (true, "763f65a0596a38c03096aefd79577f9b674fc894d57db498e9cff1a8a487e360"), looks := false }, kinds := [], alts := [], laidByText := true, laidKinds := [.data], laidTests := true, laidLooks := .later }
def StampLimitsCardSaid : Prop := Claim7.holds Tryd.pinned (.plain (OpenSpec.ofChange stampLimitsSpec)) stampLimitsCard

/-- THE SECOND FORM's CARD OF 'gristlaw05.StampEncodes'. -/
def stampEncodesUptoCard : Claim7 := { stood := { row := stampEncodesUptoRow, standIns := [], harness := (true, "763f65a0596a38c03096aefd79577f9b674fc894d57db498e9cff1a8a487e360"), looks := false }, kinds := [], alts := [], laidByText := true, laidKinds := [.data], laidTests := true, laidLooks := .later }
def StampEncodesUptoCardSaid : Prop := Claim7.holds Tryd.pinned (.plain (OpenSpec.upto stampEncodesSpec)) stampEncodesUptoCard

/-- THE SECOND FORM's CARD OF 'gristlaw05.StampDecodes'. -/
def stampDecodesUptoCard : Claim7 := { stood := { row := stampDecodesUptoRow, standIns := [], harness := (true, "763f65a0596a38c03096aefd79577f9b674fc894d57db498e9cff1a8a487e360"), looks := false }, kinds := [], alts := [], laidByText := true, laidKinds := [.data], laidTests := true, laidLooks := .later }
def StampDecodesUptoCardSaid : Prop := Claim7.holds Tryd.pinned (.plain (OpenSpec.upto stampDecodesSpec)) stampDecodesUptoCard

/-- THE SECOND FORM's CARD OF 'gristlaw05.StampBack'. -/
def stampBackUptoCard : Claim7 := { stood := { row := stampBackUptoRow, standIns := [], harness := (true, "763f65a0596a38c03096aefd79577f9b674fc894d57db498e9cff1a8a487e360"), looks := false }, kinds := [], alts := [], laidByText := true, laidKinds := [.data], laidTests := true, laidLooks := .later }
def StampBackUptoCardSaid : Prop := Claim7.holds Tryd.pinned (.plain (OpenSpec.upto stampBackSpec)) stampBackUptoCard

/-- THE SECOND FORM's CARD OF 'gristlaw05.StampSteps'. -/
def stampStepsUptoCard : Claim7 := { stood := { row := stampStepsUptoRow, standIns := [], harness := (true, "763f65a0596a38c03096aefd79577f9b674fc894d57db498e9cff1a8a487e360"), looks := false }, kinds := [], alts := [], laidByText := true, laidKinds := [.data], laidTests := true, laidLooks := .later }
def StampStepsUptoCardSaid : Prop := Claim7.holds Tryd.pinned (.plain (OpenSpec.upto stampStepsSpec)) stampStepsUptoCard

/-- THE SECOND FORM's CARD OF 'gristlaw05.StampLimits'. -/
def stampLimitsUptoCard : Claim7 := { stood := { row := stampLimitsUptoRow, standIns := [], harness := (true, "763f65a0596a38c03096aefd79577f9b674fc894d57db498e9cff1a8a487e360"), looks := false }, kinds := [], alts := [], laidByText := true, laidKinds := [.data], laidTests := true, laidLooks := .later }
def StampLimitsUptoCardSaid : Prop := Claim7.holds Tryd.pinned (.plain (OpenSpec.upto stampLimitsSpec)) stampLimitsUptoCard
end Rows
end Go.Proofs.YtidbpoigbfpocaaDoor
