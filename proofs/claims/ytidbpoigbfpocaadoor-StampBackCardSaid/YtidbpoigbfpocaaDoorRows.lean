/-
  NARROWER THAN 'FOR EVERY INPUT', by the rows' own cells (each row's printed sentence says how): StampEncodes: laid · StampDecodes: laid · StampBack: laid · StampSteps: laid · StampLimits: laid.
  DERIVED. THE GIVEN ROWS OF THIS SEAT. 5 by the template 'for every input the law returns true; each argument reads behind the call as it read before'; 0 by the template 'total and deterministic' (their statements: YtidbpoigbfpocaaDoorTotals.lean).
  GIVEN WITH THE SEED: the statements are not yours to turn. If you find one false, say at which input.
  Laid BY PROGRAM, IN A SANDBOX (cutbox-rows.mjs): the forced cells as the released guide's own fill.sh prints them over the translation 2fe152b4753d94db… (all of the seat's roots in one cut). By AI agents, Wed Nov 11 2026. No macro, syntax, notation, axiom, sorry.
-/
import Derived.Test.YtidbpoigbfpocaaDoorChecked
import GoSem.Claim
import GoSem.ClaimJoined
import GoSem.ClaimMapViews
import Derived.JoinedTies
import Derived.KernelRfl
namespace Go.Proofs.YtidbpoigbfpocaaDoor
/- THE CELL 'sum', in the pinned program and in every row, IS THE sha256 OF THE DUMP (.gsa) THAT YtidbpoigbfpocaaDoorProg.lean LOADS. Nothing in Lean hashes anything: it is a label: what it is worth is what the hold of that sum in a sandbox is worth. -/
noncomputable def Tryd.pinned : Pinned := { name := "ytidbpoigbfpocaadoor", sum := "2fe152b4753d94db9c94553c8aaf85ed95a9582036c9204acbf671155cef045d", checked := Tryd.checked }
namespace Rows
def none {H : Type} : Left H := { results := [], args := [] }

/- WHAT THE LISTED PACKAGE-LEVEL VARIABLES READ AS WHEN THE CALL BEGINS. Each datum BY PROGRAM (the guide's laid-datum.mjs) off the statement by which the dump's own 'gosem.cut.vars' lays the variable. In a bare row this is a premise. The card (YtidbpoigbfpocaaDoorCards.lean) ties it to the program's text. -/
def laid_grist_pack_widths {H : Type} : DataW H := .agg [.lit (.int .i64 1), .lit (.int .i64 2), .lit (.int .i64 3), .lit (.int .i64 4), .lit (.int .i64 5), .lit (.int .i64 6), .lit (.int .i64 7), .lit (.int .i64 8), .lit (.int .i64 10), .lit (.int .i64 12), .lit (.int .i64 15), .lit (.int .i64 20), .lit (.int .i64 30), .lit (.int .i64 60)]

/-- 'gristlaw05.StampEncodes': WHATEVER THE INPUT: true; the input reads as it did. -/
def stampEncodesSpec : ChangeSpec := { name := "stampEncodes", fn := fun _ => fun
  | [d] => { results := [.lit (.bool true)], args := [d] }
  | _ => none }
def stampEncodesRow : OpenClaim := { program := "ytidbpoigbfpocaadoor", sum := "2fe152b4753d94db9c94553c8aaf85ed95a9582036c9204acbf671155cef045d", func := "grist/gristlaw05.StampEncodes", spec := "stampEncodes", named := ["grist/pack.widths"], apart := false, laid := [("grist/pack.widths", laid_grist_pack_widths)] }
def StampEncodesSaid : Prop := stampEncodesRow.holds Tryd.pinned (OpenSpec.ofChange stampEncodesSpec)

/-- ITS FALSE NEIGHBOUR: 'it returns false'. Refute it at one input. -/
def stampEncodesWrong : ChangeSpec := { name := "stampEncodes", fn := fun _ => fun
  | [d] => { results := [.lit (.bool false)], args := [d] }
  | _ => none }
def StampEncodesWrongFalsely : Prop := stampEncodesRow.holds Tryd.pinned (OpenSpec.ofChange stampEncodesWrong)

/-- 'gristlaw05.StampDecodes': WHATEVER THE INPUT: true; the input reads as it did. -/
def stampDecodesSpec : ChangeSpec := { name := "stampDecodes", fn := fun _ => fun
  | [d] => { results := [.lit (.bool true)], args := [d] }
  | _ => none }
def stampDecodesRow : OpenClaim := { program := "ytidbpoigbfpocaadoor", sum := "2fe152b4753d94db9c94553c8aaf85ed95a9582036c9204acbf671155cef045d", func := "grist/gristlaw05.StampDecodes", spec := "stampDecodes", named := ["grist/pack.widths"], apart := false, laid := [("grist/pack.widths", laid_grist_pack_widths)] }
def StampDecodesSaid : Prop := stampDecodesRow.holds Tryd.pinned (OpenSpec.ofChange stampDecodesSpec)

/-- ITS FALSE NEIGHBOUR: 'it returns false'. Refute it at one input. -/
def stampDecodesWrong : ChangeSpec := { name := "stampDecodes", fn := fun _ => fun
  | [d] => { results := [.lit (.bool false)], args := [d] }
  | _ => none }
def StampDecodesWrongFalsely : Prop := stampDecodesRow.holds Tryd.pinned (OpenSpec.ofChange stampDecodesWrong)

/-- 'gristlaw05.StampBack': WHATEVER THE INPUT: true; the input reads as it did. -/
def stampBackSpec : ChangeSpec := { name := "stampBack", fn := fun _ => fun
  | [d1, d2, d3] => { results := [.lit (.bool true)], args := [d1, d2, d3] }
  | _ => none }
def stampBackRow : OpenClaim := { program := "ytidbpoigbfpocaadoor", sum := "2fe152b4753d94db9c94553c8aaf85ed95a9582036c9204acbf671155cef045d", func := "grist/gristlaw05.StampBack", spec := "stampBack", named := ["grist/pack.widths"], apart := false, laid := [("grist/pack.widths", laid_grist_pack_widths)] }
def StampBackSaid : Prop := stampBackRow.holds Tryd.pinned (OpenSpec.ofChange stampBackSpec)

/-- ITS FALSE NEIGHBOUR: 'it returns false'. Refute it at one input. -/
def stampBackWrong : ChangeSpec := { name := "stampBack", fn := fun _ => fun
  | [d1, d2, d3] => { results := [.lit (.bool false)], args := [d1, d2, d3] }
  | _ => none }
def StampBackWrongFalsely : Prop := stampBackRow.holds Tryd.pinned (OpenSpec.ofChange stampBackWrong)

/-- 'gristlaw05.StampSteps': WHATEVER THE INPUT: true; the input reads as it did. -/
def stampStepsSpec : ChangeSpec := { name := "stampSteps", fn := fun _ => fun
  | [d1, d2, d3] => { results := [.lit (.bool true)], args := [d1, d2, d3] }
  | _ => none }
def stampStepsRow : OpenClaim := { program := "ytidbpoigbfpocaadoor", sum := "2fe152b4753d94db9c94553c8aaf85ed95a9582036c9204acbf671155cef045d", func := "grist/gristlaw05.StampSteps", spec := "stampSteps", named := ["grist/pack.widths"], apart := false, laid := [("grist/pack.widths", laid_grist_pack_widths)] }
def StampStepsSaid : Prop := stampStepsRow.holds Tryd.pinned (OpenSpec.ofChange stampStepsSpec)

/-- ITS FALSE NEIGHBOUR: 'it returns false'. Refute it at one input. -/
def stampStepsWrong : ChangeSpec := { name := "stampSteps", fn := fun _ => fun
  | [d1, d2, d3] => { results := [.lit (.bool false)], args := [d1, d2, d3] }
  | _ => none }
def StampStepsWrongFalsely : Prop := stampStepsRow.holds Tryd.pinned (OpenSpec.ofChange stampStepsWrong)

/-- 'gristlaw05.StampLimits': WHATEVER THE INPUT: true; the input reads as it did. -/
def stampLimitsSpec : ChangeSpec := { name := "stampLimits", fn := fun _ => fun
  | [d1, d2] => { results := [.lit (.bool true)], args := [d1, d2] }
  | _ => none }
def stampLimitsRow : OpenClaim := { program := "ytidbpoigbfpocaadoor", sum := "2fe152b4753d94db9c94553c8aaf85ed95a9582036c9204acbf671155cef045d", func := "grist/gristlaw05.StampLimits", spec := "stampLimits", named := ["grist/pack.widths"], apart := false, laid := [("grist/pack.widths", laid_grist_pack_widths)] }
def StampLimitsSaid : Prop := stampLimitsRow.holds Tryd.pinned (OpenSpec.ofChange stampLimitsSpec)

/-- ITS FALSE NEIGHBOUR: 'it returns false'. Refute it at one input. -/
def stampLimitsWrong : ChangeSpec := { name := "stampLimits", fn := fun _ => fun
  | [d1, d2] => { results := [.lit (.bool false)], args := [d1, d2] }
  | _ => none }
def StampLimitsWrongFalsely : Prop := stampLimitsRow.holds Tryd.pinned (OpenSpec.ofChange stampLimitsWrong)

/- THE SECOND FORM. 'bulk': how many values and letters a reading holds, each counted each time it is reached (what is shared counts as often as it is met; a slice's spare places count too). A statement '..UptoSaid' is the law's where the arguments, and the package variables that the reading takes, are together of bulk at most 1048576: NARROWER than '..Said'. Prove '..Said' where nothing that the law and all that it calls make is longer than what came in: it says more and counts as full. Else prove '..UptoSaid'. A law counts once. -/
mutual
def uptoBulk {H : Type} : DataW H → Nat
  | .lit (.string bytes) => bytes.length + 1
  | .lit _ => 1
  | .nil => 1
  | .ptr d => uptoBulk d + 1
  | .slice elems spare => uptoBulkAll elems + uptoBulkAll spare + 1
  | .agg parts => uptoBulkAll parts + 1
  | .iface _ d => uptoBulk d + 1
  | .map entries => uptoBulkEntries entries + 1
  | .held _ => 1
def uptoBulkAll {H : Type} : List (DataW H) → Nat
  | [] => 0
  | d :: r => uptoBulk d + uptoBulkAll r
def uptoBulkEntries {H : Type} : List (Lit × DataW H) → Nat
  | [] => 0
  | x :: r => uptoBulkEntry x + uptoBulkEntries r
def uptoBulkEntry {H : Type} : Lit × DataW H → Nat
  | (.string bytes, d) => bytes.length + uptoBulk d + 1
  | (_, d) => uptoBulk d + 1
 end
def uptoSmall : (H : Type) → List (DataW H) → Bool := fun _ ds => decide (uptoBulkAll ds ≤ 1048576)
def OpenSpec.upto (s : _root_.Go.ChangeSpec) : _root_.Go.OpenSpec := { _root_.Go.OpenSpec.ofChange s with cond := some uptoSmall }

/-- 'gristlaw05.StampEncodes', WHERE WHAT IT READS IS OF BULK AT MOST 1048576: true; the input reads as it did. -/
def stampEncodesUptoRow : OpenClaim := { program := "ytidbpoigbfpocaadoor", sum := "2fe152b4753d94db9c94553c8aaf85ed95a9582036c9204acbf671155cef045d", func := "grist/gristlaw05.StampEncodes", spec := "stampEncodes", named := ["grist/pack.widths"], apart := false, laid := [("grist/pack.widths", laid_grist_pack_widths)], narrowed := true }
def StampEncodesUptoSaid : Prop := stampEncodesUptoRow.holds Tryd.pinned (OpenSpec.upto stampEncodesSpec)

/-- 'gristlaw05.StampDecodes', WHERE WHAT IT READS IS OF BULK AT MOST 1048576: true; the input reads as it did. -/
def stampDecodesUptoRow : OpenClaim := { program := "ytidbpoigbfpocaadoor", sum := "2fe152b4753d94db9c94553c8aaf85ed95a9582036c9204acbf671155cef045d", func := "grist/gristlaw05.StampDecodes", spec := "stampDecodes", named := ["grist/pack.widths"], apart := false, laid := [("grist/pack.widths", laid_grist_pack_widths)], narrowed := true }
def StampDecodesUptoSaid : Prop := stampDecodesUptoRow.holds Tryd.pinned (OpenSpec.upto stampDecodesSpec)

/-- 'gristlaw05.StampBack', WHERE WHAT IT READS IS OF BULK AT MOST 1048576: true; the input reads as it did. -/
def stampBackUptoRow : OpenClaim := { program := "ytidbpoigbfpocaadoor", sum := "2fe152b4753d94db9c94553c8aaf85ed95a9582036c9204acbf671155cef045d", func := "grist/gristlaw05.StampBack", spec := "stampBack", named := ["grist/pack.widths"], apart := false, laid := [("grist/pack.widths", laid_grist_pack_widths)], narrowed := true }
def StampBackUptoSaid : Prop := stampBackUptoRow.holds Tryd.pinned (OpenSpec.upto stampBackSpec)

/-- 'gristlaw05.StampSteps', WHERE WHAT IT READS IS OF BULK AT MOST 1048576: true; the input reads as it did. -/
def stampStepsUptoRow : OpenClaim := { program := "ytidbpoigbfpocaadoor", sum := "2fe152b4753d94db9c94553c8aaf85ed95a9582036c9204acbf671155cef045d", func := "grist/gristlaw05.StampSteps", spec := "stampSteps", named := ["grist/pack.widths"], apart := false, laid := [("grist/pack.widths", laid_grist_pack_widths)], narrowed := true }
def StampStepsUptoSaid : Prop := stampStepsUptoRow.holds Tryd.pinned (OpenSpec.upto stampStepsSpec)

/-- 'gristlaw05.StampLimits', WHERE WHAT IT READS IS OF BULK AT MOST 1048576: true; the input reads as it did. -/
def stampLimitsUptoRow : OpenClaim := { program := "ytidbpoigbfpocaadoor", sum := "2fe152b4753d94db9c94553c8aaf85ed95a9582036c9204acbf671155cef045d", func := "grist/gristlaw05.StampLimits", spec := "stampLimits", named := ["grist/pack.widths"], apart := false, laid := [("grist/pack.widths", laid_grist_pack_widths)], narrowed := true }
def StampLimitsUptoSaid : Prop := stampLimitsUptoRow.holds Tryd.pinned (OpenSpec.upto stampLimitsSpec)

end Rows
end Go.Proofs.YtidbpoigbfpocaaDoor
