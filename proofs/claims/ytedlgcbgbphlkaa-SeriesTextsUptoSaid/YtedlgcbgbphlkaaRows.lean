/-
  No cell of these rows narrows 'for every input' (looked for: loops, veiled, ifaces, maps, wideKeys, modest, calm, conditions, laid).
  DERIVED. THE GIVEN ROWS OF THIS SEAT. 5 by the template 'for every input the law returns true; each argument reads behind the call as it read before'; 0 by the template 'total and deterministic' (their statements: YtedlgcbgbphlkaaTotals.lean).
  GIVEN WITH THE SEED: the statements are not yours to turn. If you find one false, say at which input.
  Laid BY PROGRAM, IN A SANDBOX (cutbox-rows.mjs): the forced cells as the released guide's own fill.sh prints them over the translation 148fd8d60d52e5f5… (all of the seat's roots in one cut). By AI agents, Wed Nov 11 2026. No macro, syntax, notation, axiom, sorry.
-/
import Derived.Test.YtedlgcbgbphlkaaChecked
import GoSem.Claim
import GoSem.ClaimJoined
import GoSem.ClaimMapViews
import Derived.JoinedTies
import Derived.KernelRfl
namespace Go.Proofs.Ytedlgcbgbphlkaa
/- THE CELL 'sum', in the pinned program and in every row, IS THE sha256 OF THE DUMP (.gsa) THAT YtedlgcbgbphlkaaProg.lean LOADS. Nothing in Lean hashes anything: it is a label: what it is worth is what the hold of that sum in a sandbox is worth. -/
noncomputable def Try.pinned : Pinned := { name := "ytedlgcbgbphlkaa", sum := "148fd8d60d52e5f5c939ba58ae0c62397ab8bff8841d02728f2835f2b025007f", checked := Try.checked }
namespace Rows
def none {H : Type} : Left H := { results := [], args := [] }

/-- 'gristlaw15.SeriesTexts': WHATEVER THE INPUT: true; the input reads as it did. -/
def seriesTextsSpec : ChangeSpec := { name := "seriesTexts", fn := fun _ => fun
  | [d1, d2] => { results := [.lit (.bool true)], args := [d1, d2] }
  | _ => none }
def seriesTextsRow : OpenClaim := { program := "ytedlgcbgbphlkaa", sum := "148fd8d60d52e5f5c939ba58ae0c62397ab8bff8841d02728f2835f2b025007f", func := "grist/gristlaw15.SeriesTexts", spec := "seriesTexts", inPlace := ["internal/abi.NoEscape"], apart := false }
def SeriesTextsSaid : Prop := seriesTextsRow.holds Try.pinned (OpenSpec.ofChange seriesTextsSpec)

/-- ITS FALSE NEIGHBOUR: 'it returns false'. Refute it at one input. -/
def seriesTextsWrong : ChangeSpec := { name := "seriesTexts", fn := fun _ => fun
  | [d1, d2] => { results := [.lit (.bool false)], args := [d1, d2] }
  | _ => none }
def SeriesTextsWrongFalsely : Prop := seriesTextsRow.holds Try.pinned (OpenSpec.ofChange seriesTextsWrong)

/-- 'gristlaw15.SeriesParses': WHATEVER THE INPUT: true; the input reads as it did. -/
def seriesParsesSpec : ChangeSpec := { name := "seriesParses", fn := fun _ => fun
  | [d] => { results := [.lit (.bool true)], args := [d] }
  | _ => none }
def seriesParsesRow : OpenClaim := { program := "ytedlgcbgbphlkaa", sum := "148fd8d60d52e5f5c939ba58ae0c62397ab8bff8841d02728f2835f2b025007f", func := "grist/gristlaw15.SeriesParses", spec := "seriesParses", inPlace := ["internal/abi.NoEscape"], apart := false }
def SeriesParsesSaid : Prop := seriesParsesRow.holds Try.pinned (OpenSpec.ofChange seriesParsesSpec)

/-- ITS FALSE NEIGHBOUR: 'it returns false'. Refute it at one input. -/
def seriesParsesWrong : ChangeSpec := { name := "seriesParses", fn := fun _ => fun
  | [d] => { results := [.lit (.bool false)], args := [d] }
  | _ => none }
def SeriesParsesWrongFalsely : Prop := seriesParsesRow.holds Try.pinned (OpenSpec.ofChange seriesParsesWrong)

/-- 'gristlaw15.SeriesBack': WHATEVER THE INPUT: true; the input reads as it did. -/
def seriesBackSpec : ChangeSpec := { name := "seriesBack", fn := fun _ => fun
  | [d1, d2] => { results := [.lit (.bool true)], args := [d1, d2] }
  | _ => none }
def seriesBackRow : OpenClaim := { program := "ytedlgcbgbphlkaa", sum := "148fd8d60d52e5f5c939ba58ae0c62397ab8bff8841d02728f2835f2b025007f", func := "grist/gristlaw15.SeriesBack", spec := "seriesBack", inPlace := ["internal/abi.NoEscape"], apart := false }
def SeriesBackSaid : Prop := seriesBackRow.holds Try.pinned (OpenSpec.ofChange seriesBackSpec)

/-- ITS FALSE NEIGHBOUR: 'it returns false'. Refute it at one input. -/
def seriesBackWrong : ChangeSpec := { name := "seriesBack", fn := fun _ => fun
  | [d1, d2] => { results := [.lit (.bool false)], args := [d1, d2] }
  | _ => none }
def SeriesBackWrongFalsely : Prop := seriesBackRow.holds Try.pinned (OpenSpec.ofChange seriesBackWrong)

/-- 'gristlaw15.SeriesTags': WHATEVER THE INPUT: true; the input reads as it did. -/
def seriesTagsSpec : ChangeSpec := { name := "seriesTags", fn := fun _ => fun
  | [d1, d2, d3] => { results := [.lit (.bool true)], args := [d1, d2, d3] }
  | _ => none }
def seriesTagsRow : OpenClaim := { program := "ytedlgcbgbphlkaa", sum := "148fd8d60d52e5f5c939ba58ae0c62397ab8bff8841d02728f2835f2b025007f", func := "grist/gristlaw15.SeriesTags", spec := "seriesTags", inPlace := ["internal/abi.NoEscape"], apart := false }
def SeriesTagsSaid : Prop := seriesTagsRow.holds Try.pinned (OpenSpec.ofChange seriesTagsSpec)

/-- ITS FALSE NEIGHBOUR: 'it returns false'. Refute it at one input. -/
def seriesTagsWrong : ChangeSpec := { name := "seriesTags", fn := fun _ => fun
  | [d1, d2, d3] => { results := [.lit (.bool false)], args := [d1, d2, d3] }
  | _ => none }
def SeriesTagsWrongFalsely : Prop := seriesTagsRow.holds Try.pinned (OpenSpec.ofChange seriesTagsWrong)

/-- 'gristlaw15.SeriesApart': WHATEVER THE INPUT: true; the input reads as it did. -/
def seriesApartSpec : ChangeSpec := { name := "seriesApart", fn := fun _ => fun
  | [d1, d2] => { results := [.lit (.bool true)], args := [d1, d2] }
  | _ => none }
def seriesApartRow : OpenClaim := { program := "ytedlgcbgbphlkaa", sum := "148fd8d60d52e5f5c939ba58ae0c62397ab8bff8841d02728f2835f2b025007f", func := "grist/gristlaw15.SeriesApart", spec := "seriesApart", inPlace := ["internal/abi.NoEscape"], apart := false }
def SeriesApartSaid : Prop := seriesApartRow.holds Try.pinned (OpenSpec.ofChange seriesApartSpec)

/-- ITS FALSE NEIGHBOUR: 'it returns false'. Refute it at one input. -/
def seriesApartWrong : ChangeSpec := { name := "seriesApart", fn := fun _ => fun
  | [d1, d2] => { results := [.lit (.bool false)], args := [d1, d2] }
  | _ => none }
def SeriesApartWrongFalsely : Prop := seriesApartRow.holds Try.pinned (OpenSpec.ofChange seriesApartWrong)

/- THE SECOND FORM. 'bulk': how many values and letters a reading holds, each counted each time it is reached (what is shared counts as often as it is met; a slice's spare places count too). A statement '..UptoSaid' is the law's where the arguments, and the package variables that the reading takes, are together of bulk at most 1048576: NARROWER than '..Said'. Prove '..Said' where nothing that the law and all that it calls make is longer than what came in: it says more and counts as full. Else prove '..UptoSaid'. A law counts once. -/
mutual
def uptoBulk {H : Type} : DataW H → Nat
  | .lit (.string bytes) => bytes.length + 1
  | .lit _ => 1
  | .nil => 1
  | .ptr d => uptoBulk d + 1
  | .slice elems spare => uptoBulkAll elems + uptoBulkAll spare + 1
  | .agg parts => uptoBulkAll parts + 1
  | .iface _ d => uptoBulk d + 1
  | .map entries => uptoBulkEntries entries + 1
  | .held _ => 1
def uptoBulkAll {H : Type} : List (DataW H) → Nat
  | [] => 0
  | d :: r => uptoBulk d + uptoBulkAll r
def uptoBulkEntries {H : Type} : List (Lit × DataW H) → Nat
  | [] => 0
  | x :: r => uptoBulkEntry x + uptoBulkEntries r
def uptoBulkEntry {H : Type} : Lit × DataW H → Nat
  | (.string bytes, d) => bytes.length + uptoBulk d + 1
  | (_, d) => uptoBulk d + 1
 end
def uptoSmall : (H : Type) → List (DataW H) → Bool := fun _ ds => decide (uptoBulkAll ds ≤ 1048576)
def OpenSpec.upto (s : _root_.Go.ChangeSpec) : _root_.Go.OpenSpec := { _root_.Go.OpenSpec.ofChange s with cond := some uptoSmall }

/-- 'gristlaw15.SeriesTexts', WHERE WHAT IT READS IS OF BULK AT MOST 1048576: true; the input reads as it did. -/
def seriesTextsUptoRow : OpenClaim := { program := "ytedlgcbgbphlkaa", sum := "148fd8d60d52e5f5c939ba58ae0c62397ab8bff8841d02728f2835f2b025007f", func := "grist/gristlaw15.SeriesTexts", spec := "seriesTexts", inPlace := ["internal/abi.NoEscape"], apart := false, narrowed := true }
def SeriesTextsUptoSaid : Prop := seriesTextsUptoRow.holds Try.pinned (OpenSpec.upto seriesTextsSpec)

/-- 'gristlaw15.SeriesParses', WHERE WHAT IT READS IS OF BULK AT MOST 1048576: true; the input reads as it did. -/
def seriesParsesUptoRow : OpenClaim := { program := "ytedlgcbgbphlkaa", sum := "148fd8d60d52e5f5c939ba58ae0c62397ab8bff8841d02728f2835f2b025007f", func := "grist/gristlaw15.SeriesParses", spec := "seriesParses", inPlace := ["internal/abi.NoEscape"], apart := false, narrowed := true }
def SeriesParsesUptoSaid : Prop := seriesParsesUptoRow.holds Try.pinned (OpenSpec.upto seriesParsesSpec)

/-- 'gristlaw15.SeriesBack', WHERE WHAT IT READS IS OF BULK AT MOST 1048576: true; the input reads as it did. -/
def seriesBackUptoRow : OpenClaim := { program := "ytedlgcbgbphlkaa", sum := "148fd8d60d52e5f5c939ba58ae0c62397ab8bff8841d02728f2835f2b025007f", func := "grist/gristlaw15.SeriesBack", spec := "seriesBack", inPlace := ["internal/abi.NoEscape"], apart := false, narrowed := true }
def SeriesBackUptoSaid : Prop := seriesBackUptoRow.holds Try.pinned (OpenSpec.upto seriesBackSpec)

/-- 'gristlaw15.SeriesTags', WHERE WHAT IT READS IS OF BULK AT MOST 1048576: true; the input reads as it did. -/
def seriesTagsUptoRow : OpenClaim := { program := "ytedlgcbgbphlkaa", sum := "148fd8d60d52e5f5c939ba58ae0c62397ab8bff8841d02728f2835f2b025007f", func := "grist/gristlaw15.SeriesTags", spec := "seriesTags", inPlace := ["internal/abi.NoEscape"], apart := false, narrowed := true }
def SeriesTagsUptoSaid : Prop := seriesTagsUptoRow.holds Try.pinned (OpenSpec.upto seriesTagsSpec)

/-- 'gristlaw15.SeriesApart', WHERE WHAT IT READS IS OF BULK AT MOST 1048576: true; the input reads as it did. -/
def seriesApartUptoRow : OpenClaim := { program := "ytedlgcbgbphlkaa", sum := "148fd8d60d52e5f5c939ba58ae0c62397ab8bff8841d02728f2835f2b025007f", func := "grist/gristlaw15.SeriesApart", spec := "seriesApart", inPlace := ["internal/abi.NoEscape"], apart := false, narrowed := true }
def SeriesApartUptoSaid : Prop := seriesApartUptoRow.holds Try.pinned (OpenSpec.upto seriesApartSpec)

end Rows
end Go.Proofs.Ytedlgcbgbphlkaa
