/-
  No cell of these rows narrows 'for every input' (looked for: loops, veiled, ifaces, maps, wideKeys, modest, calm, conditions, laid).
  DERIVED. THE GIVEN ROWS OF THIS SEAT. 5 by the template 'for every input the law returns true; each argument reads behind the call as it read before'; 0 by the template 'total and deterministic' (their statements: YtloiclmngmnbdaaTotals.lean).
  GIVEN WITH THE SEED: the statements are not yours to turn. If you find one false, say at which input.
  Laid BY PROGRAM, IN A SANDBOX (cutbox-rows.mjs): the forced cells as the released guide's own fill.sh prints them over the translation c5e7c75ccf59fa52… (all of the seat's roots in one cut). By AI agents, Wed Nov 11 2026. No macro, syntax, notation, axiom, sorry.
-/
import Derived.Test.YtloiclmngmnbdaaChecked
import GoSem.Claim
import GoSem.ClaimJoined
import GoSem.ClaimMapViews
import Derived.JoinedTies
import Derived.KernelRfl
namespace Go.Proofs.Ytloiclmngmnbdaa
/- THE CELL 'sum', in the pinned program and in every row, IS THE sha256 OF THE DUMP (.gsa) THAT YtloiclmngmnbdaaProg.lean LOADS. Nothing in Lean hashes anything: it is a label: what it is worth is what the hold of that sum in a sandbox is worth. -/
noncomputable def Try.pinned : Pinned := { name := "ytloiclmngmnbdaa", sum := "c5e7c75ccf59fa5242baa6466caf8ef33bc4561c59e2cd471ce95f1fa51a7471", checked := Try.checked }
namespace Rows
def none {H : Type} : Left H := { results := [], args := [] }

/-- 'gristlaw11.CachePlays': WHATEVER THE INPUT: true; the input reads as it did. -/
def cachePlaysSpec : ChangeSpec := { name := "cachePlays", fn := fun _ => fun
  | [d1, d2] => { results := [.lit (.bool true)], args := [d1, d2] }
  | _ => none }
def cachePlaysRow : OpenClaim := { program := "ytloiclmngmnbdaa", sum := "c5e7c75ccf59fa5242baa6466caf8ef33bc4561c59e2cd471ce95f1fa51a7471", func := "grist/gristlaw11.CachePlays", spec := "cachePlays", inPlace := ["math.Float64frombits", "math.Float64bits", "slices.overlaps[grist/api.Point]", "slices.overlaps[[]grist/api.Point]"], unfollowed := true, recurses := true, plainKeys := false, apart := false }
def CachePlaysSaid : Prop := cachePlaysRow.holds Try.pinned (OpenSpec.ofChange cachePlaysSpec)

/-- ITS FALSE NEIGHBOUR: 'it returns false'. Refute it at one input. -/
def cachePlaysWrong : ChangeSpec := { name := "cachePlays", fn := fun _ => fun
  | [d1, d2] => { results := [.lit (.bool false)], args := [d1, d2] }
  | _ => none }
def CachePlaysWrongFalsely : Prop := cachePlaysRow.holds Try.pinned (OpenSpec.ofChange cachePlaysWrong)

/-- 'gristlaw11.CacheLast': WHATEVER THE INPUT: true; the input reads as it did. -/
def cacheLastSpec : ChangeSpec := { name := "cacheLast", fn := fun _ => fun
  | [d1, d2, d3] => { results := [.lit (.bool true)], args := [d1, d2, d3] }
  | _ => none }
def cacheLastRow : OpenClaim := { program := "ytloiclmngmnbdaa", sum := "c5e7c75ccf59fa5242baa6466caf8ef33bc4561c59e2cd471ce95f1fa51a7471", func := "grist/gristlaw11.CacheLast", spec := "cacheLast", inPlace := ["math.Float64frombits", "math.Float64bits", "slices.overlaps[grist/api.Point]", "slices.overlaps[[]grist/api.Point]"], unfollowed := true, recurses := true, plainKeys := false, apart := false }
def CacheLastSaid : Prop := cacheLastRow.holds Try.pinned (OpenSpec.ofChange cacheLastSpec)

/-- ITS FALSE NEIGHBOUR: 'it returns false'. Refute it at one input. -/
def cacheLastWrong : ChangeSpec := { name := "cacheLast", fn := fun _ => fun
  | [d1, d2, d3] => { results := [.lit (.bool false)], args := [d1, d2, d3] }
  | _ => none }
def CacheLastWrongFalsely : Prop := cacheLastRow.holds Try.pinned (OpenSpec.ofChange cacheLastWrong)

/-- 'gristlaw11.CacheBounds': WHATEVER THE INPUT: true; the input reads as it did. -/
def cacheBoundsSpec : ChangeSpec := { name := "cacheBounds", fn := fun _ => fun
  | [d1, d2] => { results := [.lit (.bool true)], args := [d1, d2] }
  | _ => none }
def cacheBoundsRow : OpenClaim := { program := "ytloiclmngmnbdaa", sum := "c5e7c75ccf59fa5242baa6466caf8ef33bc4561c59e2cd471ce95f1fa51a7471", func := "grist/gristlaw11.CacheBounds", spec := "cacheBounds", inPlace := ["math.Float64frombits", "math.Float64bits", "slices.overlaps[grist/api.Point]", "slices.overlaps[[]grist/api.Point]"], unfollowed := true, recurses := true, plainKeys := false, apart := false }
def CacheBoundsSaid : Prop := cacheBoundsRow.holds Try.pinned (OpenSpec.ofChange cacheBoundsSpec)

/-- ITS FALSE NEIGHBOUR: 'it returns false'. Refute it at one input. -/
def cacheBoundsWrong : ChangeSpec := { name := "cacheBounds", fn := fun _ => fun
  | [d1, d2] => { results := [.lit (.bool false)], args := [d1, d2] }
  | _ => none }
def CacheBoundsWrongFalsely : Prop := cacheBoundsRow.holds Try.pinned (OpenSpec.ofChange cacheBoundsWrong)

/-- 'gristlaw11.CacheNil': WHATEVER THE INPUT: true; the input reads as it did. -/
def cacheNilSpec : ChangeSpec := { name := "cacheNil", fn := fun _ => fun
  | [d1, d2, d3] => { results := [.lit (.bool true)], args := [d1, d2, d3] }
  | _ => none }
def cacheNilRow : OpenClaim := { program := "ytloiclmngmnbdaa", sum := "c5e7c75ccf59fa5242baa6466caf8ef33bc4561c59e2cd471ce95f1fa51a7471", func := "grist/gristlaw11.CacheNil", spec := "cacheNil", inPlace := ["math.Float64frombits", "math.Float64bits", "slices.overlaps[grist/api.Point]", "slices.overlaps[[]grist/api.Point]"], unfollowed := true, recurses := true, plainKeys := false, apart := false }
def CacheNilSaid : Prop := cacheNilRow.holds Try.pinned (OpenSpec.ofChange cacheNilSpec)

/-- ITS FALSE NEIGHBOUR: 'it returns false'. Refute it at one input. -/
def cacheNilWrong : ChangeSpec := { name := "cacheNil", fn := fun _ => fun
  | [d1, d2, d3] => { results := [.lit (.bool false)], args := [d1, d2, d3] }
  | _ => none }
def CacheNilWrongFalsely : Prop := cacheNilRow.holds Try.pinned (OpenSpec.ofChange cacheNilWrong)

/-- 'gristlaw11.CacheRanges': WHATEVER THE INPUT: true; the input reads as it did. -/
def cacheRangesSpec : ChangeSpec := { name := "cacheRanges", fn := fun _ => fun
  | [d1, d2] => { results := [.lit (.bool true)], args := [d1, d2] }
  | _ => none }
def cacheRangesRow : OpenClaim := { program := "ytloiclmngmnbdaa", sum := "c5e7c75ccf59fa5242baa6466caf8ef33bc4561c59e2cd471ce95f1fa51a7471", func := "grist/gristlaw11.CacheRanges", spec := "cacheRanges", inPlace := ["math.Float64frombits", "math.Float64bits", "slices.overlaps[grist/api.Point]", "slices.overlaps[[]grist/api.Point]"], unfollowed := true, recurses := true, plainKeys := false, apart := false }
def CacheRangesSaid : Prop := cacheRangesRow.holds Try.pinned (OpenSpec.ofChange cacheRangesSpec)

/-- ITS FALSE NEIGHBOUR: 'it returns false'. Refute it at one input. -/
def cacheRangesWrong : ChangeSpec := { name := "cacheRanges", fn := fun _ => fun
  | [d1, d2] => { results := [.lit (.bool false)], args := [d1, d2] }
  | _ => none }
def CacheRangesWrongFalsely : Prop := cacheRangesRow.holds Try.pinned (OpenSpec.ofChange cacheRangesWrong)

/- THE SECOND FORM. 'bulk': how many values and letters a reading holds, each counted each time it is reached (what is shared counts as often as it is met; a slice's spare places count too). A statement '..UptoSaid' is the law's where the arguments, and the package variables that the reading takes, are together of bulk at most 1048576: NARROWER than '..Said'. Prove '..Said' where nothing that the law and all that it calls make is longer than what came in: it says more and counts as full. Else prove '..UptoSaid'. A law counts once. -/
mutual
def uptoBulk {H : Type} : DataW H → Nat
  | .lit (.string bytes) => bytes.length + 1
  | .lit _ => 1
  | .nil => 1
  | .ptr d => uptoBulk d + 1
  | .slice elems spare => uptoBulkAll elems + uptoBulkAll spare + 1
  | .agg parts => uptoBulkAll parts + 1
  | .iface _ d => uptoBulk d + 1
  | .map entries => uptoBulkEntries entries + 1
  | .held _ => 1
def uptoBulkAll {H : Type} : List (DataW H) → Nat
  | [] => 0
  | d :: r => uptoBulk d + uptoBulkAll r
def uptoBulkEntries {H : Type} : List (Lit × DataW H) → Nat
  | [] => 0
  | x :: r => uptoBulkEntry x + uptoBulkEntries r
def uptoBulkEntry {H : Type} : Lit × DataW H → Nat
  | (.string bytes, d) => bytes.length + uptoBulk d + 1
  | (_, d) => uptoBulk d + 1
 end
def uptoSmall : (H : Type) → List (DataW H) → Bool := fun _ ds => decide (uptoBulkAll ds ≤ 1048576)
def OpenSpec.upto (s : _root_.Go.ChangeSpec) : _root_.Go.OpenSpec := { _root_.Go.OpenSpec.ofChange s with cond := some uptoSmall }

/-- 'gristlaw11.CachePlays', WHERE WHAT IT READS IS OF BULK AT MOST 1048576: true; the input reads as it did. -/
def cachePlaysUptoRow : OpenClaim := { program := "ytloiclmngmnbdaa", sum := "c5e7c75ccf59fa5242baa6466caf8ef33bc4561c59e2cd471ce95f1fa51a7471", func := "grist/gristlaw11.CachePlays", spec := "cachePlays", inPlace := ["math.Float64frombits", "math.Float64bits", "slices.overlaps[grist/api.Point]", "slices.overlaps[[]grist/api.Point]"], unfollowed := true, recurses := true, plainKeys := false, apart := false, narrowed := true }
def CachePlaysUptoSaid : Prop := cachePlaysUptoRow.holds Try.pinned (OpenSpec.upto cachePlaysSpec)

/-- 'gristlaw11.CacheLast', WHERE WHAT IT READS IS OF BULK AT MOST 1048576: true; the input reads as it did. -/
def cacheLastUptoRow : OpenClaim := { program := "ytloiclmngmnbdaa", sum := "c5e7c75ccf59fa5242baa6466caf8ef33bc4561c59e2cd471ce95f1fa51a7471", func := "grist/gristlaw11.CacheLast", spec := "cacheLast", inPlace := ["math.Float64frombits", "math.Float64bits", "slices.overlaps[grist/api.Point]", "slices.overlaps[[]grist/api.Point]"], unfollowed := true, recurses := true, plainKeys := false, apart := false, narrowed := true }
def CacheLastUptoSaid : Prop := cacheLastUptoRow.holds Try.pinned (OpenSpec.upto cacheLastSpec)

/-- 'gristlaw11.CacheBounds', WHERE WHAT IT READS IS OF BULK AT MOST 1048576: true; the input reads as it did. -/
def cacheBoundsUptoRow : OpenClaim := { program := "ytloiclmngmnbdaa", sum := "c5e7c75ccf59fa5242baa6466caf8ef33bc4561c59e2cd471ce95f1fa51a7471", func := "grist/gristlaw11.CacheBounds", spec := "cacheBounds", inPlace := ["math.Float64frombits", "math.Float64bits", "slices.overlaps[grist/api.Point]", "slices.overlaps[[]grist/api.Point]"], unfollowed := true, recurses := true, plainKeys := false, apart := false, narrowed := true }
def CacheBoundsUptoSaid : Prop := cacheBoundsUptoRow.holds Try.pinned (OpenSpec.upto cacheBoundsSpec)

/-- 'gristlaw11.CacheNil', WHERE WHAT IT READS IS OF BULK AT MOST 1048576: true; the input reads as it did. -/
def cacheNilUptoRow : OpenClaim := { program := "ytloiclmngmnbdaa", sum := "c5e7c75ccf59fa5242baa6466caf8ef33bc4561c59e2cd471ce95f1fa51a7471", func := "grist/gristlaw11.CacheNil", spec := "cacheNil", inPlace := ["math.Float64frombits", "math.Float64bits", "slices.overlaps[grist/api.Point]", "slices.overlaps[[]grist/api.Point]"], unfollowed := true, recurses := true, plainKeys := false, apart := false, narrowed := true }
def CacheNilUptoSaid : Prop := cacheNilUptoRow.holds Try.pinned (OpenSpec.upto cacheNilSpec)

/-- 'gristlaw11.CacheRanges', WHERE WHAT IT READS IS OF BULK AT MOST 1048576: true; the input reads as it did. -/
def cacheRangesUptoRow : OpenClaim := { program := "ytloiclmngmnbdaa", sum := "c5e7c75ccf59fa5242baa6466caf8ef33bc4561c59e2cd471ce95f1fa51a7471", func := "grist/gristlaw11.CacheRanges", spec := "cacheRanges", inPlace := ["math.Float64frombits", "math.Float64bits", "slices.overlaps[grist/api.Point]", "slices.overlaps[[]grist/api.Point]"], unfollowed := true, recurses := true, plainKeys := false, apart := false, narrowed := true }
def CacheRangesUptoSaid : Prop := cacheRangesUptoRow.holds Try.pinned (OpenSpec.upto cacheRangesSpec)

end Rows
end Go.Proofs.Ytloiclmngmnbdaa
