/- The document's Text. -/
import Derived.Test.YtalanjhpacjmmaaSh
import Derived.Deep.RegionHeld
namespace Go.Proofs.Ytalanjhpacjmmaa
set_option maxRecDepth 100000
open Go.RowKit
namespace Si
open Jb Sa Sb Sc Sd Se Sf Sg Sh

theorem add_run (a b : List UInt8) (h : a.length + b.length ≤ 9223372036854775807) (y : World) : (Op.stringOp .add (ba a) (ba b)).run Try.prog y = .ok (.string (ba (a ++ b))) y := by
  have e : ba a ++ ba b = ba (a ++ b) := by apply bl_inj; rw [bl_ba]; simp [bl, ba]
  unfold Op.stringOp
  simp only [ba_size]
  rw [if_neg (by have : IntKind.i64.max = 9223372036854775807 := by decide
                 rw [this]; omega), e]
  rfl
end Si
end Go.Proofs.Ytalanjhpacjmmaa
