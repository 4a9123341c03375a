/- ValueParses: what the row says of the program's text. -/
import Derived.Test.YtbnicnhkakbglaaGreatDoorCards
import Derived.SevenTiedAt
import Derived.Deep.DeepHandedRow
namespace Go.Proofs.YtbnicnhkakbglaaGreatDoor.ValueParsesDone
open Go.ChangeShapes Go.WideShapes Go.ChangeAt
open Go.Proofs.YtbnicnhkakbglaaGreatDoor
theorem closed : joinedFacts Tryz.pinned.checked.prog 3 Tryz.f3 (OpenSpec.ofChange Rows.valueParsesSpec).bare Rows.valueParsesRow = true := by kernel_rfl
end Go.Proofs.YtbnicnhkakbglaaGreatDoor.ValueParsesDone
