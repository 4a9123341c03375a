/- What Pack answers, by cases. -/
import Derived.Test.YtidbpoigbfpocaaDoorRp
namespace Go.Proofs.YtidbpoigbfpocaaDoor
open Go.RowKit
namespace La
open Mt Wr Bm Pk Rp

theorem Packed.ok {w w' : World} {l : List Nat} {e : Ending} (h : Packed w l e w') (hS : Small l) : ∃ r, e = .returned (.tuple #[r, .int .i64 0]) ∧ w'.ownsRow w.heap.size 5 1 r (packs l).length (u8s (packs l)) ∧ Below w.heap.size w w' := by
  rcases h with ⟨_, h⟩ | ⟨h, _⟩
  · exact h
  · exact absurd hS h
theorem Packed.bad {w w' : World} {l : List Nat} {e : Ending} (h : Packed w l e w') (hS : ¬ Small l) : e = .returned (.tuple #[.slice none 0 0, .int .i64 3]) ∧ Below w.heap.size w w' := by
  rcases h with ⟨h, _⟩ | ⟨_, h⟩
  · exact absurd h hS
  · exact h
end La
end Go.Proofs.YtidbpoigbfpocaaDoor
