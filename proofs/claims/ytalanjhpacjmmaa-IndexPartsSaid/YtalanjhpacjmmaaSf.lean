import Derived.Test.YtalanjhpacjmmaaSe
namespace Go.Proofs.Ytalanjhpacjmmaa
open Go.RowKit
namespace Sf
open Jb Sa Sb Sc Sd Se
end Sf
end Go.Proofs.Ytalanjhpacjmmaa
