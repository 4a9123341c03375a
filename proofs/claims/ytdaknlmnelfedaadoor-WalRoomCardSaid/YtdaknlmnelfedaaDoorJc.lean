import Derived.Test.YtdaknlmnelfedaaDoorJn
import Derived.Deep.RegionHeldLaw
namespace Go.Proofs.YtdaknlmnelfedaaDoor
open Go.RowKit Go.Maps Go.ChangeMaps Go.MapKept
namespace Jc
open Jb Jm Jd Jw Jx Jn
end Jc
end Go.Proofs.YtdaknlmnelfedaaDoor
