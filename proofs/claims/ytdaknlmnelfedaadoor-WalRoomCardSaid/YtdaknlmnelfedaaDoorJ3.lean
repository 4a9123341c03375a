/- The disk's Restart. -/
import Derived.Test.YtdaknlmnelfedaaDoorJ2
namespace Go.Proofs.YtdaknlmnelfedaaDoor
open Go.RowKit Go.Maps Go.ChangeMaps Go.MapKept
namespace J3
open Jb Jm Jd Jw Jx Jn Je Jf Jg Jh Jk Jc Jl Jo Jq J1 J2

def lenOf : Value → Nat
  | .slice _ n _ => n
  | _ => 0
theorem rs_ch : ∀ (l : List (List UInt8)) (q : Rs), ∀ y ∈ (rs q l).ch, y ∈ q.ch := by
  intro l
  induction l with
  | nil => intro q y hy; exact hy
  | cons x l ih =>
    intro q y hy
    have h := ih (stp q x) y hy
    unfold stp at h
    split at h
    · exact h
    · split at h
      · exact h
      · exact List.mem_of_mem_tail h
def rsV (V : Vw) (r : Rs) : Vw := { V with F := r.F, used := r.used, down := false, fused := false, fuse := 0 }
end J3
end Go.Proofs.YtdaknlmnelfedaaDoor
