/- The law CacheNil. -/
import Derived.Test.YtloiclmngmnbdaaSh
import Derived.Test.YtloiclmngmnbdaaSj
import Derived.Test.YtloiclmngmnbdaaOb
namespace Go.Proofs.Ytloiclmngmnbdaa
open Go.RowKit Go.ChangeShapes Go.WideShapes
namespace So
open Jb Ca Ce Dh Oa

set_option maxRecDepth 100000 in
theorem okWide_pnt {W : World} {base : Nat} {v : Value} (h : Value.okWide Try.prog W .any base 32 v) : ∃ c0 c1 c2 c3, v = .agg #[c0, c1, c2, c3] := by
  unfold Value.okWide at h
  rw [Try.underlying32] at h
  obtain ⟨cs, rfl, hs, _⟩ := h
  rw [cells49] at hs
  obtain ⟨l⟩ := cs
  match l, hs with
  | [c0, c1, c2, c3], _ => exact ⟨_, _, _, _, rfl⟩
theorem nil6 (w : World) (p : Pnt) (hp : Wp p) (a b : Int) : Calls Try.prog 6 #[pa p, .int .i64 a, .int .i64 b] w fun e w' => e = .returned (.bool true) ∧ Below w.heap.size w w' := by
  by_cases h : putE (V0 9) (sS, sF) p = 0
  · exact Sj.nil6_ok w p hp a b h
  · exact Sh.nil6_bad w p hp a b h
end So
end Go.Proofs.Ytloiclmngmnbdaa
