/- What opens the laws' arguments. -/
import Derived.Test.YthaadpijfkmdiaaJb
import Derived.WalkKit
import Derived.ProofKit
import Derived.OpenShut
import Derived.ShutString
import Derived.ChangeOld
import Derived.Below
import Derived.SizedLaws
namespace Go.Proofs.Ythaadpijfkmdiaa
open Go.ChangeShapes Go.WideShapes Go.ChangeAt Go.RowKit
namespace Jt
open Jb

theorem own : ownKnob Try.prog.godebug = none := by kernel_rfl
theorem laidOut : laidOutB Try.prog = true := by kernel_rfl
theorem reach_str {H : Type} {ts : List TypeId} {ds : List (DataW H)} {s : ByteArray} (j : Nat) (hsz : (DataW.weightsEach Try.prog ts ds).all (· ≤ reachBytes) = true) (ht : ts[j]? = some 9) (hd : ds[j]? = some (.lit (.string s.data.toList))) : s.size ≤ 140737488351232 := by
  have := sized_string hsz (j := j) ht hd
  simp only [reachBytes, Array.length_toList] at this
  exact this
end Jt
end Go.Proofs.Ythaadpijfkmdiaa
