/- seek: where a time stands among points that rise. -/
import Derived.Test.YtloiclmngmnbdaaCd
namespace Go.Proofs.Ytloiclmngmnbdaa
open Go.RowKit Go.Maps Go.ChangeMaps Go.MapKept
namespace Ls
open Jb Ca Ck Ct Cd

def cmp3 (a b : Int) : Int := if a < b then -1 else if b < a then 1 else 0
set_option maxRecDepth 100000
theorem nan88 (w : World) (a : Int) : Calls Try.prog 88 #[.int .i64 a] w fun e w' => e = .returned (.bool false) ∧ w' = w := by
  go_enter Try.func88, Try.ntmps88
  go_wp2_with fail
  go_ret
  simp
theorem compare69 (w : World) (a b : Int) : Calls Try.prog 69 #[.int .i64 a, .int .i64 b] w fun e w' => e = .returned (.int .i64 (cmp3 a b)) ∧ w' = w := by
  have HN := Lib.hid (fun w a => nan88 w a)
  unfold cmp3
  by_cases h1 : a < b
  · rw [if_pos h1]
    go_enter Try.func69, Try.ntmps69
    go_wp2_with (go_at_call 88; refine (HN.out _ _).mono ?_; rintro e w' ⟨rfl, rfl⟩)
    go_ret
    simp
  · rw [if_neg h1]
    by_cases h2 : b < a
    · rw [if_pos h2]
      go_enter Try.func69, Try.ntmps69
      go_wp2_with (go_at_call 88; refine (HN.out _ _).mono ?_; rintro e w' ⟨rfl, rfl⟩)
      go_ret
      simp
    · rw [if_neg h2]
      go_enter Try.func69, Try.ntmps69
      go_wp2_with (go_at_call 88; refine (HN.out _ _).mono ?_; rintro e w' ⟨rfl, rfl⟩)
      go_ret
      simp
theorem cmp68 (w : World) (p : Pnt) (t : Int) : Calls Try.prog 68 #[pa p, .int .i64 t] w fun e w' => e = .returned (.int .i64 (cmp3 p.1 t)) ∧ Below w.heap.size w w' := by
  have HN := Lib.hid (fun w a b => compare69 w a b)
  unfold pa
  go_enter Try.func68, Try.ntmps68
  go_wp2_with (go_at_call 69; refine (HN.out _ _ _).mono ?_; rintro e w' ⟨rfl, rfl⟩)
  go_ret
  exact ⟨rfl, (Below.refl _ _).alloc (Nat.le_refl _) _⟩
end Ls
end Go.Proofs.Ytloiclmngmnbdaa
