/- slices.Replace and slices.Insert of pieces, as remove has them. -/
import Derived.Test.YtloiclmngmnbdaaLk
import Derived.Lib.SliceRun
namespace Go.Proofs.Ytloiclmngmnbdaa
open Go.RowKit Go.Maps Go.ChangeMaps Go.MapKept
namespace Ra
open Jb Ca Ck Ct Cd Ls Lb Lc Ld Li Lj Lk

set_option maxRecDepth 100000
theorem insert73_nil (w : World) : Calls Try.prog 73 #[.slice none 0 0, .int .i64 0, .slice none 0 0] w fun e w' => e = .returned (.slice none 0 0) ∧ w' = w := by
  go_enter Try.func73, Try.ntmps73
  go_wp2_with fail
  go_ret
  simp
theorem insert73_0 (w : World) (P pc : Nat) (hpc : 1 ≤ pc) : Calls Try.prog 73 #[.slice (some ⟨P, 0, none⟩) 1 pc, .int .i64 0, .slice none 0 0] w fun e w' => e = .returned (.slice (some ⟨P, 0, none⟩) 1 pc) ∧ w' = w := by
  go_enter Try.func73, Try.ntmps73
  go_wp2_with fail
  go_ret
  simp
theorem insert73_1 (w : World) (P pc : Nat) (hpc : 1 ≤ pc) : Calls Try.prog 73 #[.slice (some ⟨P, 0, none⟩) 1 pc, .int .i64 1, .slice none 0 0] w fun e w' => e = .returned (.slice (some ⟨P, 0, none⟩) 1 pc) ∧ w' = w := by
  by_cases h : pc = 1
  · subst h
    go_enter Try.func73, Try.ntmps73
    go_wp2_with fail
    go_ret
    simp
  · go_enter Try.func73, Try.ntmps73
    go_wp2_with fail
    go_ret
    simp
theorem replace57_nil (w : World) : Calls Try.prog 57 #[.slice none 0 0, .int .i64 0, .int .i64 0, .slice none 0 0] w fun e w' => e = .returned (.slice none 0 0) ∧ w' = w := by
  have H := Lib.hid (fun w => insert73_nil w)
  go_enter Try.func57, Try.ntmps57
  go_wp2_with (go_at_call 73; refine (H.out _).mono ?_; rintro e w' ⟨rfl, rfl⟩)
  go_ret
  simp
theorem replace57_0 (w : World) (P pc : Nat) (hpc : 1 ≤ pc) : Calls Try.prog 57 #[.slice (some ⟨P, 0, none⟩) 1 pc, .int .i64 0, .int .i64 0, .slice none 0 0] w fun e w' => e = .returned (.slice (some ⟨P, 0, none⟩) 1 pc) ∧ w' = w := by
  have H := Lib.hid (fun w => insert73_0 w P pc hpc)
  go_enter Try.func57, Try.ntmps57
  go_wp2_with (go_at_call 73; refine (H.out _).mono ?_; rintro e w' ⟨rfl, rfl⟩)
  go_ret
  simp
theorem replace57_1 (w : World) (P pc : Nat) (hpc : 1 ≤ pc) : Calls Try.prog 57 #[.slice (some ⟨P, 0, none⟩) 1 pc, .int .i64 1, .int .i64 1, .slice none 0 0] w fun e w' => e = .returned (.slice (some ⟨P, 0, none⟩) 1 pc) ∧ w' = w := by
  have H := Lib.hid (fun w => insert73_1 w P pc hpc)
  by_cases h : pc = 1
  · subst h
    go_enter Try.func57, Try.ntmps57
    go_wp2_with (go_at_call 73; refine (H.out _).mono ?_; rintro e w' ⟨rfl, rfl⟩)
    go_ret
    simp
  · go_enter Try.func57, Try.ntmps57
    go_wp2_with (go_at_call 73; refine (H.out _).mono ?_; rintro e w' ⟨rfl, rfl⟩)
    go_ret
    simp
theorem zs85 (w : World) : (zeroValue 43).run Try.prog w = .ok (.slice none 0 0) w := by kernel_rfl
theorem clear1 (w : World) (P pc : Nat) (v : Value) (hc : w.cell? ⟨P, 0, none⟩ = some v) (hz : w.frozen? ⟨P, 0, none⟩ = false) (ty : TypeId) : (Builtin.clear_ #[85] ty #[.slice (some ⟨P, 0, none⟩) 1 pc]).run Try.prog w = .ok (.tuple #[]) (w.setCell ⟨P, 0, none⟩ (.slice none 0 0)) := by
  have := Lib.run_clear_slice (P := Try.prog) w 85 43 ty (.slice none 0 0) Try.underlying85 (fun w => zs85 w) rfl rfl P 0 1 pc (by decide) (fun j hj => by
    obtain rfl : j = 0 := by omega
    simp [hc]) (fun j hj => by
    obtain rfl : j = 0 := by omega
    simpa using hz)
  rw [this]
  rfl
theorem replace57_none (w : World) (P pc : Nat) (hpc : 1 ≤ pc) (v : Value) (hc : w.cell? ⟨P, 0, none⟩ = some v) (hz : w.frozen? ⟨P, 0, none⟩ = false) : Calls Try.prog 57 #[.slice (some ⟨P, 0, none⟩) 1 pc, .int .i64 0, .int .i64 1, .slice none 0 0] w fun e w' => e = .returned (.slice (some ⟨P, 0, none⟩) 0 pc) ∧ w' = w.setCell ⟨P, 0, none⟩ (.slice none 0 0) := by
  have hcl := clear1 w P pc v hc hz
  go_enter Try.func57, Try.ntmps57
  go_wp2_with (simp only [hcl])
  trace_state
  go_ret
  simp
theorem replace57_one (w : World) (P pc q qc r m mc : Nat) (hpc : 1 ≤ pc) (v : Value) (hc : w.cell? ⟨P, 0, none⟩ = some v) (hz : w.frozen? ⟨P, 0, none⟩ = false) (hq : w.cell? ⟨q, 0, none⟩ = some (.slice (some ⟨r, 0, none⟩) m mc)) : Calls Try.prog 57 #[.slice (some ⟨P, 0, none⟩) 1 pc, .int .i64 0, .int .i64 1, .slice (some ⟨q, 0, none⟩) 1 qc] w fun e w' => e = .returned (.slice (some ⟨P, 0, none⟩) 1 pc) ∧ w' = w.setCell ⟨P, 0, none⟩ (.slice (some ⟨r, 0, none⟩) m mc) := by
  go_enter Try.func57, Try.ntmps57
  go_wp2_with fail
  go_ret
  simp
end Ra
end Go.Proofs.Ytloiclmngmnbdaa
