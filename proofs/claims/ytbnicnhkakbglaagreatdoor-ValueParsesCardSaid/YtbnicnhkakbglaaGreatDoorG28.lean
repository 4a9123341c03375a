import Derived.Test.YtbnicnhkakbglaaGreatDoorG26
import Derived.Deep.CutBlock
import Derived.Deep.DeepCutAuto
import Derived.BigQuiet

/- floatBits. -/
namespace Go.Proofs.YtbnicnhkakbglaaGreatDoor
open Go.RowKit
namespace Dc
open Us Dm

/-- The bits put together. -/
def asm (E M : Int) (ng : Bool) : Int :=
  if ng then bits .or .u64 (bits .or .u64 (bits .and .u64 M 4503599627370495) (IntKind.u64.wrap (IntKind.u64.wrap (bits .and .i64 (E + 1023) 2047) * 4503599627370496))) 9223372036854775808
  else bits .or .u64 (bits .and .u64 M 4503599627370495) (IntKind.u64.wrap (IntKind.u64.wrap (bits .and .i64 (E + 1023) 2047) * 4503599627370496))
set_option maxRecDepth 100000 in
theorem bits_over (w : World) (g : Nat) (a : De) (ng : Bool) (h : Db w g a ng) (hdp : 310 < a.dp) (dlv : Nat → Nat) (CS : Nat → ByteArray) (tb tp : Nat × Nat) (hG : GT w dlv CS g tb tp) :
    Calls Tryz.prog 190 #[.pointer (some ⟨g, 0, none⟩), .pointer (some ⟨7, 0, none⟩)] w fun e w' => e = .returned (.tuple #[.int .u64 (asm 1024 0 ng), .bool true]) ∧ Only w w' g := by
  have HG := Lib.hid hG
  have x0 := hG.f0
  have x1 := hG.f1
  have x2 := hG.f2
  clear hG
  have HB := Lib.hid h
  obtain ⟨⟨hn, h8⟩, A, hD, hA⟩ := h
  have c0 := hD.c0
  have c1 := hD.c1
  have c2 := hD.c2
  have b1 := dlen_one hn
  obtain ⟨nd, hnd⟩ : ∃ nd, nd = dlen a.n := ⟨_, rfl⟩
  rw [← hnd] at c0 b1
  have d0 : ((nd : Int) == 0) = false := by simp; omega
  obtain ⟨dp, hdpl⟩ : ∃ dp, dp = a.dp := ⟨_, rfl⟩
  rw [← hdpl] at c1 hdp
  have d1 : decide (dp > 310) = true := by simp; omega
  clear hn h8 hD hA hnd hdpl
  cases ng with
  | true =>
    go_enter Tryz.func190, Tryz.ntmps190
    go_wp2_with fail
    refine wp_ahead _ _ (by rfl) (by rfl) ?_
    go_wp2_with fail
    go_step3
    refine Or.inr ⟨rfl, ?_⟩
    go_wp2_with fail
    go_quiet (fail)
    go_wp2_with fail
    go_step3
    go_wp2_with fail
    go_quiet (fail)
    go_wp2_with fail
    go_quiet (fail)
    go_wp2_with fail
    rw [Exit.noGoto_ret]
    go_ret2
    exact ⟨rfl, by first | exact (Only.refl _ _).drewN _ | exact ((Only.refl _ _).drewN _).drewN _⟩
  | false =>
    go_enter Tryz.func190, Tryz.ntmps190
    go_wp2_with fail
    refine wp_ahead _ _ (by rfl) (by rfl) ?_
    go_wp2_with fail
    go_step3
    refine Or.inr ⟨rfl, ?_⟩
    go_wp2_with fail
    go_quiet (fail)
    go_wp2_with fail
    go_step3
    go_wp2_with fail
    go_quiet (fail)
    go_wp2_with fail
    rw [Exit.noGoto_ret]
    go_ret2
    exact ⟨rfl, by first | exact (Only.refl _ _).drewN _ | exact ((Only.refl _ _).drewN _).drewN _⟩
set_option maxRecDepth 100000 in
theorem bits_none (w : World) (g : Nat) (a : De) (ng : Bool) (h : Db w g a ng) (hdp : a.dp < -330) (dlv : Nat → Nat) (CS : Nat → ByteArray) (tb tp : Nat × Nat) (hG : GT w dlv CS g tb tp) :
    Calls Tryz.prog 190 #[.pointer (some ⟨g, 0, none⟩), .pointer (some ⟨7, 0, none⟩)] w fun e w' => e = .returned (.tuple #[.int .u64 (asm (-1023) 0 ng), .bool false]) ∧ Only w w' g := by
  have HG := Lib.hid hG
  have x0 := hG.f0
  have x1 := hG.f1
  have x2 := hG.f2
  clear hG
  have HB := Lib.hid h
  obtain ⟨⟨hn, h8⟩, A, hD, hA⟩ := h
  have c0 := hD.c0
  have c1 := hD.c1
  have c2 := hD.c2
  have b1 := dlen_one hn
  obtain ⟨nd, hnd⟩ : ∃ nd, nd = dlen a.n := ⟨_, rfl⟩
  rw [← hnd] at c0 b1
  have d0 : ((nd : Int) == 0) = false := by simp; omega
  obtain ⟨dp, hdpl⟩ : ∃ dp, dp = a.dp := ⟨_, rfl⟩
  rw [← hdpl] at c1 hdp
  have d1 : decide (dp > 310) = false := by simp; omega
  have d2 : decide (dp < -330) = true := by simp; omega
  clear hn h8 hD hA hnd hdpl
  cases ng with
  | true =>
    go_enter Tryz.func190, Tryz.ntmps190
    go_wp2_with fail
    refine wp_ahead _ _ (by rfl) (by rfl) ?_
    go_wp2_with fail
    go_step3
    refine Or.inl ⟨rfl, ?_⟩
    go_wp2_with fail
    go_quiet (fail)
    go_wp2_with fail
    go_quiet (fail)
    go_wp2_with fail
    rw [Exit.noGoto_ret]
    go_ret2
    exact ⟨rfl, by first | exact (Only.refl _ _).drewN _ | exact ((Only.refl _ _).drewN _).drewN _⟩
  | false =>
    go_enter Tryz.func190, Tryz.ntmps190
    go_wp2_with fail
    refine wp_ahead _ _ (by rfl) (by rfl) ?_
    go_wp2_with fail
    go_step3
    refine Or.inl ⟨rfl, ?_⟩
    go_wp2_with fail
    go_quiet (fail)
    go_wp2_with fail
    rw [Exit.noGoto_ret]
    go_ret2
    exact ⟨rfl, by first | exact (Only.refl _ _).drewN _ | exact ((Only.refl _ _).drewN _).drewN _⟩
end Dc
end Go.Proofs.YtbnicnhkakbglaaGreatDoor
