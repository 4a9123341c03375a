/- The document's side: read. -/
import Derived.Test.YtidbpoigbfpocaaDoorTx
import Derived.StillTailTactics
namespace Go.Proofs.YtidbpoigbfpocaaDoor
open Go.RowKit
namespace Rr
open Bm Mt Wr Pk Rp Cv Rd Rx Ry Ux Sz Tm Ti Lu Tg

/-- What lies open ahead of a mode's way. -/
structure Pre (w : World) (b off c l : Nat) (bs : List Nat) (N V M : Nat) (F : Int) : Prop where
  a1 : Calls Tryd.prog 38 #[.slice (some ⟨b, off, none⟩) l c, .int .i64 1, .int .i64 2] w fun e w' => e = .returned (.int .u64 (N : Nat)) ∧ w' = w
  a3 : Calls Tryd.prog 38 #[.slice (some ⟨b, off, none⟩) l c, .int .i64 3, .int .i64 8] w fun e w' => e = .returned (.int .u64 (V : Nat)) ∧ w' = w
  m0 : w.cell? ⟨b, off, none⟩ = some (.int .u8 (M : Nat))
  hb : b < w.heap.size
  l11 : 11 ≤ l
  lc : l ≤ c
  n1 : 1 ≤ N
  n2 : N ≤ 1000
  f : wrap64 (V : Nat) = F
  hF : -9223372036854775808 ≤ F ∧ F ≤ 9223372036854775807

/-- A byte kept. -/
theorem m_alloc {w : World} {b off M : Nat} (h : w.cell? ⟨b, off, none⟩ = some (.int .u8 (M : Nat))) (o : Obj) : (w.alloc o).cell? ⟨b, off, none⟩ = some (.int .u8 (M : Nat)) :=
  (((Below.refl w.heap.size w).alloc (Nat.le_refl _) o).cell (cell_lt h)).trans h

set_option maxRecDepth 100000 in
theorem rr_other (w : World) (b off c l : Nat) (bs : List Nat) (N V M : Nat) (F : Int) (P : Pre w b off c l bs N V M F) (h0 : M ≠ 0 ∧ M ≠ 1 ∧ M ≠ 2) (hR : readR bs = [F]) :
    Calls Tryd.prog 28 #[.slice (some ⟨b, off, none⟩) l c] w fun e w' => Rreads w bs e w' := by
  have HR := Lib.hid hR
  have A1 := Lib.hid P.a1
  have A3 := Lib.hid P.a3
  have HF := Lib.hid P.f
  have e0 := m_alloc P.m0 (.cells #[.int .i64 F] 2)
  have l11 := P.l11
  have lc := P.lc
  have n1 := P.n1
  have n2 := P.n2
  have m0 : ((M : Int) == 0) = false := by simp; omega
  have m1 : ((M : Int) == 1) = false := by simp; omega
  have m2 : ((M : Int) == 2) = false := by simp; omega
  have HO := Lib.hid (own_one w F)
  clear P hR h0
  by_cases hc11 : c = 11
  · have hl11 : l = 11 := by omega
    subst hl11
    subst hc11
    go_enter Tryd.func28, Tryd.ntmps28
    go_wp2_with fail
    refine A1.out.mono ?_
    rintro e w1 ⟨rfl, h1⟩
    rw [h1]
    clear h1 w1
    go_wp2_with fail
    refine A3.out.mono ?_
    rintro e w1 ⟨rfl, h1⟩
    rw [h1]
    clear h1 w1
    go_upto_region 7 with (fail)
    rw [HF.out]
    go_wp2_with fail
    go_ret2
    exact ⟨_, _, rfl, by rw [HR.out]; exact HO.out, (fun h => by cases h), (Below.refl _ _).alloc (Nat.le_refl _) _⟩
  · go_enter Tryd.func28, Tryd.ntmps28
    go_wp2_with fail
    refine A1.out.mono ?_
    rintro e w1 ⟨rfl, h1⟩
    rw [h1]
    clear h1 w1
    go_wp2_with fail
    refine A3.out.mono ?_
    rintro e w1 ⟨rfl, h1⟩
    rw [h1]
    clear h1 w1
    go_upto_region 7 with (fail)
    rw [HF.out]
    go_wp2_with fail
    go_ret2
    exact ⟨_, _, rfl, by rw [HR.out]; exact HO.out, (fun h => by cases h), (Below.refl _ _).alloc (Nat.le_refl _) _⟩
end Rr
end Go.Proofs.YtidbpoigbfpocaaDoor
