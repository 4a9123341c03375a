/- The document's side: read, with one distance. -/
import Derived.Test.YtidbpoigbfpocaaDoorTza
import Derived.StillTailTactics
namespace Go.Proofs.YtidbpoigbfpocaaDoor
open Go.RowKit
namespace Rr
open Bm Mt Wr Pk Rp Cv Rd Rx Ry Ux Sz Tm Ti Lu Tg

set_option maxRecDepth 100000 in
set_option maxHeartbeats 1000000 in
/-- Where there is no word, mode 0 and mode 1 tell one time. -/
theorem rr_eleven (w : World) (b off c l : Nat) (bs : List Nat) (N V M : Nat) (F : Int) (P : Pre w b off c l bs N V M F) (hM : M = 0 ∨ M = 1) (hc11 : c = 11) (hR : readR bs = [F]) :
    Calls Tryd.prog 28 #[.slice (some ⟨b, off, none⟩) l c] w fun e w' => Rreads w bs e w' := by
  have HR := Lib.hid hR
  have A1 := Lib.hid P.a1
  have A3 := Lib.hid P.a3
  have HF := Lib.hid P.f
  have e0 := m_alloc P.m0 (.cells #[.int .i64 F] 2)
  have l11 := P.l11
  have lc := P.lc
  have n1 := P.n1
  have n2 := P.n2
  have HFI := Lib.hid P.hF
  have HO := Lib.hid (own_one w F)
  have HBA : Hid (Below w.heap.size w (w.alloc (.cells #[.int .i64 F] 2))) := Lib.hid ((Below.refl _ _).alloc (Nat.le_refl _) _)
  have hl11 : l = 11 := by omega
  clear P hR HFI
  subst hl11
  subst hc11
  rcases hM with hM | hM
  · have m0 : ((M : Int) == 0) = true := by simp; omega
    clear hM
    go_enter Tryd.func28, Tryd.ntmps28
    go_wp2_with fail
    refine A1.out.mono ?_
    rintro e w1 ⟨rfl, h1⟩
    rw [h1]
    clear h1 w1
    go_wp2_with fail
    refine A3.out.mono ?_
    rintro e w1 ⟨rfl, h1⟩
    rw [h1]
    clear h1 w1
    go_upto_region 7 with (fail)
    rw [HF.out]
    clear A1 A3 HF
    by_cases h1N : 1 < N
    · go_wp2_with fail
      refine wp_loop_rounds 1 ?_
      rw [rounds_succ]
      go_wp2_with fail
      go_ret2
      exact ⟨_, _, rfl, by rw [HR.out]; exact HO.out, (fun h => by cases h), HBA.out⟩
    · go_wp2_with fail
      refine wp_loop_rounds 1 ?_
      rw [rounds_succ]
      go_wp2_with fail
      go_ret2
      exact ⟨_, _, rfl, by rw [HR.out]; exact HO.out, (fun h => by cases h), HBA.out⟩
  · have m0 : ((M : Int) == 0) = false := by simp; omega
    have m1 : ((M : Int) == 1) = true := by simp; omega
    clear hM
    go_enter Tryd.func28, Tryd.ntmps28
    go_wp2_with fail
    refine A1.out.mono ?_
    rintro e w1 ⟨rfl, h1⟩
    rw [h1]
    clear h1 w1
    go_wp2_with fail
    refine A3.out.mono ?_
    rintro e w1 ⟨rfl, h1⟩
    rw [h1]
    clear h1 w1
    go_upto_region 7 with (fail)
    rw [HF.out]
    clear A1 A3 HF
    by_cases h1N : 1 < N
    · go_wp2_with fail
      refine wp_loop_rounds 1 ?_
      rw [rounds_succ]
      go_wp2_with fail
      go_ret2
      exact ⟨_, _, rfl, by rw [HR.out]; exact HO.out, (fun h => by cases h), HBA.out⟩
    · go_wp2_with fail
      refine wp_loop_rounds 1 ?_
      rw [rounds_succ]
      go_wp2_with fail
      go_ret2
      exact ⟨_, _, rfl, by rw [HR.out]; exact HO.out, (fun h => by cases h), HBA.out⟩

set_option maxRecDepth 100000 in
set_option maxHeartbeats 1000000 in
theorem rr_short (w : World) (b off c l L : Nat) (bs : List Nat) (N V M : Nat) (F : Int) (P : Pre w b off c l bs N V M F) (hM : M = 1) (hc11 : ¬ c = 11) (hL : L = l - 11) (hL8 : L < 8) (hR : readR bs = [F]) :
    Calls Tryd.prog 28 #[.slice (some ⟨b, off, none⟩) l c] w fun e w' => Rreads w bs e w' := by
  have HR := Lib.hid hR
  have A1 := Lib.hid P.a1
  have A3 := Lib.hid P.a3
  have HF := Lib.hid P.f
  have e0 := m_alloc P.m0 (.cells #[.int .i64 F] 2)
  have l11 := P.l11
  have lc := P.lc
  have n1 := P.n1
  have n2 := P.n2
  have HFI := Lib.hid P.hF
  have HO := Lib.hid (own_one w F)
  have HBA : Hid (Below w.heap.size w (w.alloc (.cells #[.int .i64 F] 2))) := Lib.hid ((Below.refl _ _).alloc (Nat.le_refl _) _)
  have hLL : (l : Int) - 11 = (L : Int) := by omega
  have hlL : l - 11 = L := by omega
  have m0 : ((M : Int) == 0) = false := by simp; omega
  have m1 : ((M : Int) == 1) = true := by simp; omega
  clear P hR HFI hM hL
  go_enter Tryd.func28, Tryd.ntmps28
  go_wp2_with fail
  refine A1.out.mono ?_
  rintro e w1 ⟨rfl, h1⟩
  rw [h1]
  clear h1 w1
  go_wp2_with fail
  refine A3.out.mono ?_
  rintro e w1 ⟨rfl, h1⟩
  rw [h1]
  clear h1 w1
  go_upto_region 7 with (fail)
  rw [HF.out]
  clear A1 A3 HF
  go_upto_region 9 with (fail)
  clear hlL hLL
  by_cases h1N : 1 < N
  · go_wp2_with fail
    refine wp_loop_rounds 1 ?_
    rw [rounds_succ]
    go_wp2_with fail
    go_ret2
    exact ⟨_, _, rfl, by rw [HR.out]; exact HO.out, (fun h => by cases h), HBA.out⟩
  · go_wp2_with fail
    refine wp_loop_rounds 1 ?_
    rw [rounds_succ]
    go_wp2_with fail
    go_ret2
    exact ⟨_, _, rfl, by rw [HR.out]; exact HO.out, (fun h => by cases h), HBA.out⟩

set_option maxRecDepth 100000 in
set_option maxHeartbeats 2000000 in
theorem rr_one (w : World) (b off c l L : Nat) (bs : List Nat) (N V M D : Nat) (F : Int) (P : Pre w b off c l bs N V M F) (hM : M = 1) (hc11 : ¬ c = 11) (hL : L = l - 11) (hL8 : 8 ≤ L) (hl : l ≤ 140737488353272)
    (hR38 : ∀ x, Below w.heap.size w x → Calls Tryd.prog 38 #[.slice (some ⟨b, off + 11, none⟩) L (c - 11), .int .i64 0, .int .i64 8] x fun e w' => e = .returned (.int .u64 (D : Nat)) ∧ w' = x) (hR : readR bs = tab (ev F D) N) :
    Calls Tryd.prog 28 #[.slice (some ⟨b, off, none⟩) l c] w fun e w' => Rreads w bs e w' := by
  obtain ⟨i0, hi, hz0, hz1, hz2⟩ := info_parts info2
  have HR := Lib.hid hR
  have A1 := Lib.hid P.a1
  have A3 := Lib.hid P.a3
  have HF := Lib.hid P.f
  have e0 := m_alloc P.m0 (.cells #[.int .i64 F] 2)
  have l11 := P.l11
  have lc := P.lc
  have n1 := P.n1
  have n2 := P.n2
  have HFI := Lib.hid P.hF
  have HO := Lib.hid (own_one w F)
  have HBA : Hid (Below w.heap.size w (w.alloc (.cells #[.int .i64 F] 2))) := Lib.hid ((Below.refl _ _).alloc (Nat.le_refl _) _)
  have m0 : ((M : Int) == 0) = false := by simp; omega
  have m1 : ((M : Int) == 1) = true := by simp; omega
  have HR38 := Lib.hid hR38
  have hLL : (l : Int) - 11 = (L : Int) := by omega
  have hlL : l - 11 = L := by omega
  have HO2 : Hid ((w.alloc (.cells #[.int .i64 F] 2)).ownsRow w.heap.size 2 1 (.slice (some ⟨w.heap.size, 0, none⟩) 1 1) 1 (i64s (tab (ev F D) 1))) := Lib.hid (by
    rw [show tab (ev F D) 1 = [F] from by show [ev F D 0] = [F]; rw [ev_zero HFI.out D]]
    exact HO.out)
  clear P hR hM hR38 hL HO HFI
  go_enter Tryd.func28, Tryd.ntmps28
  go_wp2_with fail
  refine A1.out.mono ?_
  rintro e w1 ⟨rfl, h1⟩
  rw [h1]
  clear h1 w1
  go_wp2_with fail
  refine A3.out.mono ?_
  rintro e w1 ⟨rfl, h1⟩
  rw [h1]
  clear h1 w1
  go_upto_region 7 with (fail)
  rw [HF.out]
  clear A1 A3 HF
  go_upto_region 9 with (fail)
  clear hlL hLL
  go_wp2_with fail
  go_loopw [8, 5] (fun i o wr => ∃ k, k + 1 ≤ N ∧ i = .int .i64 ((k + 1 : Nat) : Int) ∧ wr.ownsRow w.heap.size 2 1 o (k + 1) (i64s (tab (ev F D) (k + 1))) ∧ Below w.heap.size w wr) (fun i _ _ => N - (intOf i).toNat)
  case atStart => exact ⟨0, n1, rfl, HO2.out, HBA.out⟩
  case round =>
    obtain ⟨k, hk, rfl, ho, hbl⟩ := hrel
    by_cases hkn : k + 1 < N
    · obtain ⟨go, co, rfl⟩ := Go.Joins.ownsRow_form ho (by omega)
      have e1 : wr.cell? ⟨go, k, none⟩ = some (.int .i64 (ev F D k)) := by
        rw [ho.cellAt k (by omega)]
        rw [i64s_get _ k (by rw [tab_len]; omega), tab_get _ _ _ _ (by omega)]
      have hE := ev_succ F D k
      have hin := wrap_in (F + (k : Int) * (D : Int))
      have HTD : Hid (i64s (tab (ev F D) (k + 1 + 1)) = i64s (tab (ev F D) (k + 1)) ++ [.int .i64 (ev F D (k + 1))]) := Lib.hid (by rw [tab_succ, i64s_snoc])
      obtain ⟨E, hEE⟩ : ∃ E, E = ev F D k := ⟨_, rfl⟩
      obtain ⟨E2, hE2⟩ : ∃ E2, E2 = ev F D (k + 1) := ⟨_, rfl⟩
      rw [← hEE] at e1 hE
      rw [← hE2] at hE HTD
      have hin' : -9223372036854775808 ≤ E ∧ E ≤ 9223372036854775807 := by rw [hEE]; exact hin
      obtain ⟨UE, hUE⟩ : ∃ UE, UE = ut E := ⟨_, rfl⟩
      have uE := @ut_of E
      rw [← hUE] at uE
      have wE : IntKind.u64.wrap E = (UE : Int) := by rw [IntKind.wrap_u64]; omega
      have wS : wrap64 (IntKind.u64.wrap ((UE : Int) + (D : Int))) = E2 := by rw [hE, IntKind.wrap_u64]; unfold wrap64; omega
      have wS2 : IntKind.i64.wrap (IntKind.u64.wrap ((UE : Int) + (D : Int))) = E2 := by rw [IntWalk.i64_left]; exact wS
      obtain ⟨i, hik⟩ : ∃ i, i = k + 1 := ⟨_, rfl⟩
      have hi1 : IntKind.i64.wrap ((i : Int) - 1) = (k : Int) := by rw [IntWalk.i64_left]; unfold wrap64; omega
      have hi2 : wrap64 ((i : Int) - 1) = (k : Int) := by unfold wrap64; omega
      have hi3 : (i : Int) - 1 = (k : Int) := by omega
      have hi4 : IntKind.i64.wrap (k : Int) = (k : Int) := by rw [IntWalk.i64_left]; unfold wrap64; omega
      have hk1 : (k : Int) < (i : Int) := by omega
      rw [← hik] at ho hkn HTD ⊢
      have HIK := Lib.hid hik
      have hi9 : i ≤ 1000 := by omega
      have HB := Lib.hid hbl
      have HO3 := Lib.hid ho
      have F38 := Lib.hid (HR38.out _ hbl.drew)
      have hown : (wr.alloc (.cells #[.int .i64 E2] 2)).drew.ownsRow w.heap.size 2 1 (.slice (some ⟨go, 0, none⟩) i co) i (i64s (tab (ev F D) i)) := (ho.alloc _).drew
      have HWZ : Hid (w.heap.size ≤ (wr.alloc (.cells #[.int .i64 E2] 2)).drew.heap.size) := Lib.hid (by have := hbl.size; simp; omega)
      have HC1 : Hid (∀ j u, [Value.int .i64 E2][j]? = some u → (wr.alloc (.cells #[.int .i64 E2] 2)).drew.cell? ((⟨wr.heap.size, 0, none⟩ : Addr).add j) = some u) := Lib.hid fun j u h => cell_one_new wr (.int .i64 E2) 2 j u h
      have HOD := Lib.hid hown
      clear hown
      clear hik ho hbl hEE hE2 hE hin hin' hUE uE
      go_upto_region 18 with (fail)
      go_region_law (first
        | (refine step_append_own rfl (.tmp 69) (.tmp 80) 22 rfl w.heap.size 2 i0 (.int .i64 0) 1 8 Tryd.underlying22 hi hz0 hz1 hz2 rfl (by decide) (.slice (some ⟨go, 0, none⟩) i co) i (i64s (tab (ev F D) i)) (by simp [Act.eval]) HOD.out ⟨wr.heap.size, 0, none⟩ 1 1 [.int .i64 E2] (by simp [Act.eval]) rfl HC1.out (by intro u hu; simp at hu; subst hu; rfl) (by unfold maxLen; omega) (by omega) HWZ.out ?_; intro v' w6 hown6 hgrow)
        | (go_simp; go_at_call 38; refine F38.out.mono ?_; rintro e w5 ⟨rfl, rfl⟩))
      all_goals
        have b6 := Lib.hid (Below.grown (HB.out.alloc HB.out.size (.cells #[.int .i64 E2] 2)).drew hgrow HWZ.out (fun r hr => (HO3.out.lt r hr).1))
        have hO6 := Lib.hid hown6
        clear hgrow hown6
        go_wp2_with fail
        go_roundw
        case rel => exact ⟨k + 1, by have := HIK.out; omega, by rw [← HIK.out]; go_num, by have h := hO6.out; rw [← HTD.out, HIK.out] at h; exact h, b6.out⟩
        case measure => simp [intOf]; omega
    · obtain rfl : N = k + 1 := by omega
      have HB := Lib.hid hbl
      have HO3 := Lib.hid ho
      clear ho hbl
      go_wp2_with fail
      go_ret2
      exact ⟨_, _, rfl, by rw [HR.out, tab_len]; exact HO3.out, (fun h => by cases h), HB.out⟩
end Rr
end Go.Proofs.YtidbpoigbfpocaaDoor
