import Derived.Test.YtjmddomkoholoaaGreatDoorG47
import Derived.StillTailTactics

/- The document's side: read, each further time. -/
namespace Go.Proofs.YtjmddomkoholoaaGreatDoor
open Go.RowKit
namespace Rr
open Bm Mt Wr Pk Rp Cv Rd Rx Ry Ux Sz Tm Ti Lu Tg

/-- A word of the rest, read. -/
def R38 (w : World) (b off c L : Nat) (rs : List Nat) : Prop :=
  ∀ x k, Below w.heap.size w x → 8 * k + 8 ≤ L → Calls Tryz.prog 20 #[.slice (some ⟨b, off + 11, none⟩) L c, .int .i64 ((8 * k : Nat) : Int), .int .i64 8] x fun e w' => e = .returned (.int .u64 (num8 rs (8 * k) : Nat)) ∧ w' = x
theorem wh_next (F : Int) (rs : List Nat) (k : Nat) (h : 8 * (k + 1) ≤ rs.length) : wh F rs (k + 1) = wrap64 (num8 rs (8 * k) : Nat) := by
  rw [wh_succ]; unfold wordAt; rw [if_pos h]

set_option maxRecDepth 100000 in
set_option maxHeartbeats 1000000 in
theorem rr_zero (w : World) (b off c l L : Nat) (bs rs : List Nat) (N V M : Nat) (F : Int) (P : Pre w b off c l bs N V M F) (hM : M = 0) (hc11 : ¬ c = 11) (hL : L = l - 11) (hrl : rs.length = L) (hl : l ≤ 140737488353272) (hR38 : R38 w b off (c - 11) L rs)
    (hR : readR bs = tab (wh F rs) (min (N - 1) (rs.length / 8) + 1)) :
    Calls Tryz.prog 51 #[.slice (some ⟨b, off, none⟩) l c] w fun e w' => Rreads w bs e w' := by
  obtain ⟨i0, hi, hz0, hz1, hz2⟩ := info_parts info2
  have HR := Lib.hid hR
  have A1 := Lib.hid P.a1
  have A3 := Lib.hid P.a3
  have HF := Lib.hid P.f
  have e0 := m_alloc P.m0 (.cells #[.int .i64 F] 2)
  have l11 := P.l11
  have lc := P.lc
  have n1 := P.n1
  have n2 := P.n2
  have HFI := Lib.hid P.hF
  have HO := Lib.hid (own_one w F)
  have HBA : Hid (Below w.heap.size w (w.alloc (.cells #[.int .i64 F] 2))) := Lib.hid ((Below.refl _ _).alloc (Nat.le_refl _) _)
  have m0 : ((M : Int) == 0) = true := by simp; omega
  have HR38 := Lib.hid hR38
  have HRL := Lib.hid hrl
  have hLL : (l : Int) - 11 = (L : Int) := by omega
  have hlL : l - 11 = L := by omega
  have hL9 : L ≤ 140737488353272 := by omega
  have HO2 : Hid ((w.alloc (.cells #[.int .i64 F] 2)).ownsRow w.heap.size 2 1 (.slice (some ⟨w.heap.size, 0, none⟩) 1 1) 1 (i64s (tab (wh F rs) 1))) := Lib.hid HO.out
  clear P hR hM hR38 hrl hL HO
  go_enter Tryz.func51, Tryz.ntmps51
  go_wp2_with fail
  refine A1.out.mono ?_
  rintro e w1 ⟨rfl, h1⟩
  rw [h1]
  clear h1 w1
  go_wp2_with fail
  refine A3.out.mono ?_
  rintro e w1 ⟨rfl, h1⟩
  rw [h1]
  clear h1 w1
  go_upto_region 7 with (fail)
  rw [HF.out]
  clear A1 A3 HF
  go_upto_region 9 with (fail)
  clear hlL hLL
  go_wp2_with fail
  go_loopw [7, 5] (fun i o wr => ∃ k, k + 1 ≤ N ∧ 8 * k ≤ L ∧ i = .int .i64 ((k + 1 : Nat) : Int) ∧ wr.ownsRow w.heap.size 2 1 o (k + 1) (i64s (tab (wh F rs) (k + 1))) ∧ Below w.heap.size w wr) (fun i _ _ => N - (intOf i).toNat)
  case atStart => exact ⟨0, n1, Nat.zero_le _, rfl, HO2.out, HBA.out⟩
  case round =>
    obtain ⟨k, hk, hk8, rfl, ho, hbl⟩ := hrel
    by_cases hgo : k + 1 < N ∧ 8 * (k + 1) ≤ L
    · obtain ⟨hkn, hkL⟩ := hgo
      have R := Lib.hid (HR38.out wr k hbl (by omega))
      have HTD : Hid (i64s (tab (wh F rs) (k + 1 + 1)) = i64s (tab (wh F rs) (k + 1)) ++ [.int .i64 (wrap64 (num8 rs (8 * k) : Nat))]) := Lib.hid (by rw [tab_succ, i64s_snoc, wh_next F rs k (by rw [HRL.out]; exact hkL)])
      obtain ⟨U, hU⟩ : ∃ U, U = num8 rs (8 * k) := ⟨_, rfl⟩
      obtain ⟨J, hJ⟩ : ∃ J, J = 8 * k := ⟨_, rfl⟩
      obtain ⟨i, hik⟩ : ∃ i, i = k + 1 := ⟨_, rfl⟩
      rw [← hU, ← hJ] at R
      rw [← hU, ← hik] at HTD
      rw [← hik] at ho hkn hkL ⊢
      have h88 : 8 * (i : Int) - 8 = (J : Int) := by omega
      have HIK := Lib.hid hik
      have hi9 : i ≤ 1000 := by omega
      have HB := Lib.hid hbl
      have hbs := hbl.size
      have hown := ho
      clear hU hJ hik ho hbl
      go_wp2_with (first
        | (go_at_call 20; refine R.out.mono ?_; rintro e w5 ⟨rfl, h5⟩; rw [h5]; clear h5 w5)
        | (at_builtin; refine wpList_append_own _ rfl (.tmp 48) (.tmp 55) 54 rfl w.heap.size 2 i0 (.int .i64 0) 1 8 Tryz.underlying54 hi hz0 hz1 hz2 rfl (by decide) _ i _ rfl (hown.alloc _) ⟨wr.heap.size, 0, none⟩ 1 1 [.int .i64 (wrap64 (U : Nat))] rfl rfl ?c1 ?c2 ?c3 ?c4 ?c5 ?_))
      case c1 => exact cell_one_new _ _ _
      case c2 => intro u hu; simp at hu; subst hu; rfl
      case c3 => unfold maxLen; omega
      case c4 => omega
      case c5 => simp; omega
      intro v' w6 hown' hgrow _
      have b6 := Lib.hid (Below.grown (HB.out.alloc (Nat.le_trans (Nat.le_refl _) hbs) _) hgrow (by simp; omega) (fun r hr => (hown.lt r hr).1))
      clear hgrow
      have hO6 := Lib.hid hown'
      clear hown'
      go_wp2_with fail
      go_roundw
      case rel => exact ⟨k + 1, by have := HIK.out; omega, by have := HIK.out; omega, by rw [← HIK.out]; go_num, by have h := hO6.out; rw [← HTD.out, HIK.out] at h; exact h, b6.out⟩
      case measure => simp [intOf]; omega
    · have HE : Hid (k + 1 = min (N - 1) (rs.length / 8) + 1) := Lib.hid (by rw [HRL.out]; omega)
      have HB := Lib.hid hbl
      have HO3 := Lib.hid ho
      obtain ⟨i, hik⟩ : ∃ i, i = k + 1 := ⟨_, rfl⟩
      have HIK := Lib.hid hik
      rw [← hik] at hgo ⊢
      have hi9 : i ≤ 1000 := by omega
      clear ho hbl hik
      by_cases hN : i < N
      · have hL8 : ¬ 8 * i ≤ L := fun h => hgo ⟨hN, h⟩
        clear hgo
        go_wp2_with fail
        go_ret2
        exact ⟨_, _, rfl, by rw [HR.out, tab_len, ← HE.out]; exact HO3.out, (fun h => by cases h), HB.out⟩
      · clear hgo
        go_wp2_with fail
        go_ret2
        exact ⟨_, _, rfl, by rw [HR.out, tab_len, ← HE.out]; exact HO3.out, (fun h => by cases h), HB.out⟩
end Rr
end Go.Proofs.YtjmddomkoholoaaGreatDoor

/- The document's side: read, with one distance. -/
namespace Go.Proofs.YtjmddomkoholoaaGreatDoor
open Go.RowKit
namespace Rr
open Bm Mt Wr Pk Rp Cv Rd Rx Ry Ux Sz Tm Ti Lu Tg

set_option maxRecDepth 100000 in
set_option maxHeartbeats 1000000 in
/-- Where there is no word, mode 0 and mode 1 tell one time. -/
theorem rr_eleven (w : World) (b off c l : Nat) (bs : List Nat) (N V M : Nat) (F : Int) (P : Pre w b off c l bs N V M F) (hM : M = 0 ∨ M = 1) (hc11 : c = 11) (hR : readR bs = [F]) :
    Calls Tryz.prog 51 #[.slice (some ⟨b, off, none⟩) l c] w fun e w' => Rreads w bs e w' := by
  have HR := Lib.hid hR
  have A1 := Lib.hid P.a1
  have A3 := Lib.hid P.a3
  have HF := Lib.hid P.f
  have e0 := m_alloc P.m0 (.cells #[.int .i64 F] 2)
  have l11 := P.l11
  have lc := P.lc
  have n1 := P.n1
  have n2 := P.n2
  have HFI := Lib.hid P.hF
  have HO := Lib.hid (own_one w F)
  have HBA : Hid (Below w.heap.size w (w.alloc (.cells #[.int .i64 F] 2))) := Lib.hid ((Below.refl _ _).alloc (Nat.le_refl _) _)
  have hl11 : l = 11 := by omega
  clear P hR HFI
  subst hl11
  subst hc11
  rcases hM with hM | hM
  · have m0 : ((M : Int) == 0) = true := by simp; omega
    clear hM
    go_enter Tryz.func51, Tryz.ntmps51
    go_wp2_with fail
    refine A1.out.mono ?_
    rintro e w1 ⟨rfl, h1⟩
    rw [h1]
    clear h1 w1
    go_wp2_with fail
    refine A3.out.mono ?_
    rintro e w1 ⟨rfl, h1⟩
    rw [h1]
    clear h1 w1
    go_upto_region 7 with (fail)
    rw [HF.out]
    clear A1 A3 HF
    by_cases h1N : 1 < N
    · go_wp2_with fail
      refine wp_loop_rounds 1 ?_
      rw [rounds_succ]
      go_wp2_with fail
      go_ret2
      exact ⟨_, _, rfl, by rw [HR.out]; exact HO.out, (fun h => by cases h), HBA.out⟩
    · go_wp2_with fail
      refine wp_loop_rounds 1 ?_
      rw [rounds_succ]
      go_wp2_with fail
      go_ret2
      exact ⟨_, _, rfl, by rw [HR.out]; exact HO.out, (fun h => by cases h), HBA.out⟩
  · have m0 : ((M : Int) == 0) = false := by simp; omega
    have m1 : ((M : Int) == 1) = true := by simp; omega
    clear hM
    go_enter Tryz.func51, Tryz.ntmps51
    go_wp2_with fail
    refine A1.out.mono ?_
    rintro e w1 ⟨rfl, h1⟩
    rw [h1]
    clear h1 w1
    go_wp2_with fail
    refine A3.out.mono ?_
    rintro e w1 ⟨rfl, h1⟩
    rw [h1]
    clear h1 w1
    go_upto_region 7 with (fail)
    rw [HF.out]
    clear A1 A3 HF
    by_cases h1N : 1 < N
    · go_wp2_with fail
      refine wp_loop_rounds 1 ?_
      rw [rounds_succ]
      go_wp2_with fail
      go_ret2
      exact ⟨_, _, rfl, by rw [HR.out]; exact HO.out, (fun h => by cases h), HBA.out⟩
    · go_wp2_with fail
      refine wp_loop_rounds 1 ?_
      rw [rounds_succ]
      go_wp2_with fail
      go_ret2
      exact ⟨_, _, rfl, by rw [HR.out]; exact HO.out, (fun h => by cases h), HBA.out⟩

set_option maxRecDepth 100000 in
set_option maxHeartbeats 1000000 in
theorem rr_short (w : World) (b off c l L : Nat) (bs : List Nat) (N V M : Nat) (F : Int) (P : Pre w b off c l bs N V M F) (hM : M = 1) (hc11 : ¬ c = 11) (hL : L = l - 11) (hL8 : L < 8) (hR : readR bs = [F]) :
    Calls Tryz.prog 51 #[.slice (some ⟨b, off, none⟩) l c] w fun e w' => Rreads w bs e w' := by
  have HR := Lib.hid hR
  have A1 := Lib.hid P.a1
  have A3 := Lib.hid P.a3
  have HF := Lib.hid P.f
  have e0 := m_alloc P.m0 (.cells #[.int .i64 F] 2)
  have l11 := P.l11
  have lc := P.lc
  have n1 := P.n1
  have n2 := P.n2
  have HFI := Lib.hid P.hF
  have HO := Lib.hid (own_one w F)
  have HBA : Hid (Below w.heap.size w (w.alloc (.cells #[.int .i64 F] 2))) := Lib.hid ((Below.refl _ _).alloc (Nat.le_refl _) _)
  have hLL : (l : Int) - 11 = (L : Int) := by omega
  have hlL : l - 11 = L := by omega
  have m0 : ((M : Int) == 0) = false := by simp; omega
  have m1 : ((M : Int) == 1) = true := by simp; omega
  clear P hR HFI hM hL
  go_enter Tryz.func51, Tryz.ntmps51
  go_wp2_with fail
  refine A1.out.mono ?_
  rintro e w1 ⟨rfl, h1⟩
  rw [h1]
  clear h1 w1
  go_wp2_with fail
  refine A3.out.mono ?_
  rintro e w1 ⟨rfl, h1⟩
  rw [h1]
  clear h1 w1
  go_upto_region 7 with (fail)
  rw [HF.out]
  clear A1 A3 HF
  go_upto_region 9 with (fail)
  clear hlL hLL
  by_cases h1N : 1 < N
  · go_wp2_with fail
    refine wp_loop_rounds 1 ?_
    rw [rounds_succ]
    go_wp2_with fail
    go_ret2
    exact ⟨_, _, rfl, by rw [HR.out]; exact HO.out, (fun h => by cases h), HBA.out⟩
  · go_wp2_with fail
    refine wp_loop_rounds 1 ?_
    rw [rounds_succ]
    go_wp2_with fail
    go_ret2
    exact ⟨_, _, rfl, by rw [HR.out]; exact HO.out, (fun h => by cases h), HBA.out⟩

set_option maxRecDepth 100000 in
set_option maxHeartbeats 2000000 in
theorem rr_one (w : World) (b off c l L : Nat) (bs : List Nat) (N V M D : Nat) (F : Int) (P : Pre w b off c l bs N V M F) (hM : M = 1) (hc11 : ¬ c = 11) (hL : L = l - 11) (hL8 : 8 ≤ L) (hl : l ≤ 140737488353272)
    (hR38 : ∀ x, Below w.heap.size w x → Calls Tryz.prog 20 #[.slice (some ⟨b, off + 11, none⟩) L (c - 11), .int .i64 0, .int .i64 8] x fun e w' => e = .returned (.int .u64 (D : Nat)) ∧ w' = x) (hR : readR bs = tab (ev F D) N) :
    Calls Tryz.prog 51 #[.slice (some ⟨b, off, none⟩) l c] w fun e w' => Rreads w bs e w' := by
  obtain ⟨i0, hi, hz0, hz1, hz2⟩ := info_parts info2
  have HR := Lib.hid hR
  have A1 := Lib.hid P.a1
  have A3 := Lib.hid P.a3
  have HF := Lib.hid P.f
  have e0 := m_alloc P.m0 (.cells #[.int .i64 F] 2)
  have l11 := P.l11
  have lc := P.lc
  have n1 := P.n1
  have n2 := P.n2
  have HFI := Lib.hid P.hF
  have HO := Lib.hid (own_one w F)
  have HBA : Hid (Below w.heap.size w (w.alloc (.cells #[.int .i64 F] 2))) := Lib.hid ((Below.refl _ _).alloc (Nat.le_refl _) _)
  have m0 : ((M : Int) == 0) = false := by simp; omega
  have m1 : ((M : Int) == 1) = true := by simp; omega
  have HR38 := Lib.hid hR38
  have hLL : (l : Int) - 11 = (L : Int) := by omega
  have hlL : l - 11 = L := by omega
  have HO2 : Hid ((w.alloc (.cells #[.int .i64 F] 2)).ownsRow w.heap.size 2 1 (.slice (some ⟨w.heap.size, 0, none⟩) 1 1) 1 (i64s (tab (ev F D) 1))) := Lib.hid (by
    rw [show tab (ev F D) 1 = [F] from by show [ev F D 0] = [F]; rw [ev_zero HFI.out D]]
    exact HO.out)
  clear P hR hM hR38 hL HO HFI
  go_enter Tryz.func51, Tryz.ntmps51
  go_wp2_with fail
  refine A1.out.mono ?_
  rintro e w1 ⟨rfl, h1⟩
  rw [h1]
  clear h1 w1
  go_wp2_with fail
  refine A3.out.mono ?_
  rintro e w1 ⟨rfl, h1⟩
  rw [h1]
  clear h1 w1
  go_upto_region 7 with (fail)
  rw [HF.out]
  clear A1 A3 HF
  go_upto_region 9 with (fail)
  clear hlL hLL
  go_wp2_with fail
  go_loopw [8, 5] (fun i o wr => ∃ k, k + 1 ≤ N ∧ i = .int .i64 ((k + 1 : Nat) : Int) ∧ wr.ownsRow w.heap.size 2 1 o (k + 1) (i64s (tab (ev F D) (k + 1))) ∧ Below w.heap.size w wr) (fun i _ _ => N - (intOf i).toNat)
  case atStart => exact ⟨0, n1, rfl, HO2.out, HBA.out⟩
  case round =>
    obtain ⟨k, hk, rfl, ho, hbl⟩ := hrel
    by_cases hkn : k + 1 < N
    · obtain ⟨go, co, rfl⟩ := Go.Joins.ownsRow_form ho (by omega)
      have e1 : wr.cell? ⟨go, k, none⟩ = some (.int .i64 (ev F D k)) := by
        rw [ho.cellAt k (by omega)]
        rw [i64s_get _ k (by rw [tab_len]; omega), tab_get _ _ _ _ (by omega)]
      have hE := ev_succ F D k
      have hin := wrap_in (F + (k : Int) * (D : Int))
      have HTD : Hid (i64s (tab (ev F D) (k + 1 + 1)) = i64s (tab (ev F D) (k + 1)) ++ [.int .i64 (ev F D (k + 1))]) := Lib.hid (by rw [tab_succ, i64s_snoc])
      obtain ⟨E, hEE⟩ : ∃ E, E = ev F D k := ⟨_, rfl⟩
      obtain ⟨E2, hE2⟩ : ∃ E2, E2 = ev F D (k + 1) := ⟨_, rfl⟩
      rw [← hEE] at e1 hE
      rw [← hE2] at hE HTD
      have hin' : -9223372036854775808 ≤ E ∧ E ≤ 9223372036854775807 := by rw [hEE]; exact hin
      obtain ⟨UE, hUE⟩ : ∃ UE, UE = ut E := ⟨_, rfl⟩
      have uE := @ut_of E
      rw [← hUE] at uE
      have wE : IntKind.u64.wrap E = (UE : Int) := by rw [IntKind.wrap_u64]; omega
      have wS : wrap64 (IntKind.u64.wrap ((UE : Int) + (D : Int))) = E2 := by rw [hE, IntKind.wrap_u64]; unfold wrap64; omega
      have wS2 : IntKind.i64.wrap (IntKind.u64.wrap ((UE : Int) + (D : Int))) = E2 := by rw [IntWalk.i64_left]; exact wS
      obtain ⟨i, hik⟩ : ∃ i, i = k + 1 := ⟨_, rfl⟩
      have hi1 : IntKind.i64.wrap ((i : Int) - 1) = (k : Int) := by rw [IntWalk.i64_left]; unfold wrap64; omega
      have hi2 : wrap64 ((i : Int) - 1) = (k : Int) := by unfold wrap64; omega
      have hi3 : (i : Int) - 1 = (k : Int) := by omega
      have hi4 : IntKind.i64.wrap (k : Int) = (k : Int) := by rw [IntWalk.i64_left]; unfold wrap64; omega
      have hk1 : (k : Int) < (i : Int) := by omega
      rw [← hik] at ho hkn HTD ⊢
      have HIK := Lib.hid hik
      have hi9 : i ≤ 1000 := by omega
      have HB := Lib.hid hbl
      have HO3 := Lib.hid ho
      have F38 := Lib.hid (HR38.out _ hbl.drew)
      have hown : (wr.alloc (.cells #[.int .i64 E2] 2)).drew.ownsRow w.heap.size 2 1 (.slice (some ⟨go, 0, none⟩) i co) i (i64s (tab (ev F D) i)) := (ho.alloc _).drew
      have HWZ : Hid (w.heap.size ≤ (wr.alloc (.cells #[.int .i64 E2] 2)).drew.heap.size) := Lib.hid (by have := hbl.size; simp; omega)
      have HC1 : Hid (∀ j u, [Value.int .i64 E2][j]? = some u → (wr.alloc (.cells #[.int .i64 E2] 2)).drew.cell? ((⟨wr.heap.size, 0, none⟩ : Addr).add j) = some u) := Lib.hid fun j u h => cell_one_new wr (.int .i64 E2) 2 j u h
      have HOD := Lib.hid hown
      clear hown
      clear hik ho hbl hEE hE2 hE hin hin' hUE uE
      go_upto_region 18 with (fail)
      go_region_law (first
        | (refine step_append_own rfl (.tmp 69) (.tmp 80) 54 rfl w.heap.size 2 i0 (.int .i64 0) 1 8 Tryz.underlying54 hi hz0 hz1 hz2 rfl (by decide) (.slice (some ⟨go, 0, none⟩) i co) i (i64s (tab (ev F D) i)) (by simp [Act.eval]) HOD.out ⟨wr.heap.size, 0, none⟩ 1 1 [.int .i64 E2] (by simp [Act.eval]) rfl HC1.out (by intro u hu; simp at hu; subst hu; rfl) (by unfold maxLen; omega) (by omega) HWZ.out ?_; intro v' w6 hown6 hgrow)
        | (go_simp; go_at_call 20; refine F38.out.mono ?_; rintro e w5 ⟨rfl, rfl⟩))
      all_goals
        have b6 := Lib.hid (Below.grown (HB.out.alloc HB.out.size (.cells #[.int .i64 E2] 2)).drew hgrow HWZ.out (fun r hr => (HO3.out.lt r hr).1))
        have hO6 := Lib.hid hown6
        clear hgrow hown6
        go_wp2_with fail
        go_roundw
        case rel => exact ⟨k + 1, by have := HIK.out; omega, by rw [← HIK.out]; go_num, by have h := hO6.out; rw [← HTD.out, HIK.out] at h; exact h, b6.out⟩
        case measure => simp [intOf]; omega
    · obtain rfl : N = k + 1 := by omega
      have HB := Lib.hid hbl
      have HO3 := Lib.hid ho
      clear ho hbl
      go_wp2_with fail
      go_ret2
      exact ⟨_, _, rfl, by rw [HR.out, tab_len]; exact HO3.out, (fun h => by cases h), HB.out⟩
end Rr
end Go.Proofs.YtjmddomkoholoaaGreatDoor

/- The document's side: read, with changes. -/
namespace Go.Proofs.YtjmddomkoholoaaGreatDoor
open Go.RowKit
namespace Rr
open Bm Mt Wr Pk Rp Cv Rd Rx Ry Ux Sz Tm Ti Lu Tg

def dn (cs : List Nat) (k : Nat) : Nat := (accs cs k % 18446744073709551616).toNat
theorem dn_of (cs : List Nat) (k : Nat) : ((dn cs k : Nat) : Int) = accs cs k % 18446744073709551616 := by unfold dn; omega
/-- The rest's value. -/
def RV (b off c L : Nat) (rv : Value) : Prop := (c ≠ 11 ∧ rv = .slice (some ⟨b, off + 11, none⟩) L (c - 11)) ∨ (c = 11 ∧ ∃ a cc, rv = .slice a 0 cc)

set_option maxRecDepth 100000 in
set_option maxHeartbeats 2000000 in
theorem rr_two (w : World) (b off c l L : Nat) (bs cs : List Nat) (N V M J : Nat) (F : Int) (P : Pre w b off c l bs N V M F) (hM : M = 2) (hL : L = l - 11) (hJ : J = N - 1)
    (hcl : cs.length ≤ J) (h64 : ∀ k, cs.getD k 0 < 18446744073709551616)
    (h39 : ∀ x rv, Below w.heap.size w x → RV b off c L rv → Calls Tryz.prog 94 #[rv, .int .i64 (J : Nat)] x fun e w' => ∃ r q, e = .returned (.tuple #[r, .int .i64 q]) ∧ Iu w' r cs ∧ (∀ g, r.ownBlock = some g → x.heap.size ≤ g) ∧ Below x.heap.size x w')
    (hR : readR bs = tab (un F cs) (cs.length + 1)) :
    Calls Tryz.prog 51 #[.slice (some ⟨b, off, none⟩) l c] w fun e w' => Rreads w bs e w' := by
  obtain ⟨i0, hi, hz0, hz1, hz2⟩ := info_parts info2
  have HR := Lib.hid hR
  have A1 := Lib.hid P.a1
  have A3 := Lib.hid P.a3
  have HF := Lib.hid P.f
  have e0 := m_alloc P.m0 (.cells #[.int .i64 F] 2)
  have l11 := P.l11
  have lc := P.lc
  have n1 := P.n1
  have n2 := P.n2
  have HFI := Lib.hid P.hF
  have HO := Lib.hid (own_one w F)
  have HBA : Hid (Below w.heap.size w (w.alloc (.cells #[.int .i64 F] 2))) := Lib.hid ((Below.refl _ _).alloc (Nat.le_refl _) _)
  have m0 : ((M : Int) == 0) = false := by simp; omega
  have m1 : ((M : Int) == 1) = false := by simp; omega
  have m2 : ((M : Int) == 2) = true := by simp; omega
  have hLL : (l : Int) - 11 = (L : Int) := by omega
  have hlL : l - 11 = L := by omega
  have hNJ : (N : Int) - 1 = (J : Int) := by omega
  have hJ9 : J ≤ 1000 := by omega
  have H64 := Lib.hid h64
  have HSA : Hid ((w.alloc (.cells #[.int .i64 F] 2)).heap.size = w.heap.size + 1) := Lib.hid (by simp)
  have HO2 : Hid ((w.alloc (.cells #[.int .i64 F] 2)).ownsRow w.heap.size 2 1 (.slice (some ⟨w.heap.size, 0, none⟩) 1 1) 1 (i64s (tab (un F cs) 1))) := Lib.hid (by
    rw [show tab (un F cs) 1 = [F] from by show [un F cs 0] = [F]; rw [un_zero HFI.out cs]]
    exact HO.out)
  clear P hM h64 hJ hL
  by_cases hm0 : cs.length = 0
  · have hcs : cs = [] := List.length_eq_zero_iff.1 hm0
    have HR : Hid (readR bs = [F]) := Lib.hid (by rw [hR, hcs]; show [un F [] 0] = [F]; rw [un_zero HFI.out])
    have F39z : Hid (∀ x rv, Below w.heap.size w x → RV b off c L rv → Calls Tryz.prog 94 #[rv, .int .i64 (J : Nat)] x fun e w' => ∃ a c q, e = .returned (.tuple #[.slice a 0 c, .int .i64 q]) ∧ Below x.heap.size x w') := Lib.hid fun x rv hx hr => (h39 x rv hx hr).mono fun e w' ⟨r, q, he, hI, _, bl⟩ => by
      rw [hcs] at hI
      rcases hI.cases with ⟨a, c, rfl, _⟩ | ⟨h0, _⟩
      · exact ⟨a, c, q, he, bl⟩
      · simp at h0
    clear h39 hR hm0 hcs hcl HO2 HFI H64
    by_cases hc11 : c = 11
    · have hl11 : l = 11 := by omega
      have hL0 : L = 0 := by omega
      have HRV : Hid (∀ a cc, RV b off c L (.slice a 0 cc)) := Lib.hid fun a cc => .inr ⟨hc11, a, cc, rfl⟩
      subst hl11
      subst hc11
      clear hlL hLL
      subst hL0
      go_enter Tryz.func51, Tryz.ntmps51
      go_wp2_with fail
      refine A1.out.mono ?_
      rintro e w1 ⟨rfl, h1⟩
      rw [h1]
      clear h1 w1
      go_wp2_with fail
      refine A3.out.mono ?_
      rintro e w1 ⟨rfl, h1⟩
      rw [h1]
      clear h1 w1
      go_upto_region 7 with (fail)
      rw [HF.out]
      clear A1 A3 HF
      go_upto_region 9 with (fail)
      go_wp2_with fail
      refine (F39z.out _ _ HBA.out (HRV.out _ _)).mono ?_
      rintro e w9 ⟨a9, c9, q9, rfl, b9⟩
      have O9 := Lib.hid (own_below HO.out b9)
      have B9 := Lib.hid (HBA.out.trans (b9.mono HBA.out.size))
      clear b9
      go_wp2_with fail
      refine wp_loop_rounds 1 ?_
      rw [rounds_succ]
      go_wp2_with fail
      go_ret2
      exact ⟨_, _, rfl, by rw [HR.out]; exact O9.out, (fun h => by cases h), B9.out⟩
    · have HRV : Hid (RV b off c L (.slice (some ⟨b, off + 11, none⟩) L (c - 11))) := Lib.hid (.inl ⟨hc11, rfl⟩)
      go_enter Tryz.func51, Tryz.ntmps51
      go_wp2_with fail
      refine A1.out.mono ?_
      rintro e w1 ⟨rfl, h1⟩
      rw [h1]
      clear h1 w1
      go_wp2_with fail
      refine A3.out.mono ?_
      rintro e w1 ⟨rfl, h1⟩
      rw [h1]
      clear h1 w1
      go_upto_region 7 with (fail)
      rw [HF.out]
      clear A1 A3 HF
      go_upto_region 9 with (fail)
      go_wp2_with fail
      refine (F39z.out _ _ HBA.out HRV.out).mono ?_
      rintro e w9 ⟨a9, c9, q9, rfl, b9⟩
      have O9 := Lib.hid (own_below HO.out b9)
      have B9 := Lib.hid (HBA.out.trans (b9.mono HBA.out.size))
      clear b9
      go_wp2_with fail
      refine wp_loop_rounds 1 ?_
      rw [rounds_succ]
      go_wp2_with fail
      go_ret2
      exact ⟨_, _, rfl, by rw [HR.out]; exact O9.out, (fun h => by cases h), B9.out⟩
  · obtain ⟨m, hm⟩ : ∃ m, m = cs.length := ⟨_, rfl⟩
    have HM := Lib.hid hm
    have F39s : Hid (∀ x rv, Below w.heap.size w x → RV b off c L rv → Calls Tryz.prog 94 #[rv, .int .i64 (J : Nat)] x fun e w' => ∃ b9 o9 c9 q, e = .returned (.tuple #[.slice (some ⟨b9, o9, none⟩) m c9, .int .i64 q]) ∧ x.heap.size ≤ b9 ∧ b9 < w'.heap.size ∧ (∀ i, i < m → w'.cell? ⟨b9, o9 + i, none⟩ = some (.int .u64 (cs.getD i 0 : Nat))) ∧ m ≤ c9 ∧ Below x.heap.size x w') := Lib.hid fun x rv hx hr => (h39 x rv hx hr).mono fun e w' ⟨r, q, he, hI, hg, bl⟩ => by
      rcases hI.cases with ⟨a, c, rfl, h⟩ | ⟨_, b, off, c, rfl, h2, h3, h4⟩
      · rw [h] at hm0; simp at hm0
      · rw [← hm] at he h4 h2
        exact ⟨b, off, c, q, he, hg b rfl, h3, h4, h2, bl⟩
    rw [← hm] at hcl hm0
    clear h39 hR hm HO HFI
    by_cases hc11 : c = 11
    · have hl11 : l = 11 := by omega
      have hL0 : L = 0 := by omega
      have HRV : Hid (∀ a cc, RV b off c L (.slice a 0 cc)) := Lib.hid fun a cc => .inr ⟨hc11, a, cc, rfl⟩
      subst hl11
      subst hc11
      clear hlL hLL
      subst hL0
      go_enter Tryz.func51, Tryz.ntmps51
      go_wp2_with fail
      refine A1.out.mono ?_
      rintro e w1 ⟨rfl, h1⟩
      rw [h1]
      clear h1 w1
      go_wp2_with fail
      refine A3.out.mono ?_
      rintro e w1 ⟨rfl, h1⟩
      rw [h1]
      clear h1 w1
      go_upto_region 7 with (fail)
      rw [HF.out]
      clear A1 A3 HF
      go_upto_region 9 with (fail)
      go_wp2_with fail
      refine (F39s.out _ _ HBA.out (HRV.out _ _)).mono ?_
      rintro e w9 ⟨b9, o9, c9, q9, rfl, hlo9, hb9, hcell9, hc9, bl9⟩
      have O9 := Lib.hid (own_below HO2.out bl9)
      have B9 := Lib.hid (HBA.out.trans (bl9.mono HBA.out.size))
      have HC9 := Lib.hid hcell9
      clear bl9 hcell9
      go_wp2_with fail
      go_loopw [12, 11, 5, 93] (fun _ d o i wr => ∃ k, k ≤ m ∧ i = .int .i64 (k : Nat) ∧ d = .int .u64 (dn cs k : Nat) ∧ wr.ownsRow w.heap.size 2 1 o (k + 1) (i64s (tab (un F cs) (k + 1))) ∧ o.ownBlock ≠ some b9 ∧ Below w.heap.size w wr ∧ (∀ i, i < m → wr.cell? ⟨b9, o9 + i, none⟩ = some (.int .u64 (cs.getD i 0 : Nat))) ∧ b9 < wr.heap.size) (fun _ _ _ i _ => m - (intOf i).toNat)
      case atStart => exact ⟨0, Nat.zero_le _, rfl, rfl, O9.out, by simp [Value.ownBlock]; have := HSA.out; omega, B9.out, HC9.out, hb9⟩
      case round =>
        obtain ⟨k, hk, rfl, rfl, ho, hne, hbl, hcs, hblt⟩ := hrel
        by_cases hkn : k < m
        · obtain ⟨go, co, rfl⟩ := Go.Joins.ownsRow_form ho (by omega)
          have e1 : wr.cell? ⟨go, k, none⟩ = some (.int .i64 (un F cs k)) := by
            rw [ho.cellAt k (by omega)]
            rw [i64s_get _ k (by rw [tab_len]; omega), tab_get _ _ _ _ (by omega)]
          have e2 := hcs k hkn
          have hc64 := H64.out k
          have hus := un_succ F cs k
          have hin : -9223372036854775808 ≤ un F cs k ∧ un F cs k ≤ 9223372036854775807 := wrap_in _
          have hd1 := dn_of cs k
          have hd2 := dn_of cs (k + 1)
          have hac : accs cs (k + 1) = accs cs k + zag (cs.getD k 0 : Nat) := rfl
          have HTD : Hid (i64s (tab (un F cs) (k + 1 + 1)) = i64s (tab (un F cs) (k + 1)) ++ [.int .i64 (un F cs (k + 1))]) := Lib.hid (by rw [tab_succ, i64s_snoc])
          obtain ⟨C, hC⟩ : ∃ C, C = cs.getD k 0 := ⟨_, rfl⟩
          obtain ⟨G, hG⟩ : ∃ G, G = zag (C : Nat) := ⟨_, rfl⟩
          obtain ⟨E, hE⟩ : ∃ E, E = un F cs k := ⟨_, rfl⟩
          obtain ⟨E2, hE2⟩ : ∃ E2, E2 = un F cs (k + 1) := ⟨_, rfl⟩
          obtain ⟨D1, hD1⟩ : ∃ D1, D1 = dn cs k := ⟨_, rfl⟩
          obtain ⟨D2, hD2⟩ : ∃ D2, D2 = dn cs (k + 1) := ⟨_, rfl⟩
          obtain ⟨A1, hA1⟩ : ∃ A1, A1 = accs cs k := ⟨_, rfl⟩
          obtain ⟨A2, hA2⟩ : ∃ A2, A2 = accs cs (k + 1) := ⟨_, rfl⟩
          rw [← hC] at e2 hc64 hac
          rw [← hG, ← hA1, ← hA2] at hac
          rw [← hE] at e1 hus hin
          rw [← hE2] at hus HTD
          rw [← hA2] at hus hd2
          rw [← hA1] at hd1
          rw [← hD1] at hd1 ⊢
          rw [← hD2] at hd2
          have HD2 := Lib.hid hD2
          obtain ⟨UE, hUE⟩ : ∃ UE, UE = ut E := ⟨_, rfl⟩
          have uE := @ut_of E
          rw [← hUE] at uE
          have wE : IntKind.u64.wrap E = (UE : Int) := by rw [IntKind.wrap_u64]; omega
          have wG : IntKind.u64.wrap ((D1 : Int) + IntKind.u64.wrap G) = (D2 : Int) := by simp only [IntKind.wrap_u64]; omega
          have wS : wrap64 (IntKind.u64.wrap ((UE : Int) + (D2 : Int))) = E2 := by rw [hus, IntKind.wrap_u64]; unfold wrap64; omega
          have F40 : Hid (∀ x, Calls Tryz.prog 95 #[.int .u64 (C : Nat)] x fun e w' => e = .returned (.int .i64 G) ∧ w' = x) := Lib.hid fun x => by
            rw [hG]
            exact zag25 (C : Nat) (by omega) (by omega) x
          have HB := Lib.hid hbl
          have hbs := hbl.size
          have hown := ho
          have HNE := Lib.hid hne
          have HCS := Lib.hid hcs
          have hk1 : (k : Int) < ((k + 1 : Nat) : Int) := by omega
          clear ho hbl hE hE2 hC hG hD1 hD2 hA1 hA2 hUE uE hus hin hd1 hd2 hac hc64 hne hcs
          obtain ⟨j, hj⟩ : ∃ j, j = k + 1 := ⟨_, rfl⟩
          rw [← hj] at hown HTD hk1 HNE
          have HJ := Lib.hid hj
          have hj9 : j ≤ 1000 := by omega
          rw [← hj]
          clear hj
          go_wp2_with fail
          refine (F40.out _).mono ?_
          rintro e w5 ⟨rfl, h5⟩
          rw [h5]
          clear h5 w5
          go_wp2_with (at_builtin; refine wpList_append_own_at _ rfl (.tmp 104) (.tmp 113) 54 rfl w.heap.size 2 i0 (.int .i64 0) 1 8 Tryz.underlying54 hi hz0 hz1 hz2 rfl (by decide) _ j _ rfl (hown.alloc _) ⟨wr.heap.size, 0, none⟩ 1 1 [.int .i64 E2] rfl rfl ?c1 ?c2 ?c3 ?c4 ?c5 ?_)
          case c1 => exact cell_one_new _ _ _
          case c2 => intro u hu; simp at hu; subst hu; rfl
          case c3 => unfold maxLen; omega
          case c4 => omega
          case c5 => simp; omega
          intro v' w6 hown' hgrow _ hat
          have b6 := Lib.hid (Below.grown (HB.out.alloc (Nat.le_trans (Nat.le_refl _) hbs) _) hgrow (by simp; omega) (fun r hr => (hown.lt r hr).1))
          have HNE6 : Hid (v'.ownBlock ≠ some b9) := Lib.hid fun h => by
            rcases hat with h' | h'
            · exact HNE.out (h' ▸ h)
            · rw [h'] at h; simp at h; omega
          have HCS6 : Hid (∀ i, i < m → w6.cell? ⟨b9, o9 + i, none⟩ = some (.int .u64 (cs.getD i 0 : Nat))) := Lib.hid fun i hi => by
            refine hgrow.cell (((Below.refl wr.heap.size wr).alloc (Nat.le_refl _) _).cell hblt |>.trans (HCS.out i hi)) fun h => HNE.out ?_
            exact h.symm
          have HB6 : Hid (b9 < w6.heap.size) := Lib.hid (by have := hgrow.size; simp at this; omega)
          clear hgrow hat
          have hO6 := Lib.hid hown'
          clear hown'
          go_wp2_with fail
          go_roundw
          case rel => exact ⟨k + 1, by have := HJ.out; omega, by go_num, by rw [HD2.out], by have h := hO6.out; rw [← HTD.out, HJ.out] at h; exact h, HNE6.out, b6.out, HCS6.out, HB6.out⟩
          case measure => simp [intOf]; omega
        · obtain rfl : k = m := by omega
          have HB := Lib.hid hbl
          have HO3 := Lib.hid ho
          clear ho hbl hne hcs hblt
          go_wp2_with fail
          go_ret2
          exact ⟨_, _, rfl, by rw [HR.out]; have h := HO3.out; rw [HM.out] at h; rw [tab_len]; exact h, (fun h => by cases h), HB.out⟩
    · have HRV : Hid (RV b off c L (.slice (some ⟨b, off + 11, none⟩) L (c - 11))) := Lib.hid (.inl ⟨hc11, rfl⟩)
      go_enter Tryz.func51, Tryz.ntmps51
      go_wp2_with fail
      refine A1.out.mono ?_
      rintro e w1 ⟨rfl, h1⟩
      rw [h1]
      clear h1 w1
      go_wp2_with fail
      refine A3.out.mono ?_
      rintro e w1 ⟨rfl, h1⟩
      rw [h1]
      clear h1 w1
      go_upto_region 7 with (fail)
      rw [HF.out]
      clear A1 A3 HF
      go_upto_region 9 with (fail)
      go_wp2_with fail
      refine (F39s.out _ _ HBA.out HRV.out).mono ?_
      rintro e w9 ⟨b9, o9, c9, q9, rfl, hlo9, hb9, hcell9, hc9, bl9⟩
      have O9 := Lib.hid (own_below HO2.out bl9)
      have B9 := Lib.hid (HBA.out.trans (bl9.mono HBA.out.size))
      have HC9 := Lib.hid hcell9
      clear bl9 hcell9
      go_wp2_with fail
      go_loopw [12, 11, 5, 93] (fun _ d o i wr => ∃ k, k ≤ m ∧ i = .int .i64 (k : Nat) ∧ d = .int .u64 (dn cs k : Nat) ∧ wr.ownsRow w.heap.size 2 1 o (k + 1) (i64s (tab (un F cs) (k + 1))) ∧ o.ownBlock ≠ some b9 ∧ Below w.heap.size w wr ∧ (∀ i, i < m → wr.cell? ⟨b9, o9 + i, none⟩ = some (.int .u64 (cs.getD i 0 : Nat))) ∧ b9 < wr.heap.size) (fun _ _ _ i _ => m - (intOf i).toNat)
      case atStart => exact ⟨0, Nat.zero_le _, rfl, rfl, O9.out, by simp [Value.ownBlock]; have := HSA.out; omega, B9.out, HC9.out, hb9⟩
      case round =>
        obtain ⟨k, hk, rfl, rfl, ho, hne, hbl, hcs, hblt⟩ := hrel
        by_cases hkn : k < m
        · obtain ⟨go, co, rfl⟩ := Go.Joins.ownsRow_form ho (by omega)
          have e1 : wr.cell? ⟨go, k, none⟩ = some (.int .i64 (un F cs k)) := by
            rw [ho.cellAt k (by omega)]
            rw [i64s_get _ k (by rw [tab_len]; omega), tab_get _ _ _ _ (by omega)]
          have e2 := hcs k hkn
          have hc64 := H64.out k
          have hus := un_succ F cs k
          have hin : -9223372036854775808 ≤ un F cs k ∧ un F cs k ≤ 9223372036854775807 := wrap_in _
          have hd1 := dn_of cs k
          have hd2 := dn_of cs (k + 1)
          have hac : accs cs (k + 1) = accs cs k + zag (cs.getD k 0 : Nat) := rfl
          have HTD : Hid (i64s (tab (un F cs) (k + 1 + 1)) = i64s (tab (un F cs) (k + 1)) ++ [.int .i64 (un F cs (k + 1))]) := Lib.hid (by rw [tab_succ, i64s_snoc])
          obtain ⟨C, hC⟩ : ∃ C, C = cs.getD k 0 := ⟨_, rfl⟩
          obtain ⟨G, hG⟩ : ∃ G, G = zag (C : Nat) := ⟨_, rfl⟩
          obtain ⟨E, hE⟩ : ∃ E, E = un F cs k := ⟨_, rfl⟩
          obtain ⟨E2, hE2⟩ : ∃ E2, E2 = un F cs (k + 1) := ⟨_, rfl⟩
          obtain ⟨D1, hD1⟩ : ∃ D1, D1 = dn cs k := ⟨_, rfl⟩
          obtain ⟨D2, hD2⟩ : ∃ D2, D2 = dn cs (k + 1) := ⟨_, rfl⟩
          obtain ⟨A1, hA1⟩ : ∃ A1, A1 = accs cs k := ⟨_, rfl⟩
          obtain ⟨A2, hA2⟩ : ∃ A2, A2 = accs cs (k + 1) := ⟨_, rfl⟩
          rw [← hC] at e2 hc64 hac
          rw [← hG, ← hA1, ← hA2] at hac
          rw [← hE] at e1 hus hin
          rw [← hE2] at hus HTD
          rw [← hA2] at hus hd2
          rw [← hA1] at hd1
          rw [← hD1] at hd1 ⊢
          rw [← hD2] at hd2
          have HD2 := Lib.hid hD2
          obtain ⟨UE, hUE⟩ : ∃ UE, UE = ut E := ⟨_, rfl⟩
          have uE := @ut_of E
          rw [← hUE] at uE
          have wE : IntKind.u64.wrap E = (UE : Int) := by rw [IntKind.wrap_u64]; omega
          have wG : IntKind.u64.wrap ((D1 : Int) + IntKind.u64.wrap G) = (D2 : Int) := by simp only [IntKind.wrap_u64]; omega
          have wS : wrap64 (IntKind.u64.wrap ((UE : Int) + (D2 : Int))) = E2 := by rw [hus, IntKind.wrap_u64]; unfold wrap64; omega
          have F40 : Hid (∀ x, Calls Tryz.prog 95 #[.int .u64 (C : Nat)] x fun e w' => e = .returned (.int .i64 G) ∧ w' = x) := Lib.hid fun x => by
            rw [hG]
            exact zag25 (C : Nat) (by omega) (by omega) x
          have HB := Lib.hid hbl
          have hbs := hbl.size
          have hown := ho
          have HNE := Lib.hid hne
          have HCS := Lib.hid hcs
          have hk1 : (k : Int) < ((k + 1 : Nat) : Int) := by omega
          clear ho hbl hE hE2 hC hG hD1 hD2 hA1 hA2 hUE uE hus hin hd1 hd2 hac hc64 hne hcs
          obtain ⟨j, hj⟩ : ∃ j, j = k + 1 := ⟨_, rfl⟩
          rw [← hj] at hown HTD hk1 HNE
          have HJ := Lib.hid hj
          have hj9 : j ≤ 1000 := by omega
          rw [← hj]
          clear hj
          go_wp2_with fail
          refine (F40.out _).mono ?_
          rintro e w5 ⟨rfl, h5⟩
          rw [h5]
          clear h5 w5
          go_wp2_with (at_builtin; refine wpList_append_own_at _ rfl (.tmp 104) (.tmp 113) 54 rfl w.heap.size 2 i0 (.int .i64 0) 1 8 Tryz.underlying54 hi hz0 hz1 hz2 rfl (by decide) _ j _ rfl (hown.alloc _) ⟨wr.heap.size, 0, none⟩ 1 1 [.int .i64 E2] rfl rfl ?c1 ?c2 ?c3 ?c4 ?c5 ?_)
          case c1 => exact cell_one_new _ _ _
          case c2 => intro u hu; simp at hu; subst hu; rfl
          case c3 => unfold maxLen; omega
          case c4 => omega
          case c5 => simp; omega
          intro v' w6 hown' hgrow _ hat
          have b6 := Lib.hid (Below.grown (HB.out.alloc (Nat.le_trans (Nat.le_refl _) hbs) _) hgrow (by simp; omega) (fun r hr => (hown.lt r hr).1))
          have HNE6 : Hid (v'.ownBlock ≠ some b9) := Lib.hid fun h => by
            rcases hat with h' | h'
            · exact HNE.out (h' ▸ h)
            · rw [h'] at h; simp at h; omega
          have HCS6 : Hid (∀ i, i < m → w6.cell? ⟨b9, o9 + i, none⟩ = some (.int .u64 (cs.getD i 0 : Nat))) := Lib.hid fun i hi => by
            refine hgrow.cell (((Below.refl wr.heap.size wr).alloc (Nat.le_refl _) _).cell hblt |>.trans (HCS.out i hi)) fun h => HNE.out ?_
            exact h.symm
          have HB6 : Hid (b9 < w6.heap.size) := Lib.hid (by have := hgrow.size; simp at this; omega)
          clear hgrow hat
          have hO6 := Lib.hid hown'
          clear hown'
          go_wp2_with fail
          go_roundw
          case rel => exact ⟨k + 1, by have := HJ.out; omega, by go_num, by rw [HD2.out], by have h := hO6.out; rw [← HTD.out, HJ.out] at h; exact h, HNE6.out, b6.out, HCS6.out, HB6.out⟩
          case measure => simp [intOf]; omega
        · obtain rfl : k = m := by omega
          have HB := Lib.hid hbl
          have HO3 := Lib.hid ho
          clear ho hbl hne hcs hblt
          go_wp2_with fail
          go_ret2
          exact ⟨_, _, rfl, by rw [HR.out]; have h := HO3.out; rw [HM.out] at h; rw [tab_len]; exact h, (fun h => by cases h), HB.out⟩
end Rr
end Go.Proofs.YtjmddomkoholoaaGreatDoor
