/- The document's side: read, each further time. -/
import Derived.Test.YtidbpoigbfpocaaDoorTz
import Derived.StillTailTactics
namespace Go.Proofs.YtidbpoigbfpocaaDoor
open Go.RowKit
namespace Rr
open Bm Mt Wr Pk Rp Cv Rd Rx Ry Ux Sz Tm Ti Lu Tg

/-- A word of the rest, read. -/
def R38 (w : World) (b off c L : Nat) (rs : List Nat) : Prop :=
  ∀ x k, Below w.heap.size w x → 8 * k + 8 ≤ L → Calls Tryd.prog 38 #[.slice (some ⟨b, off + 11, none⟩) L c, .int .i64 ((8 * k : Nat) : Int), .int .i64 8] x fun e w' => e = .returned (.int .u64 (num8 rs (8 * k) : Nat)) ∧ w' = x
theorem wh_next (F : Int) (rs : List Nat) (k : Nat) (h : 8 * (k + 1) ≤ rs.length) : wh F rs (k + 1) = wrap64 (num8 rs (8 * k) : Nat) := by
  rw [wh_succ]; unfold wordAt; rw [if_pos h]

set_option maxRecDepth 100000 in
set_option maxHeartbeats 1000000 in
theorem rr_zero (w : World) (b off c l L : Nat) (bs rs : List Nat) (N V M : Nat) (F : Int) (P : Pre w b off c l bs N V M F) (hM : M = 0) (hc11 : ¬ c = 11) (hL : L = l - 11) (hrl : rs.length = L) (hl : l ≤ 140737488353272) (hR38 : R38 w b off (c - 11) L rs)
    (hR : readR bs = tab (wh F rs) (min (N - 1) (rs.length / 8) + 1)) :
    Calls Tryd.prog 28 #[.slice (some ⟨b, off, none⟩) l c] w fun e w' => Rreads w bs e w' := by
  obtain ⟨i0, hi, hz0, hz1, hz2⟩ := info_parts info2
  have HR := Lib.hid hR
  have A1 := Lib.hid P.a1
  have A3 := Lib.hid P.a3
  have HF := Lib.hid P.f
  have e0 := m_alloc P.m0 (.cells #[.int .i64 F] 2)
  have l11 := P.l11
  have lc := P.lc
  have n1 := P.n1
  have n2 := P.n2
  have HFI := Lib.hid P.hF
  have HO := Lib.hid (own_one w F)
  have HBA : Hid (Below w.heap.size w (w.alloc (.cells #[.int .i64 F] 2))) := Lib.hid ((Below.refl _ _).alloc (Nat.le_refl _) _)
  have m0 : ((M : Int) == 0) = true := by simp; omega
  have HR38 := Lib.hid hR38
  have HRL := Lib.hid hrl
  have hLL : (l : Int) - 11 = (L : Int) := by omega
  have hlL : l - 11 = L := by omega
  have hL9 : L ≤ 140737488353272 := by omega
  have HO2 : Hid ((w.alloc (.cells #[.int .i64 F] 2)).ownsRow w.heap.size 2 1 (.slice (some ⟨w.heap.size, 0, none⟩) 1 1) 1 (i64s (tab (wh F rs) 1))) := Lib.hid HO.out
  clear P hR hM hR38 hrl hL HO
  go_enter Tryd.func28, Tryd.ntmps28
  go_wp2_with fail
  refine A1.out.mono ?_
  rintro e w1 ⟨rfl, h1⟩
  rw [h1]
  clear h1 w1
  go_wp2_with fail
  refine A3.out.mono ?_
  rintro e w1 ⟨rfl, h1⟩
  rw [h1]
  clear h1 w1
  go_upto_region 7 with (fail)
  rw [HF.out]
  clear A1 A3 HF
  go_upto_region 9 with (fail)
  clear hlL hLL
  go_wp2_with fail
  go_loopw [7, 5] (fun i o wr => ∃ k, k + 1 ≤ N ∧ 8 * k ≤ L ∧ i = .int .i64 ((k + 1 : Nat) : Int) ∧ wr.ownsRow w.heap.size 2 1 o (k + 1) (i64s (tab (wh F rs) (k + 1))) ∧ Below w.heap.size w wr) (fun i _ _ => N - (intOf i).toNat)
  case atStart => exact ⟨0, n1, Nat.zero_le _, rfl, HO2.out, HBA.out⟩
  case round =>
    obtain ⟨k, hk, hk8, rfl, ho, hbl⟩ := hrel
    by_cases hgo : k + 1 < N ∧ 8 * (k + 1) ≤ L
    · obtain ⟨hkn, hkL⟩ := hgo
      have R := Lib.hid (HR38.out wr k hbl (by omega))
      have HTD : Hid (i64s (tab (wh F rs) (k + 1 + 1)) = i64s (tab (wh F rs) (k + 1)) ++ [.int .i64 (wrap64 (num8 rs (8 * k) : Nat))]) := Lib.hid (by rw [tab_succ, i64s_snoc, wh_next F rs k (by rw [HRL.out]; exact hkL)])
      obtain ⟨U, hU⟩ : ∃ U, U = num8 rs (8 * k) := ⟨_, rfl⟩
      obtain ⟨J, hJ⟩ : ∃ J, J = 8 * k := ⟨_, rfl⟩
      obtain ⟨i, hik⟩ : ∃ i, i = k + 1 := ⟨_, rfl⟩
      rw [← hU, ← hJ] at R
      rw [← hU, ← hik] at HTD
      rw [← hik] at ho hkn hkL ⊢
      have h88 : 8 * (i : Int) - 8 = (J : Int) := by omega
      have HIK := Lib.hid hik
      have hi9 : i ≤ 1000 := by omega
      have HB := Lib.hid hbl
      have hbs := hbl.size
      have hown := ho
      clear hU hJ hik ho hbl
      go_wp2_with (first
        | (go_at_call 38; refine R.out.mono ?_; rintro e w5 ⟨rfl, h5⟩; rw [h5]; clear h5 w5)
        | (at_builtin; refine wpList_append_own _ rfl (.tmp 48) (.tmp 55) 22 rfl w.heap.size 2 i0 (.int .i64 0) 1 8 Tryd.underlying22 hi hz0 hz1 hz2 rfl (by decide) _ i _ rfl (hown.alloc _) ⟨wr.heap.size, 0, none⟩ 1 1 [.int .i64 (wrap64 (U : Nat))] rfl rfl ?c1 ?c2 ?c3 ?c4 ?c5 ?_))
      case c1 => exact cell_one_new _ _ _
      case c2 => intro u hu; simp at hu; subst hu; rfl
      case c3 => unfold maxLen; omega
      case c4 => omega
      case c5 => simp; omega
      intro v' w6 hown' hgrow _
      have b6 := Lib.hid (Below.grown (HB.out.alloc (Nat.le_trans (Nat.le_refl _) hbs) _) hgrow (by simp; omega) (fun r hr => (hown.lt r hr).1))
      clear hgrow
      have hO6 := Lib.hid hown'
      clear hown'
      go_wp2_with fail
      go_roundw
      case rel => exact ⟨k + 1, by have := HIK.out; omega, by have := HIK.out; omega, by rw [← HIK.out]; go_num, by have h := hO6.out; rw [← HTD.out, HIK.out] at h; exact h, b6.out⟩
      case measure => simp [intOf]; omega
    · have HE : Hid (k + 1 = min (N - 1) (rs.length / 8) + 1) := Lib.hid (by rw [HRL.out]; omega)
      have HB := Lib.hid hbl
      have HO3 := Lib.hid ho
      obtain ⟨i, hik⟩ : ∃ i, i = k + 1 := ⟨_, rfl⟩
      have HIK := Lib.hid hik
      rw [← hik] at hgo ⊢
      have hi9 : i ≤ 1000 := by omega
      clear ho hbl hik
      by_cases hN : i < N
      · have hL8 : ¬ 8 * i ≤ L := fun h => hgo ⟨hN, h⟩
        clear hgo
        go_wp2_with fail
        go_ret2
        exact ⟨_, _, rfl, by rw [HR.out, tab_len, ← HE.out]; exact HO3.out, (fun h => by cases h), HB.out⟩
      · clear hgo
        go_wp2_with fail
        go_ret2
        exact ⟨_, _, rfl, by rw [HR.out, tab_len, ← HE.out]; exact HO3.out, (fun h => by cases h), HB.out⟩
end Rr
end Go.Proofs.YtidbpoigbfpocaaDoor
