import Derived.Test.YtjmddomkoholoaaGreatDoorG26

/- The document's side: Encode. -/
namespace Go.Proofs.YtjmddomkoholoaaGreatDoor
open Go.RowKit
namespace TEn
open Bm Mt Wr Pk Rp Cv Rd Rx Sz Tm Ti Th La Rj

set_option maxRecDepth 100000 in
theorem refenc_none (w : World) (v : Value) (T : List Int) (hv : ∃ a c, v = .slice a T.length c) (h : T.length = 0 ∨ 1000 < T.length) : Calls Tryz.prog 52 #[v] w fun e w' => Encoded w T e w' := by
  obtain ⟨a, c, rfl⟩ := hv
  have HO := Lib.hid (ok_len h)
  obtain ⟨n, hn⟩ : ∃ n, n = T.length := ⟨_, rfl⟩
  rw [← hn] at h ⊢
  clear hn
  rcases h with rfl | h
  · go_enter Tryz.func52, Tryz.ntmps52
    go_wp2_with fail
    go_ret2
    exact .inr ⟨HO.out, rfl, Below.refl _ _⟩
  · go_enter Tryz.func52, Tryz.ntmps52
    go_wp2_with fail
    go_ret2
    exact .inr ⟨HO.out, rfl, Below.refl _ _⟩

/-- Are the first k distances alike? -/
def al (T : List Int) (k : Nat) : Bool := decide (2 ≤ T.length ∧ ∀ j, j < k → dist T j = dist T 0)
theorem al_succ (T : List Int) (k : Nat) : al T (k + 1) = (al T k && decide (dist T k = dist T 0)) := by
  unfold al
  by_cases h : dist T k = dist T 0
  · rw [decide_eq_true h, Bool.and_true]
    congr 1
    refine propext ⟨fun h' => ⟨h'.1, fun j hj => h'.2 j (by omega)⟩, fun h' => ⟨h'.1, fun j hj => ?_⟩⟩
    by_cases e : j = k
    · rw [e]; exact h
    · exact h'.2 j (by omega)
  · rw [decide_eq_false h, Bool.and_false]
    exact decide_eq_false fun h' => h (h'.2 k (by omega))

set_option maxRecDepth 100000 in
set_option maxHeartbeats 4000000 in
theorem refenc_try (w : World) (v : Value) (T : List Int) (hI : Ii w v T) (h1 : 1 ≤ T.length) (hl : T.length ≤ 1000) : Calls Tryz.prog 52 #[v] w fun e w' => Encoded w T e w' := by
  obtain ⟨i0, hi, hz0, hz1, hz2⟩ := info_parts info34
  have HII := Lib.hid hI
  obtain ⟨b, off, c, rfl, hc, hb, hcell⟩ := ii_open hI h1
  have HAL : Hid (al T 0 = decide (2 ≤ T.length)) := Lib.hid (by unfold al; congr 1; exact propext ⟨fun h => h.1, fun h => ⟨h, fun j hj => by omega⟩⟩)
  have HUP : Hid (∀ j, j < T.length - 1 → ¬ T.getD j 0 < T.getD (j + 1) 0 → ¬ Ok T) := Lib.hid fun j hj h h' => h (h'.2.2 j hj)
  obtain ⟨n, hn⟩ : ∃ n, n = T.length := ⟨_, rfl⟩
  have HN := Lib.hid hn
  rw [← hn] at h1 hl hc hcell HAL HUP HII ⊢
  have HC := Lib.hid hcell
  clear hcell hn hI
  go_enter Tryz.func52, Tryz.ntmps52
  go_wp2_with fail
  go_loopw [7, 8, 4, 5, 6] (fun i _ a f p wr => ∃ k, k + 1 ≤ n ∧ i = .int .i64 ((k + 1 : Nat) : Int) ∧ a = .bool (al T k) ∧ wr.ownsRow w.heap.size 33 1 f k (u64s (tab (chg T) k)) ∧ p = .int .u64 (prev T k : Nat) ∧ (∀ j, j < k → T.getD j 0 < T.getD (j + 1) 0) ∧ Below w.heap.size w wr) (fun i _ _ _ _ _ => n - (intOf i).toNat)
  case atStart => exact ⟨0, h1, rfl, by rw [HAL.out]; congr 2; exact propext (by omega), World.ownsRow_nil _ _ _ _, rfl, fun j hj => by omega, Below.refl _ _⟩
  case round =>
    obtain ⟨k, hk, rfl, rfl, ho, rfl, hall, hbl⟩ := hrel
    have HA := Lib.hid hall
    clear hall
    by_cases hkn : k + 1 < n
    · have e2 := (hbl.cell hb).trans (HC.out k (by omega))
      have e1 := (hbl.cell hb).trans (HC.out (k + 1) (by omega))
      have g0 := (hbl.cell hb).trans (HC.out 0 (by omega))
      have g1 := (hbl.cell hb).trans (HC.out 1 (by omega))
      rw [Nat.add_zero] at g0
      have uA := @ut_of (T.getD k 0)
      have uB := @ut_of (T.getD (k + 1) 0)
      have uX := @ut_of (T.getD 0 0)
      have uY := @ut_of (T.getD 1 0)
      have dD := dist_of T k
      have dZ := dist_of T 0
      have hcg := chg_of T k
      have has := al_succ T k
      have hd2 : prev T k < 18446744073709551616 := by
        match k with
        | 0 => show 0 < 18446744073709551616; omega
        | k + 1 => exact dist_lt T k
      have HPN : Hid (dist T k = prev T (k + 1)) := Lib.hid rfl
      have HTD : Hid (u64s (tab (chg T) (k + 1)) = u64s (tab (chg T) k) ++ [.int .u64 (chg T k : Nat)]) := Lib.hid (by rw [tab_succ, u64s_snoc])
      have HLT : Hid (¬ T.getD k 0 < T.getD (k + 1) 0 → ¬ Ok T) := Lib.hid fun h => HUP.out k (by omega) (by omega)
      have HLY : Hid (T.getD k 0 < T.getD (k + 1) 0 → ∀ j, j < k + 1 → T.getD j 0 < T.getD (j + 1) 0) := Lib.hid fun h j hj => by
        by_cases e : j = k
        · rw [e]; exact h
        · exact HA.out j (by omega)
      obtain ⟨A, hA⟩ : ∃ A, A = T.getD k 0 := ⟨_, rfl⟩
      obtain ⟨B, hB⟩ : ∃ B, B = T.getD (k + 1) 0 := ⟨_, rfl⟩
      obtain ⟨X, hX⟩ : ∃ X, X = T.getD 0 0 := ⟨_, rfl⟩
      obtain ⟨Y, hY⟩ : ∃ Y, Y = T.getD 1 0 := ⟨_, rfl⟩
      obtain ⟨D, hD⟩ : ∃ D, D = dist T k := ⟨_, rfl⟩
      obtain ⟨Z, hZ⟩ : ∃ Z, Z = dist T 0 := ⟨_, rfl⟩
      obtain ⟨P, hP⟩ : ∃ P, P = prev T k := ⟨_, rfl⟩
      obtain ⟨C, hC⟩ : ∃ C, C = chg T k := ⟨_, rfl⟩
      rw [← hA] at e2 uA dD HLT HLY
      rw [← hB] at e1 uB dD HLT HLY
      rw [← hX] at g0 uX dZ
      rw [← hY] at g1 uY
      rw [Nat.zero_add, ← hY] at dZ
      rw [← hD] at dD hcg has HPN
      rw [← hZ] at dZ has
      rw [← hP] at hcg hd2 ⊢
      rw [← hC] at hcg HTD
      obtain ⟨UA, hUA⟩ : ∃ UA, UA = ut A := ⟨_, rfl⟩
      obtain ⟨UB, hUB⟩ : ∃ UB, UB = ut B := ⟨_, rfl⟩
      obtain ⟨UX, hUX⟩ : ∃ UX, UX = ut X := ⟨_, rfl⟩
      obtain ⟨UY, hUY⟩ : ∃ UY, UY = ut Y := ⟨_, rfl⟩
      rw [← hUA] at uA
      rw [← hUB] at uB
      rw [← hUX] at uX
      rw [← hUY] at uY
      have wA : IntKind.u64.wrap A = (UA : Int) := by rw [IntKind.wrap_u64]; omega
      have wB : IntKind.u64.wrap B = (UB : Int) := by rw [IntKind.wrap_u64]; omega
      have wX : IntKind.u64.wrap X = (UX : Int) := by rw [IntKind.wrap_u64]; omega
      have wY : IntKind.u64.wrap Y = (UY : Int) := by rw [IntKind.wrap_u64]; omega
      have wD : IntKind.u64.wrap ((UB : Int) - (UA : Int)) = (D : Int) := by rw [IntKind.wrap_u64]; omega
      have wZ : IntKind.u64.wrap ((UY : Int) - (UX : Int)) = (Z : Int) := by rw [IntKind.wrap_u64]; omega
      have F14 : Hid (∀ x, Calls Tryz.prog 96 #[.int .i64 (wrap64 ((D : Int) - (P : Int)))] x fun e w' => e = .returned (.int .u64 (C : Nat)) ∧ w' = x) := Lib.hid fun x => by
        have := zig23 (wrap64 ((D : Int) - (P : Int))) (wrap_in _).1 (wrap_in _).2 x
        rwa [← hcg] at this
      have hyi : wrap64 (IntKind.u64.wrap ((D : Int) - (P : Int))) = wrap64 ((D : Int) - (P : Int)) := by simp only [IntKind.wrap_u64]; unfold wrap64; omega
      have HAS := Lib.hid has
      clear hA hB hX hY hD hZ hP hC hUA hUB hUX hUY uA uB uX uY dD dZ hcg has hd2
      obtain ⟨a0, ha0⟩ : ∃ a0, a0 = al T k := ⟨_, rfl⟩
      rw [← ha0] at HAS ⊢
      clear ha0
      obtain ⟨i, hik⟩ : ∃ i, i = k + 1 := ⟨_, rfl⟩
      rw [← hik] at e1 hkn HAS HPN HTD HLY ⊢
      have hi1 : IntKind.i64.wrap ((i : Int) - 1) = (k : Int) := by rw [IntWalk.i64_left]; unfold wrap64; omega
      have hi2 : wrap64 ((i : Int) - 1) = (k : Int) := by unfold wrap64; omega
      have hi3 : (i : Int) - 1 = (k : Int) := by omega
      have hkn2 : k < n := by omega
      have HIK := Lib.hid hik
      have HB2 := Lib.hid hbl
      have HO2 := Lib.hid ho
      clear hik ho hbl
      go_upto_region 9 with (fail)
      by_cases hlt : A < B
      · have HLY2 := Lib.hid (HLY.out hlt)
        clear HLT HLY
        go_quiet (fail)
        go_upto_region 11 with (fail)
        obtain ⟨wx, hwx⟩ : ∃ wx, wx = wr.drewN nq := ⟨_, rfl⟩
        replace e1 : wx.cell? ⟨b, off + i, none⟩ = some (.int .i64 B) := by rw [hwx]; exact e1
        replace e2 : wx.cell? ⟨b, off + k, none⟩ = some (.int .i64 A) := by rw [hwx]; exact e2
        replace g0 : wx.cell? ⟨b, off, none⟩ = some (.int .i64 X) := by rw [hwx]; exact g0
        replace g1 : wx.cell? ⟨b, off + 1, none⟩ = some (.int .i64 Y) := by rw [hwx]; exact g1
        replace HO2 : Hid (wx.ownsRow w.heap.size 33 1 u5 k (u64s (tab (chg T) k))) := by rw [hwx]; exact Lib.hid HO2.out
        replace HB2 : Hid (Below w.heap.size w wx) := by rw [hwx]; exact Lib.hid (Below.drewN' HB2.out _)
        rw [← hwx]
        clear hwx
        go_quiet (fail)
        go_upto_region 12 with (fail)
        obtain ⟨wy, hwy⟩ : ∃ wy, wy = wx.drewN nq := ⟨_, rfl⟩
        replace e1 : wy.cell? ⟨b, off + i, none⟩ = some (.int .i64 B) := by rw [hwy]; exact e1
        replace e2 : wy.cell? ⟨b, off + k, none⟩ = some (.int .i64 A) := by rw [hwy]; exact e2
        replace g0 : wy.cell? ⟨b, off, none⟩ = some (.int .i64 X) := by rw [hwy]; exact g0
        replace g1 : wy.cell? ⟨b, off + 1, none⟩ = some (.int .i64 Y) := by rw [hwy]; exact g1
        replace HO2 : Hid (wy.ownsRow w.heap.size 33 1 u5 k (u64s (tab (chg T) k))) := by rw [hwy]; exact Lib.hid HO2.out
        replace HB2 : Hid (Below w.heap.size w wy) := by rw [hwy]; exact Lib.hid (Below.drewN' HB2.out _)
        rw [← hwy]
        clear hwy
        cases a0 with
        | false =>
          have HALN : Hid (false = al T i) := Lib.hid (by rw [HAS.out]; rfl)
          go_quiet (fail)
          go_upto_region 13 with (fail)
          obtain ⟨wz, hwz⟩ : ∃ wz, wz = wy.drewN nq := ⟨_, rfl⟩
          replace e1 : wz.cell? ⟨b, off + i, none⟩ = some (.int .i64 B) := by rw [hwz]; exact e1
          replace e2 : wz.cell? ⟨b, off + k, none⟩ = some (.int .i64 A) := by rw [hwz]; exact e2
          replace g0 : wz.cell? ⟨b, off, none⟩ = some (.int .i64 X) := by rw [hwz]; exact g0
          replace g1 : wz.cell? ⟨b, off + 1, none⟩ = some (.int .i64 Y) := by rw [hwz]; exact g1
          replace HO2 : Hid (wz.ownsRow w.heap.size 33 1 u5 k (u64s (tab (chg T) k))) := by rw [hwz]; exact Lib.hid HO2.out
          replace HB2 : Hid (Below w.heap.size w wz) := by rw [hwz]; exact Lib.hid (Below.drewN' HB2.out _)
          rw [← hwz]
          clear hwz
          have hown := HO2.out
          have hb3 := HB2.out.size
          go_wp2_with (first
            | (go_at_call 96; refine (F14.out _).mono ?_; rintro e w5 ⟨rfl, h5⟩; rw [h5]; clear h5 w5)
            | (at_builtin; refine wpList_append_own _ rfl (.tmp 67) (.tmp 73) 123 rfl w.heap.size 33 i0 (.int .u64 0) 1 8 Tryz.underlying123 hi hz0 hz1 hz2 rfl (by decide) _ k _ rfl (hown.alloc _) ⟨wz.heap.size, 0, none⟩ 1 1 [.int .u64 (C : Nat)] rfl rfl ?c1 ?c2 ?c3 ?c4 ?c5 ?_))
          case c1 => exact cell_one_new _ _ _
          case c2 => intro u hu; simp at hu; subst hu; rfl
          case c3 => unfold maxLen; omega
          case c4 => omega
          case c5 => simp; omega
          intro v' w6 hown' hgrow _
          have b6 := Lib.hid (Below.grown (HB2.out.alloc (Nat.le_trans (Nat.le_refl _) hb3) _) hgrow (by simp; omega) (fun r hr => (hown.lt r hr).1))
          clear hgrow
          have hO6 := Lib.hid hown'
          clear hown'
          go_wp2_with fail
          go_roundw
          case rel => exact ⟨k + 1, by have := HIK.out; omega, by rw [← HIK.out]; go_num, by rw [← HIK.out, ← HALN.out], by have h := hO6.out; rw [← HIK.out] at h; rw [← HIK.out, HTD.out]; exact h, by rw [← HIK.out, HPN.out], by rw [← HIK.out]; exact HLY2.out, b6.out⟩
          case measure => simp [intOf]; omega
        | true =>
          by_cases hDZ : D = Z
          · have HALN : Hid (true = al T i) := Lib.hid (by rw [HAS.out, decide_eq_true hDZ]; rfl)
            have hdz : ((D : Int) == (Z : Int)) = true := by simp; omega
            clear hDZ
            go_quiet (fail)
            go_upto_region 13 with (fail)
            obtain ⟨wz, hwz⟩ : ∃ wz, wz = wy.drewN nq := ⟨_, rfl⟩
            replace e1 : wz.cell? ⟨b, off + i, none⟩ = some (.int .i64 B) := by rw [hwz]; exact e1
            replace e2 : wz.cell? ⟨b, off + k, none⟩ = some (.int .i64 A) := by rw [hwz]; exact e2
            replace g0 : wz.cell? ⟨b, off, none⟩ = some (.int .i64 X) := by rw [hwz]; exact g0
            replace g1 : wz.cell? ⟨b, off + 1, none⟩ = some (.int .i64 Y) := by rw [hwz]; exact g1
            replace HO2 : Hid (wz.ownsRow w.heap.size 33 1 u5 k (u64s (tab (chg T) k))) := by rw [hwz]; exact Lib.hid HO2.out
            replace HB2 : Hid (Below w.heap.size w wz) := by rw [hwz]; exact Lib.hid (Below.drewN' HB2.out _)
            rw [← hwz]
            clear hwz
            have hown := HO2.out
            have hb3 := HB2.out.size
            go_wp2_with (first
              | (go_at_call 96; refine (F14.out _).mono ?_; rintro e w5 ⟨rfl, h5⟩; rw [h5]; clear h5 w5)
              | (at_builtin; refine wpList_append_own _ rfl (.tmp 67) (.tmp 73) 123 rfl w.heap.size 33 i0 (.int .u64 0) 1 8 Tryz.underlying123 hi hz0 hz1 hz2 rfl (by decide) _ k _ rfl (hown.alloc _) ⟨wz.heap.size, 0, none⟩ 1 1 [.int .u64 (C : Nat)] rfl rfl ?c1 ?c2 ?c3 ?c4 ?c5 ?_))
            case c1 => exact cell_one_new _ _ _
            case c2 => intro u hu; simp at hu; subst hu; rfl
            case c3 => unfold maxLen; omega
            case c4 => omega
            case c5 => simp; omega
            intro v' w6 hown' hgrow _
            have b6 := Lib.hid (Below.grown (HB2.out.alloc (Nat.le_trans (Nat.le_refl _) hb3) _) hgrow (by simp; omega) (fun r hr => (hown.lt r hr).1))
            clear hgrow
            have hO6 := Lib.hid hown'
            clear hown'
            go_wp2_with fail
            go_roundw
            case rel => exact ⟨k + 1, by have := HIK.out; omega, by rw [← HIK.out]; go_num, by rw [← HIK.out, ← HALN.out], by have h := hO6.out; rw [← HIK.out] at h; rw [← HIK.out, HTD.out]; exact h, by rw [← HIK.out, HPN.out], by rw [← HIK.out]; exact HLY2.out, b6.out⟩
            case measure => simp [intOf]; omega
          · have HALN : Hid (false = al T i) := Lib.hid (by rw [HAS.out, decide_eq_false hDZ]; rfl)
            have hdz : ((D : Int) == (Z : Int)) = false := by simp; omega
            clear hDZ
            go_quiet (fail)
            go_upto_region 13 with (fail)
            obtain ⟨wz, hwz⟩ : ∃ wz, wz = wy.drewN nq := ⟨_, rfl⟩
            replace e1 : wz.cell? ⟨b, off + i, none⟩ = some (.int .i64 B) := by rw [hwz]; exact e1
            replace e2 : wz.cell? ⟨b, off + k, none⟩ = some (.int .i64 A) := by rw [hwz]; exact e2
            replace g0 : wz.cell? ⟨b, off, none⟩ = some (.int .i64 X) := by rw [hwz]; exact g0
            replace g1 : wz.cell? ⟨b, off + 1, none⟩ = some (.int .i64 Y) := by rw [hwz]; exact g1
            replace HO2 : Hid (wz.ownsRow w.heap.size 33 1 u5 k (u64s (tab (chg T) k))) := by rw [hwz]; exact Lib.hid HO2.out
            replace HB2 : Hid (Below w.heap.size w wz) := by rw [hwz]; exact Lib.hid (Below.drewN' HB2.out _)
            rw [← hwz]
            clear hwz
            have hown := HO2.out
            have hb3 := HB2.out.size
            go_wp2_with (first
              | (go_at_call 96; refine (F14.out _).mono ?_; rintro e w5 ⟨rfl, h5⟩; rw [h5]; clear h5 w5)
              | (at_builtin; refine wpList_append_own _ rfl (.tmp 67) (.tmp 73) 123 rfl w.heap.size 33 i0 (.int .u64 0) 1 8 Tryz.underlying123 hi hz0 hz1 hz2 rfl (by decide) _ k _ rfl (hown.alloc _) ⟨wz.heap.size, 0, none⟩ 1 1 [.int .u64 (C : Nat)] rfl rfl ?c1 ?c2 ?c3 ?c4 ?c5 ?_))
            case c1 => exact cell_one_new _ _ _
            case c2 => intro u hu; simp at hu; subst hu; rfl
            case c3 => unfold maxLen; omega
            case c4 => omega
            case c5 => simp; omega
            intro v' w6 hown' hgrow _
            have b6 := Lib.hid (Below.grown (HB2.out.alloc (Nat.le_trans (Nat.le_refl _) hb3) _) hgrow (by simp; omega) (fun r hr => (hown.lt r hr).1))
            clear hgrow
            have hO6 := Lib.hid hown'
            clear hown'
            go_wp2_with fail
            go_roundw
            case rel => exact ⟨k + 1, by have := HIK.out; omega, by rw [← HIK.out]; go_num, by rw [← HIK.out, ← HALN.out], by have h := hO6.out; rw [← HIK.out] at h; rw [← HIK.out, HTD.out]; exact h, by rw [← HIK.out, HPN.out], by rw [← HIK.out]; exact HLY2.out, b6.out⟩
            case measure => simp [intOf]; omega
      · have HNO := Lib.hid (HLT.out hlt)
        clear HLT HLY
        go_quiet (fail)
        go_wp2_with fail
        go_ret2
        exact .inr ⟨HNO.out, rfl, Below.drewN' HB2.out _⟩
    · obtain rfl : n = k + 1 := by omega
      have HUPT : Hid (Up T) := Lib.hid fun j hj => HA.out j (by have := HN.out; omega)
      have HALT : Hid (al T k = decide (2 ≤ T.length ∧ OneFar T)) := Lib.hid (decide_eq_decide.2 ⟨fun h => ⟨h.1, fun j hj => h.2 j (by have := HN.out; omega)⟩, fun h => ⟨h.1, fun j hj => h.2 j (by have := HN.out; omega)⟩⟩)
      have HCH : Hid (tab (chg T) k = chgs T) := Lib.hid (by unfold chgs; rw [show T.length - 1 = k from by have := HN.out; omega])
      rw [HCH.out] at ho
      have HFO : Hid (wr.ownsRow w.heap.size 33 1 u5 (chgs T).length (u64s (chgs T))) := Lib.hid (by rw [chgs_len, show T.length - 1 = k from by have := HN.out; omega]; exact ho)
      have g0 := (hbl.cell hb).trans (HC.out 0 (by omega))
      rw [Nat.add_zero] at g0
      have uX := @ut_of (T.getD 0 0)
      obtain ⟨X, hX⟩ : ∃ X, X = T.getD 0 0 := ⟨_, rfl⟩
      rw [← hX] at g0 uX
      obtain ⟨UX, hUX⟩ : ∃ UX, UX = ut X := ⟨_, rfl⟩
      rw [← hUX] at uX
      have wX : IntKind.u64.wrap X = (UX : Int) := by rw [IntKind.wrap_u64]; omega
      have HUX : Hid (UX = ut (T.getD 0 0)) := Lib.hid (by rw [hUX, hX])
      have HBL := Lib.hid hbl
      have HG0 : Hid (∀ x, Below w.heap.size w x → x.cell? ⟨b, off, none⟩ = some (.int .i64 X)) := Lib.hid fun x hx => (hx.cell hb).trans (by have := HC.out 0 (by omega); rw [Nat.add_zero, ← hX] at this; exact this)
      have F16 : Hid (∀ x, Calls Tryz.prog 61 #[.int .i64 ((k + 1 : Nat) : Int)] x fun e w' => ∃ g c, e = .returned (.slice (some ⟨g, 0, none⟩) 2 c) ∧ Pt w' (.slice (some ⟨g, 0, none⟩) 2 c) (two (k + 1)) ∧ Below x.heap.size x w') := Lib.hid fun x => two_ex x (k + 1)
      have F17 : Hid (∀ x, Calls Tryz.prog 33 #[.int .u64 (UX : Nat)] x fun e w' => ∃ g c, e = .returned (.slice (some ⟨g, 0, none⟩) 8 c) ∧ Pt w' (.slice (some ⟨g, 0, none⟩) 8 c) (eight UX) ∧ Below x.heap.size x w') := Lib.hid fun x => eight_ex x UX
      clear ho hbl hX hUX uX
      obtain ⟨n, hn⟩ : ∃ n, n = k + 1 := ⟨_, rfl⟩
      rw [← hn] at F16 hc hl h1 hk HN HAL HUP HII HC ⊢
      have HNK := Lib.hid hn
      clear hn hk hkn
      go_upto_region 15 with (fail)
      go_region_held (fun w' => w'.cell? ⟨b, off, none⟩ = some (.int .i64 X)) (first | exact g0 | exact f1 | exact f2 | exact f3 | exact f4)
        (first
          | (go_at_call 61; refine (F16.out _).mono ?_; rintro e w16 ⟨g16, c16, rfl, p16, b16⟩; have P16 := Lib.hid p16; have B16 := Lib.hid (HBL.out.drew.trans (b16.mono HBL.out.drew.size)); have C16 := Lib.hid ((Below.refl wr.heap.size wr).drew.trans b16); have f1 := HG0.out _ B16.out; clear p16 b16)
          | (go_at_call 33; refine (F17.out _).mono ?_; rintro e w17 ⟨g17, c17, rfl, p17, b17⟩; have P167 := Lib.hid (P16.out.below b17); have P17 := Lib.hid p17; have B17 := Lib.hid (B16.out.trans (b17.mono B16.out.size)); have C17 := Lib.hid (C16.out.trans (b17.mono C16.out.size)); have f2 := HG0.out _ B17.out; have f3 := HG0.out _ (B17.out.alloc B17.out.size (.cells #[.slice (some ⟨g16, 0, none⟩) 2 c16, .slice (some ⟨g17, 0, none⟩) 8 c17] 22)); clear p17 b17)
          | (go_at_call 34; refine (headj _ n UX g16 c16 g17 c17 P167.out P17.out).mono ?_; rintro e w15 ⟨g15, c15, rfl, p15, b15⟩; have P15 := Lib.hid p15; have B15 := Lib.hid (B17.out.trans (b15.mono B17.out.size)); have C15 := Lib.hid (C17.out.trans (b15.mono C17.out.size)); have f4 := HG0.out _ B15.out; clear p15 b15))
      all_goals
        have FO15 := Lib.hid (own_below HFO.out C15.out)
        have F18 : Hid (∀ x B, x.ownsRow B 33 1 u5 (chgs T).length (u64s (chgs T)) → Calls Tryz.prog 97 #[u5] x fun e w' => Packed x (chgs T) e w') := Lib.hid fun x B ho => refpack8 x u5 (chgs T) (chgs_iu ho) (by rw [chgs_len]; have := HN.out; omega)
        clear f1 f2 f3 P16 P167 B16 C16 P17 B17 C17 C15 HFO F16
        have HTN : Hid (two n = two T.length) := Lib.hid (by rw [HN.out])
        by_cases hEv : 2 ≤ T.length ∧ OneFar T
        · have hal := HALT.out
          rw [decide_eq_true hEv] at hal
          rw [hal]
          have hn2 : 2 ≤ n := by have := HN.out; omega
          have uY := @ut_of (T.getD 1 0)
          have dZ := dist_of T 0
          have HB : Hid (bytesOf T = [1] ++ ((two n ++ eight UX) ++ eight (dist T 0))) := Lib.hid (by rw [bytes_even hEv.1 hEv.2, HTN.out, HUX.out]; rfl)
          have HOK : Hid (Ok T) := Lib.hid ⟨by omega, by have := HN.out; omega, HUPT.out⟩
          have HG1 : Hid (∀ x, Below w.heap.size w x → x.cell? ⟨b, off + 1, none⟩ = some (.int .i64 (T.getD 1 0))) := Lib.hid fun x hx => (hx.cell hb).trans (HC.out 1 (by omega))
          have uX := @ut_of (T.getD 0 0)
          have wX2 := HUX.out
          obtain ⟨Y, hY⟩ : ∃ Y, Y = T.getD 1 0 := ⟨_, rfl⟩
          rw [Nat.zero_add] at dZ
          rw [← hY] at uY dZ HG1
          obtain ⟨UY, hUY⟩ : ∃ UY, UY = ut Y := ⟨_, rfl⟩
          rw [← hUY] at uY
          obtain ⟨Z, hZ⟩ : ∃ Z, Z = dist T 0 := ⟨_, rfl⟩
          rw [← hZ] at dZ HB
          rw [← wX2] at uX
          have wY : IntKind.u64.wrap Y = (UY : Int) := by rw [IntKind.wrap_u64]; omega
          have wZ : IntKind.u64.wrap ((UY : Int) - (UX : Int)) = (Z : Int) := by rw [IntKind.wrap_u64]; omega
          clear hal hEv uY dZ uX wX2 hY hUY hZ HUPT HTN HUX HCH HUP HA
          go_wp2_with fail
          refine (F18.out _ _ FO15.out).mono ?_
          intro e w18 hPk
          obtain ⟨r18, q18, rfl, b18⟩ : ∃ r q, e = .returned (.tuple #[r, .int .i64 q]) ∧ Below w15.heap.size w15 w18 := by
            rcases hPk with ⟨_, r, h, _, h'⟩ | ⟨_, h, h'⟩
            · exact ⟨r, 0, h, h'⟩
            · exact ⟨_, 3, h, h'⟩
          have P15b := Lib.hid (P15.out.below b18)
          have B18 := Lib.hid (B15.out.trans (b18.mono B15.out.size))
          clear b18 hPk
          go_upto_region 18 with (fail)
          have HS : Hid (∀ x, Below w.heap.size w x → x.cell? ⟨b, off + 1, none⟩ = some (.int .i64 Y) ∧ x.cell? ⟨b, off, none⟩ = some (.int .i64 X)) := Lib.hid fun x hx => ⟨HG1.out x hx, HG0.out x hx⟩
          have HLE : Hid (w.heap.size ≤ w18.heap.size) := Lib.hid B18.out.size
          have F17z : Hid (∀ x, Calls Tryz.prog 33 #[.int .u64 (Z : Nat)] x fun e w' => ∃ g c, e = .returned (.slice (some ⟨g, 0, none⟩) 8 c) ∧ Pt w' (.slice (some ⟨g, 0, none⟩) 8 c) (eight Z) ∧ Below x.heap.size x w') := Lib.hid fun x => eight_ex x Z
          have s0 := HS.out _ B18.out
          have BA : Hid (Below w.heap.size w (w18.alloc (.cells #[.int .u8 1] 5)).drew) := Lib.hid (B18.out.alloc HLE.out _).drew
          have PA : Hid (Pt (w18.alloc (.cells #[.int .u8 1] 5)).drew (.slice (some ⟨w18.heap.size, 0, none⟩) 1 1) [1]) := Lib.hid (pt_one w18 _ 1 rfl)
          have PA2 : Hid (Pt (w18.alloc (.cells #[.int .u8 1] 5)).drew (.slice (some ⟨g15, 0, none⟩) 10 c15) (two n ++ eight UX)) := Lib.hid (P15b.out.below ((Below.refl _ _).alloc (Nat.le_refl _) _).drew)
          have s1 := HS.out _ BA.out
          go_region_held (fun w' => w'.cell? ⟨b, off + 1, none⟩ = some (.int .i64 Y) ∧ w'.cell? ⟨b, off, none⟩ = some (.int .i64 X)) (first | exact s0 | exact s1 | exact s2 | exact s3 | exact s4 | exact s5)
            (first
              | (go_at_call 33; refine (F17z.out _).mono ?_; rintro e w17 ⟨g17, c17, rfl, p17, b17⟩; have P1 := Lib.hid (PA.out.below b17); have P2 := Lib.hid (PA2.out.below b17); have P3 := Lib.hid p17; have B17 := Lib.hid (BA.out.trans (b17.mono BA.out.size)); have s2 := HS.out _ B17.out; have s3 := HS.out _ (B17.out.alloc B17.out.size (.cells #[.slice (some ⟨w18.heap.size, 0, none⟩) 1 1, .slice (some ⟨g15, 0, none⟩) 10 c15, .slice (some ⟨g17, 0, none⟩) 8 c17] 22)); clear p17 b17)
              | (go_at_call 33; refine (F17z.out _).mono ?_; rintro e w17 ⟨g17, c17, rfl, p17, b17⟩; have d17 := (Below.refl w18.heap.size w18).drew.trans b17; have P1 := Lib.hid (pt_one w17 _ 1 rfl); have P2 := Lib.hid ((P15b.out.below d17).below ((Below.refl _ _).alloc (Nat.le_refl _) (.cells #[.int .u8 1] 5))); have P3 := Lib.hid (p17.below ((Below.refl _ _).alloc (Nat.le_refl _) (.cells #[.int .u8 1] 5))); have B17 := Lib.hid ((B18.out.trans (d17.mono HLE.out)).alloc (B18.out.trans (d17.mono HLE.out)).size (.cells #[.int .u8 1] 5)); have s2 := HS.out _ (B18.out.trans (d17.mono HLE.out)); have s3 := HS.out _ B17.out; have s4 := HS.out _ (B17.out.alloc B17.out.size (.cells #[.slice (some ⟨w17.heap.size, 0, none⟩) 1 1, .slice (some ⟨g15, 0, none⟩) 10 c15, .slice (some ⟨g17, 0, none⟩) 8 c17] 22)); clear p17 b17 d17)
              | (go_at_call 34; refine (join3n _ _ (by simp) _ _ _ _ _ _ P1.out P2.out P3.out (by simp) (by simp [two, eight]) (by simp [eight])).mono ?_; rintro e w20 ⟨r20, rfl, o20, b20⟩; have O20 := Lib.hid o20; have B20 := Lib.hid (B17.out.trans (b20.mono B17.out.size)); have HSZ := Lib.hid B17.out.size; have s5 := HS.out _ B20.out; clear o20 b20))
          all_goals
            go_wp2_with fail
            go_ret2
            refine .inl ⟨HOK.out, r20, rfl, ?_, B20.out⟩
            rw [HB.out]
            exact Go.Joins.ownsRow_le O20.out HSZ.out
        · have hal := HALT.out
          rw [decide_eq_false hEv] at hal
          rw [hal]
          have HOK : Hid (Ok T) := Lib.hid ⟨by have := HN.out; omega, by have := HN.out; omega, HUPT.out⟩
          by_cases hP : 2 ≤ T.length ∧ Small (chgs T)
          · have hn2 : 2 ≤ n := by have := HN.out; omega
            have hpp := packs_pos (l := chgs T) (by rw [chgs_len]; omega)
            have hpq : (packs (chgs T)).length ≤ 10000 := by rw [packs_len]; have := words_len (chgs T); rw [chgs_len] at this; have := HN.out; omega
            have HB : Hid (bytesOf T = [2] ++ ((two n ++ eight UX) ++ packs (chgs T))) := Lib.hid (by rw [bytes_pack hP.1 (fun h => hEv ⟨hP.1, h⟩) hP.2, HTN.out, HUX.out]; rfl)
            have HPS := Lib.hid hP.2
            have HPP := Lib.hid hpp
            have HPQ := Lib.hid hpq
            clear hal hEv hP hpp hpq HUPT HTN HUX HCH HUP HA
            go_wp2_with fail
            refine (F18.out _ _ FO15.out).mono ?_
            intro e w18 hPk
            obtain ⟨r18, rfl, o18, b18⟩ := Packed.ok hPk HPS.out
            have p18 := pt_own o18 HPP.out
            obtain ⟨g18, c18, rfl⟩ := Go.Joins.ownsRow_form o18 HPP.out
            have P18 := Lib.hid p18
            have P15b := Lib.hid (P15.out.below b18)
            have B18 := Lib.hid (B15.out.trans (b18.mono B15.out.size))
            clear b18 hPk o18 p18
            go_upto_region 20 with (fail)
            have P1 : Hid (Pt (w18.alloc (.cells #[.int .u8 2] 5)) (.slice (some ⟨w18.heap.size, 0, none⟩) 1 1) [2]) := Lib.hid (pt_one w18 _ 2 rfl)
            have P2 : Hid (Pt (w18.alloc (.cells #[.int .u8 2] 5)) (.slice (some ⟨g15, 0, none⟩) 10 c15) (two n ++ eight UX)) := Lib.hid (P15b.out.below ((Below.refl _ _).alloc (Nat.le_refl _) _))
            have P3 := Lib.hid (P18.out.below ((Below.refl _ _).alloc (Nat.le_refl _) (.cells #[.int .u8 2] 5)))
            have BA : Hid (Below w.heap.size w (w18.alloc (.cells #[.int .u8 2] 5))) := Lib.hid (B18.out.alloc B18.out.size _)
            go_wp2_with (go_at_call 34; refine (join3n _ _ (by simp) _ _ _ _ _ _ P1.out P2.out P3.out (by simp) (by simp [two, eight]) HPQ.out).mono ?_; rintro e w20 ⟨r20, rfl, o20, b20⟩; have O20 := Lib.hid o20; have B20 := Lib.hid (BA.out.trans (b20.mono BA.out.size)); have HSZ := Lib.hid BA.out.size; clear o20 b20)
            go_ret2
            refine .inl ⟨HOK.out, r20, rfl, ?_, B20.out⟩
            rw [HB.out]
            exact Go.Joins.ownsRow_le O20.out HSZ.out
          · have HBW : Hid (bytesOf T = head 0 T ++ flat (others T)) := Lib.hid (bytes_whole (by
              by_cases h2 : T.length < 2
              · exact .inl h2
              · exact .inr ⟨fun h => hEv ⟨by omega, h⟩, fun h => hP ⟨by omega, h⟩⟩))
            have HWB0 : Hid ([0] ++ (two n ++ eight UX) = wb0 T 0) := Lib.hid (by rw [wb0_zero, HTN.out, HUX.out]; rfl)
            have HQ : Hid (n < 2 ∨ ¬ Small (chgs T)) := Lib.hid (by
              by_cases h2 : T.length < 2
              · exact .inl (by have := HN.out; omega)
              · exact .inr fun h => hP ⟨by omega, h⟩)
            clear hal hEv hP HUPT HTN HUX HCH HUP HA
            go_wp2_with fail
            refine (F18.out _ _ FO15.out).mono ?_
            intro e w18 hPk
            obtain ⟨r18, q18, rfl, b18, hq⟩ : ∃ r q, e = .returned (.tuple #[r, .int .i64 q]) ∧ Below w15.heap.size w15 w18 ∧ (n < 2 ∨ q = 3) := by
              rcases hPk with ⟨hS, r, h, _, h'⟩ | ⟨_, h, h'⟩
              · exact ⟨r, 0, h, h', HQ.out.elim .inl fun h => absurd hS h⟩
              · exact ⟨_, 3, h, h', .inr rfl⟩
            have P15b := Lib.hid (P15.out.below b18)
            have B18 := Lib.hid (B15.out.trans (b18.mono B15.out.size))
            clear b18 hPk HQ
            by_cases hn2 : n < 2
            · clear hq
              go_upto_region 21 with (fail)
              have P1 : Hid (Pt (w18.alloc (.cells #[.int .u8 0] 5)) (.slice (some ⟨w18.heap.size, 0, none⟩) 1 1) [0]) := Lib.hid (pt_one w18 _ 0 rfl)
              have P2 : Hid (Pt (w18.alloc (.cells #[.int .u8 0] 5)) (.slice (some ⟨g15, 0, none⟩) 10 c15) (two n ++ eight UX)) := Lib.hid (P15b.out.below ((Below.refl _ _).alloc (Nat.le_refl _) _))
              have BA : Hid (Below w.heap.size w (w18.alloc (.cells #[.int .u8 0] 5))) := Lib.hid (B18.out.alloc B18.out.size _)
              go_wp2_with (go_at_call 34; refine (join2n _ _ (by simp) _ _ _ _ P1.out P2.out (by simp) (by simp [two, eight])).mono ?_; rintro e w20 ⟨r20, rfl, o20, b20⟩; have O20 := Lib.hid o20; have B20 := Lib.hid (BA.out.trans (b20.mono BA.out.size)); have HSZ := Lib.hid BA.out.size; clear o20 b20)
              have O21 : Hid (w20.ownsRow w.heap.size 5 1 r20 (11 + 8 * 0) (u8s (wb0 T 0))) := Lib.hid (by
                have h := Go.Joins.ownsRow_le O20.out HSZ.out
                rw [HWB0.out] at h
                have e := wb0_len T 0
                rw [e] at h
                exact h)
              clear P1 P2 BA O20 HSZ P15b B18 P15 B15 F18 FO15
              obtain ⟨j0, hj, hz0', hz1', hz2'⟩ := info_parts info5
              go_loopw [12, 13] (fun o i wr => ∃ j, j + 1 ≤ n ∧ i = .int .i64 ((j + 1 : Nat) : Int) ∧ wr.ownsRow w.heap.size 5 1 o (11 + 8 * j) (u8s (wb0 T j)) ∧ Below w.heap.size w wr) (fun _ i _ => n - (intOf i).toNat)
              case atStart => exact ⟨0, h1, rfl, O21.out, B20.out⟩
              case round =>
                obtain ⟨j, hjn, rfl, ho, hbl⟩ := hrel
                by_cases hj2 : j + 1 < n
                · have hj9 : j ≤ 1000 := by omega
                  have e1 := (hbl.cell hb).trans (HC.out (j + 1) (by omega))
                  have uB := @ut_of (T.getD (j + 1) 0)
                  have HWS : Hid (u8s (wb0 T (j + 1)) = u8s (wb0 T j) ++ u8s (eight (ut (T.getD (j + 1) 0)))) := Lib.hid (by rw [wb0_succ]; simp [u8s])
                  obtain ⟨B, hB⟩ : ∃ B, B = T.getD (j + 1) 0 := ⟨_, rfl⟩
                  rw [← hB] at e1 uB HWS
                  obtain ⟨UB, hUB⟩ : ∃ UB, UB = ut B := ⟨_, rfl⟩
                  rw [← hUB] at uB HWS
                  have wB : IntKind.u64.wrap B = (UB : Int) := by rw [IntKind.wrap_u64]; omega
                  have F17b : Hid (∀ x, Calls Tryz.prog 33 #[.int .u64 (UB : Nat)] x fun e w' => ∃ g c, e = .returned (.slice (some ⟨g, 0, none⟩) 8 c) ∧ (∀ j u, (u8s (eight UB))[j]? = some u → w'.cell? ((⟨g, 0, none⟩ : Addr).add j) = some u) ∧ Below x.heap.size x w') := Lib.hid fun x => (eight_ex x UB).mono fun e w' ⟨g, c, he, ⟨_, g', c', he', hp⟩, bl⟩ => by
                    cases he'
                    exact ⟨_, _, he, hp, bl⟩
                  have HONE : Hid (∀ u ∈ u8s (eight UB), u.oneCell' = true) := Lib.hid fun u hu => by simp [u8s] at hu; obtain ⟨x, _, rfl⟩ := hu; rfl
                  have HLN : Hid ((u8s (eight UB)).length = 8) := Lib.hid rfl
                  have HBL2 := Lib.hid hbl
                  have HO3 := Lib.hid ho
                  obtain ⟨i, hik⟩ : ∃ i, i = j + 1 := ⟨_, rfl⟩
                  rw [← hik] at e1 hj2 hjn HWS ⊢
                  have HIK := Lib.hid hik
                  clear hik ho hbl hB hUB uB
                  go_wp2_with fail
                  refine (F17b.out _).mono ?_
                  rintro e w22 ⟨g17, c17, rfl, p17, b17⟩
                  have hown := own_below HO3.out b17
                  have B22 := Lib.hid (HBL2.out.trans (b17.mono HBL2.out.size))
                  have hs22 := B22.out.size
                  have P17 := Lib.hid p17
                  clear p17 b17
                  go_wp2_with (at_builtin; refine wpList_append_own _ rfl (.tmp 130) (.tmp 136) 22 rfl w.heap.size 5 j0 (.int .u8 0) 1 1 Tryz.underlying22 hj hz0' hz1' hz2' rfl (by decide) _ (11 + 8 * j) _ rfl hown ⟨g17, 0, none⟩ 8 c17 (u8s (eight UB)) rfl HLN.out ?c1 ?c2 ?c3 ?c4 ?c5 ?_)
                  case c1 => exact P17.out
                  case c2 => exact HONE.out
                  case c3 => unfold maxLen; omega
                  case c4 => omega
                  case c5 => omega
                  intro v' w23 hown' hgrow _
                  have b23 := Lib.hid (Below.grown B22.out hgrow hs22 (fun r hr => (hown.lt r hr).1))
                  clear hgrow
                  have hO23 := Lib.hid hown'
                  clear hown'
                  go_wp2_with fail
                  go_roundw
                  case rel => exact ⟨j + 1, by have := HIK.out; omega, by rw [← HIK.out]; go_num, by have h := hO23.out; rw [← HIK.out, HWS.out, HIK.out]; exact h, b23.out⟩
                  case measure => simp [intOf]; omega
                · have HO3 := Lib.hid ho
                  have HB3 := Lib.hid hbl
                  have hjj : Hid (j = T.length - 1) := Lib.hid (by have := HN.out; omega)
                  obtain ⟨i, hik⟩ : ∃ i, i = j + 1 := ⟨_, rfl⟩
                  rw [← hik] at hj2 hjn ⊢
                  clear ho hbl hik
                  go_wp2_with fail
                  go_ret2
                  refine .inl ⟨HOK.out, _, rfl, ?_, HB3.out⟩
                  have h := HO3.out
                  have e := wb0_len T j
                  rw [← e, hjj.out, ← wb0_all, ← HBW.out] at h
                  exact h
            · obtain rfl : q18 = 3 := by omega
              go_upto_region 21 with (fail)
              have P1 : Hid (Pt (w18.alloc (.cells #[.int .u8 0] 5)) (.slice (some ⟨w18.heap.size, 0, none⟩) 1 1) [0]) := Lib.hid (pt_one w18 _ 0 rfl)
              have P2 : Hid (Pt (w18.alloc (.cells #[.int .u8 0] 5)) (.slice (some ⟨g15, 0, none⟩) 10 c15) (two n ++ eight UX)) := Lib.hid (P15b.out.below ((Below.refl _ _).alloc (Nat.le_refl _) _))
              have BA : Hid (Below w.heap.size w (w18.alloc (.cells #[.int .u8 0] 5))) := Lib.hid (B18.out.alloc B18.out.size _)
              go_wp2_with (go_at_call 34; refine (join2n _ _ (by simp) _ _ _ _ P1.out P2.out (by simp) (by simp [two, eight])).mono ?_; rintro e w20 ⟨r20, rfl, o20, b20⟩; have O20 := Lib.hid o20; have B20 := Lib.hid (BA.out.trans (b20.mono BA.out.size)); have HSZ := Lib.hid BA.out.size; clear o20 b20)
              have O21 : Hid (w20.ownsRow w.heap.size 5 1 r20 (11 + 8 * 0) (u8s (wb0 T 0))) := Lib.hid (by
                have h := Go.Joins.ownsRow_le O20.out HSZ.out
                rw [HWB0.out] at h
                have e := wb0_len T 0
                rw [e] at h
                exact h)
              clear P1 P2 BA O20 HSZ P15b B18 P15 B15 F18 FO15
              obtain ⟨j0, hj, hz0', hz1', hz2'⟩ := info_parts info5
              go_loopw [12, 13] (fun o i wr => ∃ j, j + 1 ≤ n ∧ i = .int .i64 ((j + 1 : Nat) : Int) ∧ wr.ownsRow w.heap.size 5 1 o (11 + 8 * j) (u8s (wb0 T j)) ∧ Below w.heap.size w wr) (fun _ i _ => n - (intOf i).toNat)
              case atStart => exact ⟨0, h1, rfl, O21.out, B20.out⟩
              case round =>
                obtain ⟨j, hjn, rfl, ho, hbl⟩ := hrel
                by_cases hj2 : j + 1 < n
                · have hj9 : j ≤ 1000 := by omega
                  have e1 := (hbl.cell hb).trans (HC.out (j + 1) (by omega))
                  have uB := @ut_of (T.getD (j + 1) 0)
                  have HWS : Hid (u8s (wb0 T (j + 1)) = u8s (wb0 T j) ++ u8s (eight (ut (T.getD (j + 1) 0)))) := Lib.hid (by rw [wb0_succ]; simp [u8s])
                  obtain ⟨B, hB⟩ : ∃ B, B = T.getD (j + 1) 0 := ⟨_, rfl⟩
                  rw [← hB] at e1 uB HWS
                  obtain ⟨UB, hUB⟩ : ∃ UB, UB = ut B := ⟨_, rfl⟩
                  rw [← hUB] at uB HWS
                  have wB : IntKind.u64.wrap B = (UB : Int) := by rw [IntKind.wrap_u64]; omega
                  have F17b : Hid (∀ x, Calls Tryz.prog 33 #[.int .u64 (UB : Nat)] x fun e w' => ∃ g c, e = .returned (.slice (some ⟨g, 0, none⟩) 8 c) ∧ (∀ j u, (u8s (eight UB))[j]? = some u → w'.cell? ((⟨g, 0, none⟩ : Addr).add j) = some u) ∧ Below x.heap.size x w') := Lib.hid fun x => (eight_ex x UB).mono fun e w' ⟨g, c, he, ⟨_, g', c', he', hp⟩, bl⟩ => by
                    cases he'
                    exact ⟨_, _, he, hp, bl⟩
                  have HONE : Hid (∀ u ∈ u8s (eight UB), u.oneCell' = true) := Lib.hid fun u hu => by simp [u8s] at hu; obtain ⟨x, _, rfl⟩ := hu; rfl
                  have HLN : Hid ((u8s (eight UB)).length = 8) := Lib.hid rfl
                  have HBL2 := Lib.hid hbl
                  have HO3 := Lib.hid ho
                  obtain ⟨i, hik⟩ : ∃ i, i = j + 1 := ⟨_, rfl⟩
                  rw [← hik] at e1 hj2 hjn HWS ⊢
                  have HIK := Lib.hid hik
                  clear hik ho hbl hB hUB uB
                  go_wp2_with fail
                  refine (F17b.out _).mono ?_
                  rintro e w22 ⟨g17, c17, rfl, p17, b17⟩
                  have hown := own_below HO3.out b17
                  have B22 := Lib.hid (HBL2.out.trans (b17.mono HBL2.out.size))
                  have hs22 := B22.out.size
                  have P17 := Lib.hid p17
                  clear p17 b17
                  go_wp2_with (at_builtin; refine wpList_append_own _ rfl (.tmp 130) (.tmp 136) 22 rfl w.heap.size 5 j0 (.int .u8 0) 1 1 Tryz.underlying22 hj hz0' hz1' hz2' rfl (by decide) _ (11 + 8 * j) _ rfl hown ⟨g17, 0, none⟩ 8 c17 (u8s (eight UB)) rfl HLN.out ?c1 ?c2 ?c3 ?c4 ?c5 ?_)
                  case c1 => exact P17.out
                  case c2 => exact HONE.out
                  case c3 => unfold maxLen; omega
                  case c4 => omega
                  case c5 => omega
                  intro v' w23 hown' hgrow _
                  have b23 := Lib.hid (Below.grown B22.out hgrow hs22 (fun r hr => (hown.lt r hr).1))
                  clear hgrow
                  have hO23 := Lib.hid hown'
                  clear hown'
                  go_wp2_with fail
                  go_roundw
                  case rel => exact ⟨j + 1, by have := HIK.out; omega, by rw [← HIK.out]; go_num, by have h := hO23.out; rw [← HIK.out, HWS.out, HIK.out]; exact h, b23.out⟩
                  case measure => simp [intOf]; omega
                · have HO3 := Lib.hid ho
                  have HB3 := Lib.hid hbl
                  have hjj : Hid (j = T.length - 1) := Lib.hid (by have := HN.out; omega)
                  obtain ⟨i, hik⟩ : ∃ i, i = j + 1 := ⟨_, rfl⟩
                  rw [← hik] at hj2 hjn ⊢
                  clear ho hbl hik
                  go_wp2_with fail
                  go_ret2
                  refine .inl ⟨HOK.out, _, rfl, ?_, HB3.out⟩
                  have h := HO3.out
                  have e := wb0_len T j
                  rw [← e, hjj.out, ← wb0_all, ← HBW.out] at h
                  exact h

theorem refencode9 (w : World) (v : Value) (T : List Int) (hI : Ii w v T) : Calls Tryz.prog 52 #[v] w fun e w' => Encoded w T e w' := by
  have hv : ∃ a c, v = .slice a T.length c := by
    obtain ⟨_, ⟨a, c, rfl, rfl⟩ | ⟨b, off, c, rfl, _⟩⟩ := hI
    · exact ⟨a, c, rfl⟩
    · exact ⟨_, _, rfl⟩
  by_cases h0 : T.length = 0 ∨ 1000 < T.length
  · exact refenc_none w v T hv h0
  · exact refenc_try w v T hI (by omega) (by omega)
end TEn
end Go.Proofs.YtjmddomkoholoaaGreatDoor
