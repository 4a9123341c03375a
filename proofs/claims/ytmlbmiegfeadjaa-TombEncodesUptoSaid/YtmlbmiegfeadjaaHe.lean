/- A place found among graves. -/
import Derived.Test.YtmlbmiegfeadjaaHd
import Derived.Deep.LoopGhost
import Derived.Shelf.Abstract
namespace Go.Proofs.Ytmlbmiegfeadjaa
open Go.RowKit Go.Maps Go.ChangeMaps Go.MapKept Go.Sort
namespace He
open Jb Ca Cz Ga Gm Gn Gt Gw Gy Gz Hb Hc

theorem grow_below (w : World) (q : Nat) (os : Array Obj) : Below w.heap.size w (grow (w.drewN q) os) := below_grown_sl w.heap.size w q os (Nat.le_refl _)
/-- The graves' rows, for reading. -/
theorem grv_at {w : World} {B : Nat} {v : Value} {R : List Gc} (H : GR w B v R) : ∃ a c, v = .slice a R.length c ∧ ∀ i, i < R.length → ∃ b ua un uc, a = some ⟨b, 0, none⟩ ∧ R.length ≤ c ∧ b < w.heap.size ∧ (R.getD i gz).2.2 = .slice ua un uc ∧ ∀ y, Below w.heap.size w y → y.cell? ⟨b, i * 3, none⟩ = some (.string (R.getD i gz).1.1) ∧ y.cell? ⟨b, i * 3 + 1, none⟩ = some (.string (R.getD i gz).1.2) ∧ y.cell? ⟨b, i * 3 + 2, none⟩ = some (.slice ua un uc) := by
  obtain ⟨a, c, hv⟩ := own_forms H.own
  refine ⟨a, c, hv, fun i hi => ?_⟩
  have o := H.own
  obtain ⟨b, c2, e⟩ := Go.Joins.ownsRow_form o (by omega)
  rw [hv] at e
  cases e
  rw [hv] at o
  have hc : R.length ≤ c := by
    rcases o.2 with ⟨e, _⟩ | ⟨_, _, _, e, _, _, hc, _⟩
    · cases e
    · cases e; exact hc
  obtain ⟨ua, uc, hu⟩ := own_forms (H.rows _ (getD_in hi))
  have hb := (Gt.own_lt o rfl).2
  refine ⟨b, ua, _, uc, rfl, hc, hb, hu, fun y hy => ⟨?_, ?_, ?_⟩⟩
  · exact (hy.cell (p := ⟨b, i * 3, none⟩) hb).trans ((o.cellAt (i * 3) (by omega)).trans (gcl_get R i 0 (by decide) hi))
  · exact (hy.cell (p := ⟨b, i * 3 + 1, none⟩) hb).trans ((o.cellAt (i * 3 + 1) (by omega)).trans (gcl_get R i 1 (by decide) hi))
  · rw [← hu]; exact (hy.cell (p := ⟨b, i * 3 + 2, none⟩) hb).trans ((o.cellAt (i * 3 + 2) (by omega)).trans (gcl_get R i 2 (by decide) hi))
theorem cf_neg {a b : Ky} : klt a b = true → cf a b = -1 := fun h => by unfold cf; rw [if_pos h]
theorem cf_pos {a b : Ky} (h : klt a b = false) : ∃ q : Nat, cf a b = (q : Int) := by
  unfold cf
  rw [if_neg (by rw [h]; decide)]
  split
  · exact ⟨1, rfl⟩
  · exact ⟨0, rfl⟩
set_option maxRecDepth 100000
set_option maxHeartbeats 8000000
theorem bsf56 (w : World) (B : Nat) (v : Value) (R : List Gc) (k : Ky) (H : GR w B v R) (hk : (tabG R).Pairwise (fun a b => klt a.1 b.1 = true)) (hn : R.length ≤ 4000000000000) :
    Calls Try.prog 56 #[v, .agg #[.string k.1, .string k.2, .slice none 0 0], .func (.func 57) #[] #[]] w fun e w' => ∃ (lo : Nat) (fd : Bool), e = .returned (.tuple #[.int .i64 (lo : Nat), .bool fd]) ∧ (fd = true → lo < R.length ∧ (R.getD lo gz).1 = k) ∧ (fd = false → lk (tabG R) k = []) ∧ Below w.heap.size w w' := by
  obtain ⟨a, c, rfl, hat⟩ := grv_at H
  have HC := Lib.hid (fun w x ua un uc => compare57 w x k ua none un uc 0 0)
  have AT := Lib.hid hat
  have KM := Lib.hid (show ∀ i j, i < j → j < R.length → klt (R.getD i gz).1 (R.getD j gz).1 = true from fun i j h1 h2 => by
    have := keys_mono hk h1 (by rw [tabG_len]; exact h2)
    rwa [tabG_get, tabG_get] at this)
  have ABS := Lib.hid (show ∀ i, i ≤ R.length → (∀ j, j < i → klt (R.getD j gz).1 k = true) → (i < R.length → klt k (R.getD i gz).1 = true) → lk (tabG R) k = [] from fun i hi h1 h2 => look_absent hk (i := i) (by rw [tabG_len]; exact hi) (fun j hj => by rw [tabG_get]; exact h1 j hj) (fun h => by rw [tabG_get]; exact h2 (by rwa [tabG_len] at h)))
  have eg : ∀ args w, (callFunc 57 args).run Try.prog w = .ok (.enter 57 args) w := Go.Proofs.enters_of Try.func57 (by kernel_rfl) rfl
  obtain ⟨n, hne⟩ : ∃ n, n = R.length := ⟨_, rfl⟩
  rw [← hne] at AT KM ABS hn ⊢
  obtain ⟨LK, hLK⟩ : ∃ LK, LK = lk (tabG R) k := ⟨_, rfl⟩
  rw [← hLK] at ABS ⊢
  clear H hat hk hne hLK
  obtain ⟨k0, k1⟩ := k
  simp only at HC ⊢
  have ha := heap_alloc_new w (.cells #[.string k0, .string k1, .slice none 0 0] 93)
  have bA := (Below.refl w.heap.size w).alloc (Nat.le_refl _) (.cells #[.string k0, .string k1, .slice none 0 0] 93)
  have TC := Lib.hid (show ∀ y, Below (w.heap.size + 1) (w.alloc (.cells #[.string k0, .string k1, .slice none 0 0] 93)) y → Below w.heap.size w y ∧ y.cell? ⟨w.heap.size, 0, none⟩ = some (.string k0) ∧ y.cell? ⟨w.heap.size, 1, none⟩ = some (.string k1) ∧ y.cell? ⟨w.heap.size, 2, none⟩ = some (.slice none 0 0) from fun y hy => by
    have hb := (hy.block w.heap.size (by omega)).trans ha
    exact ⟨bA.trans (hy.mono (by omega)), cell_at hb 0, cell_at hb 1, cell_at hb 2⟩)
  have HW := Lib.hid (show Below (w.heap.size + 1) (w.alloc (.cells #[.string k0, .string k1, .slice none 0 0] 93)) (w.alloc (.cells #[.string k0, .string k1, .slice none 0 0] 93)) from Below.refl _ _)
  have HSZ := Lib.hid (show (w.alloc (.cells #[.string k0, .string k1, .slice none 0 0] 93)).heap.size = w.heap.size + 1 by simp)
  clear ha bA
  go_enter Try.func56, Try.ntmps56
  go_upto_region 2 with (fail)
  obtain ⟨wb, hwb⟩ : ∃ wb, wb = w.alloc (.cells #[.string k0, .string k1, .slice none 0 0] 93) := ⟨_, rfl⟩
  rw [← hwb] at TC HW HSZ ⊢
  clear hwb
  go_wp2_with fail
  go_loopg [9, 10] n (fun kx s9 s10 wr => ∃ lo hi : Nat, s9 = .int .i64 lo ∧ s10 = .int .i64 hi ∧ lo ≤ hi ∧ hi ≤ n ∧ hi - lo ≤ kx ∧ Hid (Below (w.heap.size + 1) wb wr) ∧
    Hid ((∀ i, i < lo → klt (R.getD i gz).1 (k0, k1) = true) ∧ (∀ i, hi ≤ i → i < n → klt (R.getD i gz).1 (k0, k1) = false)))
  case atStart => exact ⟨0, n, rfl, rfl, Nat.zero_le _, Nat.le_refl _, by omega, Lib.hid HW.out, Lib.hid ⟨fun i hi => by omega, fun i h1 h2 => by omega⟩⟩
  case round =>
    obtain ⟨lo, hi, rfl, rfl, hlh, hin, hg, HB, HI⟩ := hrel
    obtain ⟨hBw, t0, t1, t2⟩ := TC.out wr HB.out
    by_cases hlt : lo < hi
    · obtain ⟨b, ua, un, uc, rfl, hnc, hb, hu, hcell⟩ := AT.out ((lo + hi) / 2) (by omega)
      obtain ⟨x0, x1, x2⟩ := hcell wr hBw
      have YY := Lib.hid (show ∀ y, Below wr.heap.size wr.drew y → Below (w.heap.size + 1) wb y ∧ y.cell? ⟨b, (lo + hi) / 2 * 3, none⟩ = some (.string (R.getD ((lo + hi) / 2) gz).1.1) ∧ y.cell? ⟨b, (lo + hi) / 2 * 3 + 1, none⟩ = some (.string (R.getD ((lo + hi) / 2) gz).1.2) ∧ y.cell? ⟨b, (lo + hi) / 2 * 3 + 2, none⟩ = some (.slice ua un uc) ∧ y.cell? ⟨w.heap.size, 0, none⟩ = some (.string k0) ∧ y.cell? ⟨w.heap.size, 1, none⟩ = some (.string k1) ∧ y.cell? ⟨w.heap.size, 2, none⟩ = some (.slice none 0 0) from fun y hy => by
        have h1 : Below (w.heap.size + 1) wb y := HB.out.drew.trans (hy.mono (by have := HB.out.size; have := HSZ.out; omega))
        obtain ⟨h2, h3⟩ := TC.out y h1
        obtain ⟨h4, h5, h6⟩ := hcell y h2
        exact ⟨h1, h4, h5, h6, h3⟩)
      have MONO := Lib.hid (show (klt (R.getD ((lo + hi) / 2) gz).1 (k0, k1) = true → ∀ i, i < (lo + hi) / 2 + 1 → klt (R.getD i gz).1 (k0, k1) = true) ∧ (klt (R.getD ((lo + hi) / 2) gz).1 (k0, k1) = false → ∀ i, (lo + hi) / 2 ≤ i → i < n → klt (R.getD i gz).1 (k0, k1) = false) from by
        refine ⟨fun h i hi' => ?_, fun h i h1 h2 => ?_⟩
        · by_cases e : i = (lo + hi) / 2
          · rw [e]; exact h
          · exact klt_trans (KM.out i ((lo + hi) / 2) (by omega) (by omega)) h
        · by_cases e : i = (lo + hi) / 2
          · rw [e]; exact h
          · cases hh : klt (R.getD i gz).1 (k0, k1) with
            | false => rfl
            | true => have := klt_trans (KM.out ((lo + hi) / 2) i (by omega) h2) hh; rw [h] at this; cases this)
      have hc := fun w => HC.out w (R.getD ((lo + hi) / 2) gz).1 ua un uc
      clear hcell hu hBw
      generalize (R.getD ((lo + hi) / 2) gz).1 = y at x0 x1 x2 hc MONO YY
      obtain ⟨y0, y1⟩ := y
      simp only at x0 x1 hc
      obtain ⟨_, k2⟩ := YY.out wr.drew (Below.refl _ _)
      cases hyx : klt (y0, y1) (k0, k1) with
      | true =>
        rw [cf_neg hyx] at hc
        have M := Lib.hid (MONO.out.1 hyx)
        clear MONO hyx
        go_upto_region 5 with (fail)
        go_region_held (fun y : World => y.cell? ⟨b, (lo + hi) / 2 * 3, none⟩ = some (.string y0) ∧ y.cell? ⟨b, (lo + hi) / 2 * 3 + 1, none⟩ = some (.string y1) ∧ y.cell? ⟨b, (lo + hi) / 2 * 3 + 2, none⟩ = some (.slice ua un uc) ∧ y.cell? ⟨w.heap.size, 0, none⟩ = some (.string k0) ∧ y.cell? ⟨w.heap.size, 1, none⟩ = some (.string k1) ∧ y.cell? ⟨w.heap.size, 2, none⟩ = some (.slice none 0 0))
          (first | exact k2 | exact k3)
          (first | (go_at_fn 57; refine (hc _).mono ?_; rintro e w' ⟨rfl, q, os, hw'⟩; obtain ⟨B2, k3⟩ := YY.out w' (by rw [hw']; exact grow_below wr.drew q os); have HB2 := Lib.hid B2; clear hw' B2))
        all_goals
          go_wp2_with fail
          go_roundg (hi - ((lo + hi) / 2 + 1))
        case measure => omega
        case rel => exact ⟨(lo + hi) / 2 + 1, hi, by rw [show ((lo : Int) + (hi : Int)) / 2 + 1 = (((lo + hi) / 2 + 1 : Nat) : Int) by omega], rfl, by omega, hin, Nat.le_refl _, Lib.hid HB2.out, Lib.hid ⟨M.out, HI.out.2⟩⟩
      | false =>
        obtain ⟨q, e3⟩ := cf_pos hyx
        rw [e3] at hc
        have M := Lib.hid (MONO.out.2 hyx)
        clear MONO hyx e3
        go_upto_region 5 with (fail)
        go_region_held (fun y : World => y.cell? ⟨b, (lo + hi) / 2 * 3, none⟩ = some (.string y0) ∧ y.cell? ⟨b, (lo + hi) / 2 * 3 + 1, none⟩ = some (.string y1) ∧ y.cell? ⟨b, (lo + hi) / 2 * 3 + 2, none⟩ = some (.slice ua un uc) ∧ y.cell? ⟨w.heap.size, 0, none⟩ = some (.string k0) ∧ y.cell? ⟨w.heap.size, 1, none⟩ = some (.string k1) ∧ y.cell? ⟨w.heap.size, 2, none⟩ = some (.slice none 0 0))
          (first | exact k2 | exact k3)
          (first | (go_at_fn 57; refine (hc _).mono ?_; rintro e w' ⟨rfl, q, os, hw'⟩; obtain ⟨B2, k3⟩ := YY.out w' (by rw [hw']; exact grow_below wr.drew q os); have HB2 := Lib.hid B2; clear hw' B2))
        all_goals
          go_wp2_with fail
          go_roundg ((lo + hi) / 2 - lo)
        case measure => omega
        case rel => exact ⟨lo, (lo + hi) / 2, rfl, by rw [show ((lo : Int) + (hi : Int)) / 2 = (((lo + hi) / 2 : Nat) : Int) by omega], by omega, by omega, Nat.le_refl _, Lib.hid HB2.out, Lib.hid ⟨HI.out.1, M.out⟩⟩
    · obtain rfl : hi = lo := by omega
      have ABS2 := Lib.hid (fun h => ABS.out hi hin HI.out.1 h)
      by_cases hn2 : hi < n
      case neg =>
        obtain rfl : hi = n := by omega
        have E := Lib.hid (ABS2.out (fun h => absurd h hn2))
        clear ABS2
        go_upto_region 8 with (fail)
        go_quiet (fail)
        go_wp2_with fail
        go_ret2
        exact ⟨hi, false, rfl, (fun h => by cases h), fun _ => E.out, bdn hBw _⟩
      obtain ⟨b, ua, un, uc, rfl, hnc, hb, hu, hcell⟩ := AT.out hi hn2
      obtain ⟨x0, x1, x2⟩ := hcell wr hBw
      have YY := Lib.hid (show ∀ y, Below wr.heap.size wr.drew y → Below w.heap.size w y ∧ y.cell? ⟨b, hi * 3, none⟩ = some (.string (R.getD hi gz).1.1) ∧ y.cell? ⟨b, hi * 3 + 1, none⟩ = some (.string (R.getD hi gz).1.2) ∧ y.cell? ⟨b, hi * 3 + 2, none⟩ = some (.slice ua un uc) ∧ y.cell? ⟨w.heap.size, 0, none⟩ = some (.string k0) ∧ y.cell? ⟨w.heap.size, 1, none⟩ = some (.string k1) ∧ y.cell? ⟨w.heap.size, 2, none⟩ = some (.slice none 0 0) from fun y hy => by
        have h1 : Below (w.heap.size + 1) wb y := HB.out.drew.trans (hy.mono (by have := HB.out.size; have := HSZ.out; omega))
        obtain ⟨h2, h3⟩ := TC.out y h1
        obtain ⟨h4, h5, h6⟩ := hcell y h2
        exact ⟨h2, h4, h5, h6, h3⟩)
      have hc := fun w => HC.out w (R.getD hi gz).1 ua un uc
      have hlt2 := HI.out.2 hi (Nat.le_refl _) hn2
      clear hcell hu hBw
      obtain ⟨y, hy⟩ : ∃ y, y = (R.getD hi gz).1 := ⟨_, rfl⟩
      rw [← hy] at x0 x1 hc YY ABS2 hlt2
      have HY := Lib.hid hy
      clear hy
      obtain ⟨y0, y1⟩ := y
      simp only at x0 x1 hc
      obtain ⟨_, k2⟩ := YY.out wr.drew (Below.refl _ _)
      by_cases hyk : (y0, y1) = (k0, k1)
      · have e3 := (cf_zero _ _).2 hyk
        rw [e3] at hc
        have HK := Lib.hid hyk
        clear e3 hyk ABS2 hlt2
        go_upto_region 8 with (fail)
        go_region_held (fun y : World => y.cell? ⟨b, hi * 3, none⟩ = some (.string y0) ∧ y.cell? ⟨b, hi * 3 + 1, none⟩ = some (.string y1) ∧ y.cell? ⟨b, hi * 3 + 2, none⟩ = some (.slice ua un uc) ∧ y.cell? ⟨w.heap.size, 0, none⟩ = some (.string k0) ∧ y.cell? ⟨w.heap.size, 1, none⟩ = some (.string k1) ∧ y.cell? ⟨w.heap.size, 2, none⟩ = some (.slice none 0 0))
          (first | exact k2 | exact k3)
          (first | (go_at_fn 57; refine (hc _).mono ?_; rintro e w' ⟨rfl, q, os, hw'⟩; obtain ⟨B2, k3⟩ := YY.out w' (by rw [hw']; exact grow_below wr.drew q os); have HB2 := Lib.hid B2; clear hw' B2))
        all_goals
          go_wp2_with fail
          go_ret2
          exact ⟨hi, true, rfl, fun _ => ⟨hn2, by rw [← HY.out]; exact HK.out⟩, (fun h => by cases h), HB2.out⟩
      · have e3 : cf (y0, y1) (k0, k1) = 1 := by
          rcases klt_total hyk with h | h
          · rw [hlt2] at h; cases h
          · unfold cf; rw [hlt2, h]; rfl
        rw [e3] at hc
        have E := Lib.hid (ABS2.out (fun _ => by
          rcases klt_total hyk with h | h
          · rw [hlt2] at h; cases h
          · exact h))
        clear e3 hyk ABS2 hlt2
        go_upto_region 8 with (fail)
        go_region_held (fun y : World => y.cell? ⟨b, hi * 3, none⟩ = some (.string y0) ∧ y.cell? ⟨b, hi * 3 + 1, none⟩ = some (.string y1) ∧ y.cell? ⟨b, hi * 3 + 2, none⟩ = some (.slice ua un uc) ∧ y.cell? ⟨w.heap.size, 0, none⟩ = some (.string k0) ∧ y.cell? ⟨w.heap.size, 1, none⟩ = some (.string k1) ∧ y.cell? ⟨w.heap.size, 2, none⟩ = some (.slice none 0 0))
          (first | exact k2 | exact k3)
          (first | (go_at_fn 57; refine (hc _).mono ?_; rintro e w' ⟨rfl, q, os, hw'⟩; obtain ⟨B2, k3⟩ := YY.out w' (by rw [hw']; exact grow_below wr.drew q os); have HB2 := Lib.hid B2; clear hw' B2))
        all_goals
          go_wp2_with fail
          go_ret2
          exact ⟨hi, false, rfl, (fun h => by cases h), fun _ => E.out, HB2.out⟩
end He
end Go.Proofs.Ytmlbmiegfeadjaa
