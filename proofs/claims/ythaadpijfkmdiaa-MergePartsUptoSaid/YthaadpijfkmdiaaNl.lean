/- beginning: the first parts of one name. -/
import Derived.Test.YthaadpijfkmdiaaNk
import Derived.Deep.RegionHeldLaw
namespace Go.Proofs.Ythaadpijfkmdiaa
open Go.RowKit
namespace Nl
open Jb Ca Ga Nm Na Nj Nk

theorem cf_zero (a b : Ky) : cf a b = 0 ↔ a = b := by
  unfold cf
  constructor
  · intro h
    by_cases e : a = b
    · exact e
    · rcases klt_total e with k | k
      · rw [if_pos k] at h; cases h
      · by_cases k2 : klt a b = true
        · rw [if_pos k2] at h; cases h
        · rw [if_neg k2, if_pos k] at h; cases h
  · rintro rfl
    rw [klt_irrefl]; rfl
set_option maxRecDepth 100000
set_option maxHeartbeats 8000000
theorem beginning15 (w : World) (b off c : Nat) (L : List V4) (h : Sl w (.slice (some ⟨b, off, none⟩) L.length c) L) (h0 : 0 < L.length) (hD : ∀ x ∈ L, Dp x) (hn : L.length ≤ 1000000000) :
    Calls Try.prog 15 #[.slice (some ⟨b, off, none⟩) L.length c] w fun e w' => ∃ n : Nat, e = .returned (.slice (some ⟨b, off, none⟩) n c) ∧ 1 ≤ n ∧ n ≤ L.length ∧ L.length ≤ c ∧ (∀ i, i < n → nameOf (L.getD i d4) = nameOf (L.getD 0 d4)) ∧ (n < L.length → nameOf (L.getD n d4) ≠ nameOf (L.getD 0 d4)) ∧ Below w.heap.size w w' := by
  obtain ⟨a, c', e, hg⟩ := h.get
  cases e
  obtain ⟨m, hM⟩ : ∃ m, m = L.length := ⟨_, rfl⟩
  have HM := Lib.hid hM
  rw [← hM] at hg h0 hn ⊢
  obtain ⟨_, _, e, hmc, hb, hT0⟩ := hg 0 h0
  cases e
  have HG := Lib.hid (show ∀ i, i < m → ∀ y, Below w.heap.size w y → At4 y b (off + i * 4) (L.getD i d4) from fun i hi => by
    obtain ⟨_, _, e, _, _, hT⟩ := hg i hi
    cases e
    exact hT)
  have mem : ∀ i, i < m → L.getD i d4 ∈ L := fun i hi => by
    rw [List.getD_eq_getElem?_getD, List.getElem?_eq_getElem (by rw [← hM]; exact hi)]; exact List.getElem_mem _
  have DD := Lib.hid (show ∀ i, i < m → Dp (L.getD i d4) from fun i hi => hD _ (mem i hi))
  clear h hg hD hM mem hT0
  go_enter Try.func15, Try.ntmps15
  go_wp2_with fail
  go_loopw [3] (fun i wr => ∃ n : Nat, 1 ≤ n ∧ n ≤ m ∧ i = .int .i64 (n : Nat) ∧ Hid (∀ i, i < n → nameOf (L.getD i d4) = nameOf (L.getD 0 d4)) ∧ Hid (Below w.heap.size w wr)) (fun i _ => m - (intOf i).toNat)
  case atStart => exact ⟨1, Nat.le_refl _, by omega, rfl, Lib.hid (fun i hi => by rw [show i = 0 by omega]), Lib.hid (Below.refl _ _)⟩
  case round =>
    obtain ⟨n, hn1, hnm, rfl, HS, HB⟩ := hrel
    obtain ⟨wa, rfl⟩ : ∃ wa, wa = wr := ⟨_, rfl⟩
    by_cases hlt : n < m
    case neg =>
      have hd : decide ((n : Int) < (m : Int)) = false := decide_eq_false (by omega)
      obtain rfl : n = m := by omega
      go_upto_region 2 with (fail)
      go_quiet (fail)
      all_goals
        go_wp2_with fail
        go_ret
        exact ⟨n, rfl, hn1, Nat.le_refl _, hmc, HS.out, (fun h => by omega), La.bdn HB.out _⟩
    have hT := HG.out n hlt wa HB.out
    have hT0 := HG.out 0 h0 wa HB.out
    obtain ⟨s, f, u, l, e1, ua, un, uc, rfl⟩ := DD.out n hlt
    obtain ⟨s', f', u', l', e2, ua', un', uc', rfl⟩ := DD.out 0 h0
    have XY := Lib.hid (show ∀ y, Below w.heap.size w y → (y.cell? ⟨b, off + n * 4, none⟩ = some (.string s) ∧ y.cell? ⟨b, off + n * 4 + 1, none⟩ = some (.string f) ∧ y.cell? ⟨b, off + n * 4 + 2, none⟩ = some (.slice ua un uc) ∧ y.cell? ⟨b, off + n * 4 + 3, none⟩ = some (.int .i64 l)) ∧ (y.cell? ⟨b, off, none⟩ = some (.string s') ∧ y.cell? ⟨b, off + 1, none⟩ = some (.string f') ∧ y.cell? ⟨b, off + 2, none⟩ = some (.slice ua' un' uc') ∧ y.cell? ⟨b, off + 3, none⟩ = some (.int .i64 l')) from fun y hy => by
      have h1 := HG.out n hlt y hy
      have h2 := HG.out 0 h0 y hy
      rw [e1] at h1
      rw [e2] at h2
      simp only [Nat.zero_mul, Nat.add_zero] at h2
      exact ⟨h1, h2⟩)
    have NE := Lib.hid (show nameOf (L.getD n d4) = nameOf (L.getD 0 d4) ↔ cf (s, f) (s', f') = 0 from by
      rw [cf_zero, e1, e2]; rfl)
    have k0 := XY.out wa.drew HB.out.drew
    obtain ⟨C, hC⟩ : ∃ C, C = cf (s, f) (s', f') := ⟨_, rfl⟩
    have NC := Lib.hid (fun W => name22 W s f s' f' ua ua' un un' uc uc' l l')
    rw [← hC] at NC NE
    have hd : decide ((n : Int) < (m : Int)) = true := decide_eq_true (by omega)
    have KY := Lib.hid (show ∀ W, Below wa.drew.heap.size wa.drew W → Below w.heap.size w W from fun W hW => HB.out.drew.trans (hW.mono HB.out.size))
    clear hT hT0 e1 e2 hC
    by_cases h9 : C = 0
    · subst h9
      go_upto_region 2 with (fail)
      go_region_held_law (fun y : World => (y.cell? ⟨b, off + n * 4, none⟩ = some (.string s) ∧ y.cell? ⟨b, off + n * 4 + 1, none⟩ = some (.string f) ∧ y.cell? ⟨b, off + n * 4 + 2, none⟩ = some (.slice ua un uc) ∧ y.cell? ⟨b, off + n * 4 + 3, none⟩ = some (.int .i64 l)) ∧ (y.cell? ⟨b, off, none⟩ = some (.string s') ∧ y.cell? ⟨b, off + 1, none⟩ = some (.string f') ∧ y.cell? ⟨b, off + 2, none⟩ = some (.slice ua' un' uc') ∧ y.cell? ⟨b, off + 3, none⟩ = some (.int .i64 l')))
        (first | exact k0 | exact kY)
        (first | (go_at_call 22; refine (NC.out _).mono ?_; rintro e w3 ⟨rfl, b3⟩; have B3 := Lib.hid (KY.out w3 b3); have kY := XY.out w3 B3.out; clear b3))
      go_wp2_with fail
      go_roundw
      case rel => exact ⟨n + 1, by omega, by omega, by go_num, Lib.hid (fun i hi => by
        by_cases e : i = n
        · subst e; exact NE.out.2 (by simp)
        · exact HS.out i (by omega)), B3⟩
      case measure => simp [intOf]; omega
    · go_upto_region 2 with (fail)
      go_region_held_law (fun y : World => (y.cell? ⟨b, off + n * 4, none⟩ = some (.string s) ∧ y.cell? ⟨b, off + n * 4 + 1, none⟩ = some (.string f) ∧ y.cell? ⟨b, off + n * 4 + 2, none⟩ = some (.slice ua un uc) ∧ y.cell? ⟨b, off + n * 4 + 3, none⟩ = some (.int .i64 l)) ∧ (y.cell? ⟨b, off, none⟩ = some (.string s') ∧ y.cell? ⟨b, off + 1, none⟩ = some (.string f') ∧ y.cell? ⟨b, off + 2, none⟩ = some (.slice ua' un' uc') ∧ y.cell? ⟨b, off + 3, none⟩ = some (.int .i64 l')))
        (first | exact k0 | exact kY)
        (first | (go_at_call 22; refine (NC.out _).mono ?_; rintro e w3 ⟨rfl, b3⟩; have B3 := Lib.hid (KY.out w3 b3); have kY := XY.out w3 B3.out; clear b3))
      go_wp2_with fail
      go_ret
      exact ⟨n, rfl, hn1, by omega, hmc, HS.out, (fun _ h => h9 (NE.out.1 h)), B3.out⟩
end Nl
end Go.Proofs.Ythaadpijfkmdiaa
