/- The program's side: Pack. -/
import Derived.Test.YtidbpoigbfpocaaDoorPp
namespace Go.Proofs.YtidbpoigbfpocaaDoor
open Go.RowKit
namespace Pk
open Mt Wr Bm

theorem small_of {l : List Nat} {n : Nat} (hn : n = l.length) (h : ∀ j, j < n → l.getD j 0 < 2 ^ 60) : Small l := by
  intro v hv
  obtain ⟨i, hi, rfl⟩ := List.getElem_of_mem hv
  have := h i (by omega)
  rwa [List.getD_eq_getElem?_getD, List.getElem?_eq_getElem hi] at this

/-- What Pack answers. -/
def Packed (w : World) (l : List Nat) (e : Ending) (w' : World) : Prop :=
  (Small l ∧ ∃ r, e = .returned (.tuple #[r, .int .i64 0]) ∧ w'.ownsRow w.heap.size 5 1 r (packs l).length (u8s (packs l)) ∧ Below w.heap.size w w') ∨
  (¬ Small l ∧ e = .returned (.tuple #[.slice none 0 0, .int .i64 3]) ∧ Below w.heap.size w w')

set_option maxRecDepth 100000 in
theorem pack9 (w : World) (v : Value) (l : List Nat) (hI : Iu w v l) (hT : Tab w) (hl : l.length ≤ 17592186044159) : Calls Tryd.prog 24 #[v] w fun e w' => Packed w l e w' := by
  have F16 : Small l → Hid (Calls Tryd.prog 34 #[v] w fun e w' => ∃ r, e = .returned r ∧ w'.ownsRow w.heap.size 5 1 r (packs l).length (u8s (packs l)) ∧ Below w.heap.size w w') :=
    fun hS => Lib.hid (packed16 w v l hI hS hT hl)
  have H16 := Lib.hid F16
  clear F16
  rcases hI.cases with ⟨a, c, rfl, hl0⟩ | ⟨hL0, b, off, c, rfl, hc1, hc2, hc3⟩
  · have hS : Small l := by rw [hl0]; exact small_nil
    have HS := Lib.hid hS
    clear hI hT hl hl0 hS
    go_enter Tryd.func24, Tryd.ntmps24
    go_wp2_with fail
    refine wp_loop_rounds 1 ?_
    rw [rounds_succ]
    go_wp2_with (go_at_call 34; refine (H16.out HS.out).out.mono ?_; rintro e w2 ⟨r, rfl, ho, bl⟩)
    go_ret2
    exact .inl ⟨HS.out, r, rfl, ho, bl⟩
  · obtain ⟨n, hn⟩ : ∃ n, n = l.length := ⟨_, rfl⟩
    rw [← hn] at hc1 hc3 hl H16 ⊢
    have HC := Lib.hid hc3
    have HN := Lib.hid hn
    clear hI hT hc3 hn hL0
    go_enter Tryd.func24, Tryd.ntmps24
    go_wp2_with fail
    go_loop [8] (fun i => ∃ k, k ≤ n ∧ i = .int .i64 (k : Nat) ∧ ∀ j, j < k → l.getD j 0 < 2 ^ 60) (fun i => n - (intOf i).toNat)
    case atStart => exact ⟨0, Nat.zero_le _, rfl, fun j hj => by omega⟩
    case round =>
      obtain ⟨k, hk, rfl, hall⟩ := hrel
      have HA := Lib.hid hall
      clear hall
      by_cases hkn : k < n
      · have e := HC.out k hkn
        by_cases hf : l.getD k 0 < 2 ^ 60
        · have HF := Lib.hid hf
          clear hf
          go_wp2_with (go_at_call 33; refine (fits_yes _ 60 (by decide) HF.out _).mono ?_; rintro e w2 ⟨rfl, rfl⟩)
          go_round
          case rel =>
            refine ⟨k + 1, by omega, by go_num, fun j hj => ?_⟩
            by_cases e : j = k
            · subst e; exact HF.out
            · exact HA.out j (by omega)
          case measure => simp [intOf]; omega
        · have HF := Lib.hid hf
          clear hf
          go_wp2_with (go_at_call 33; refine (fits_no _ 60 (by decide) HF.out _).mono ?_; rintro e w2 ⟨rfl, rfl⟩)
          go_ret2
          exact .inr ⟨fun h => HF.out (h.get k), rfl, Below.refl _ _⟩
      · obtain rfl : k = n := by omega
        have HS := Lib.hid (small_of HN.out HA.out)
        go_wp2_with (go_at_call 34; refine (H16.out HS.out).out.mono ?_; rintro e w2 ⟨r, rfl, ho, bl⟩)
        go_ret2
        exact .inl ⟨HS.out, r, rfl, ho, bl⟩
end Pk
end Go.Proofs.YtidbpoigbfpocaaDoor
