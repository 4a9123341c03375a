/- The law's same, and its own small example. -/
import Derived.Test.YtjeimfgapkgmiaaDoorCv
namespace Go.Proofs.YtjeimfgapkgmiaaDoor
open Go.RowKit
namespace Cv
open Mt Wr Bm Pk Rp

set_option maxRecDepth 100000 in
theorem same12 (w : World) (u v : Value) (L : List Nat) (hu : Iu w u L) (hv : Iu w v L) (hl : L.length ≤ 17592186044159) :
    Calls Tryd.prog 12 #[u, v] w fun e w' => e = .returned (.bool true) ∧ ∃ m, w' = w.drewN m := by
  rcases hu.cases with ⟨a, c, rfl, hl0⟩ | ⟨hL0, b, off, c, rfl, hc1, hc2, hc3⟩
  · obtain ⟨a', c', rfl⟩ : ∃ a c, v = .slice a 0 c := by
      rcases hv.cases with ⟨a, c, rfl, _⟩ | ⟨h, _⟩
      · exact ⟨a, c, rfl⟩
      · rw [hl0] at h; simp at h
    clear hu hv
    go_enter Tryd.func12, Tryd.ntmps12
    go_wp2_with fail
    refine wp_loop_rounds 1 ?_
    rw [rounds_succ]
    go_wp2_with fail
    go_ret
    exact ⟨rfl, 0, rfl⟩
  · rcases hv.cases with ⟨a, c, rfl, h⟩ | ⟨_, b', off', c', rfl, hd1, hd2, hd3⟩
    · rw [h] at hL0; simp at hL0
    · obtain ⟨n, hn⟩ : ∃ n, n = L.length := ⟨_, rfl⟩
      rw [← hn] at hc1 hc3 hd1 hd3 hl ⊢
      have HC := Lib.hid hc3
      have HD := Lib.hid hd3
      clear hu hv hc3 hd3 hn hL0
      go_enter Tryd.func12, Tryd.ntmps12
      go_wp2_with fail
      go_loopw [13] (fun i wr => ∃ k, k ≤ n ∧ i = .int .i64 (k : Nat) ∧ ∃ m, wr = w.drewN m) (fun i _ => n - (intOf i).toNat)
      case atStart => exact ⟨0, Nat.zero_le _, rfl, 0, rfl⟩
      case round =>
        obtain ⟨k, hk, rfl, hm⟩ := hrel
        by_cases hkn : k < n
        · have e1 : wr.cell? ⟨b, off + k, none⟩ = some (.int .u64 (L.getD k 0 : Nat)) := by obtain ⟨m, rfl⟩ := hm; exact HC.out k hkn
          have e2 : wr.cell? ⟨b', off' + k, none⟩ = some (.int .u64 (L.getD k 0 : Nat)) := by obtain ⟨m, rfl⟩ := hm; exact HD.out k hkn
          obtain ⟨D, hD⟩ : ∃ D, D = L.getD k 0 := ⟨_, rfl⟩
          rw [← hD] at e1 e2
          have HM := Lib.hid hm
          clear hD hm
          go_upto_region 6 with (fail)
          go_quiet (fail)
          go_wp2_with fail
          go_roundw
          case rel => exact ⟨k + 1, by omega, by go_num, by obtain ⟨m, rfl⟩ := HM.out; exact ⟨m + nq, by rw [World.drewN_drewN]⟩⟩
          case measure => simp [intOf]; omega
        · obtain rfl : k = n := by omega
          go_wp2_with fail
          go_ret
          exact ⟨rfl, hm⟩

theorem packs_awake : packs [1, 1, 0] = [0, 0, 0, 0, 0, 0, 0, 3] := by decide +kernel
theorem small_awake : Small [1, 1, 0] := by intro v hv; simp at hv; rcases hv with rfl | rfl <;> decide

set_option maxRecDepth 100000 in
theorem awake7 (w : World) (hT : Tab w) : Calls Tryd.prog 7 #[] w fun e w' => e = .returned (.bool true) ∧ Below w.heap.size w w' := by
  have F9 : Hid (∀ x v, Iu x v [1, 1, 0] → Tab x → Calls Tryd.prog 9 #[v] x fun e w' => ∃ g c, e = .returned (.tuple #[.slice (some ⟨g, 0, none⟩) 8 c, .int .i64 0]) ∧ w'.cell? ⟨g, 7, none⟩ = some (.int .u8 3) ∧ Below x.heap.size x w') := Lib.hid fun x v hI hTx => by
    refine (pack9 x v _ hI hTx (by decide)).mono ?_
    rintro e w' (⟨-, r, rfl, ho, bl⟩ | ⟨h, -⟩)
    · rw [packs_awake] at ho
      obtain ⟨g, c, rfl⟩ := Go.Joins.ownsRow_form ho (by decide)
      exact ⟨g, c, rfl, (ho.cellAt 7 (by decide)).trans rfl, bl⟩
    · exact absurd small_awake h
  have HT := Lib.hid hT
  have FB : Hid (Below w.heap.size w (w.alloc (.cells #[.int .u64 1, .int .u64 1, .int .u64 0] 34))) := Lib.hid ((Below.refl _ _).alloc (Nat.le_refl _) _)
  have FI : Hid (Iu (w.alloc (.cells #[.int .u64 1, .int .u64 1, .int .u64 0] 34)) (.slice (some ⟨w.heap.size, 0, none⟩) 3 3) [1, 1, 0]) := Lib.hid (by
    refine ⟨by intro v hv; simp at hv; rcases hv with rfl | rfl <;> decide, .inr ⟨w.heap.size, 0, 3, rfl, by decide, by simp, fun i hi => ?_⟩⟩
    rw [Nat.zero_add, cell_of_row _ _ _ _ _ _ (heap_alloc_new _ _)]
    match i, hi with
    | 0, _ => rfl
    | 1, _ => rfl
    | 2, _ => rfl)
  clear hT
  go_enter Tryd.func7, Tryd.ntmps7
  go_wp2_with (go_at_call 9; refine (F9.out _ _ FI.out (HT.out.below FB.out HT.out.1)).mono ?_; rintro e w2 ⟨g, c, rfl, hc, bl⟩)
  go_ret
  exact ⟨rfl, FB.out.trans (bl.mono FB.out.size)⟩
end Cv
end Go.Proofs.YtjeimfgapkgmiaaDoor
