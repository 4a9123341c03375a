/- The laws' own small example, and same. -/
import Derived.Test.YtidbpoigbfpocaaDoorTp
namespace Go.Proofs.YtidbpoigbfpocaaDoor
open Go.RowKit
namespace Lw
open Bm Mt Wr Pk Rp Cv Rd Rx Sz Tm Ti En

theorem bytes_awake : bytesOf [0, 10, 20] = [1, 0, 3, 0, 0, 0, 0, 0, 0, 0, 0, 0, 0, 0, 0, 0, 0, 0, 10] := by decide +kernel
theorem ok_awake : Ok [0, 10, 20] := by decide +kernel
theorem in_awake : In [0, 10, 20] := by intro t ht; simp at ht; rcases ht with rfl | rfl | rfl <;> decide

set_option maxRecDepth 100000 in
theorem awake8 (w : World) (hT : Tab w) : Calls Tryd.prog 8 #[] w fun e w' => e = .returned (.bool true) ∧ Below w.heap.size w w' := by
  have F10 : Hid (∀ x v, Ii x v [0, 10, 20] → Tab x → Calls Tryd.prog 10 #[v] x fun e w' => ∃ g c, e = .returned (.tuple #[.slice (some ⟨g, 0, none⟩) 19 c, .int .i64 0]) ∧ w'.cell? ⟨g, 0, none⟩ = some (.int .u8 1) ∧ Below x.heap.size x w') := Lib.hid fun x v hI hTx => by
    refine (encode10 x v _ hI hTx).mono ?_
    intro e w' h
    obtain ⟨r, rfl, ho, bl⟩ := Encoded.ok h ok_awake
    rw [bytes_awake] at ho
    obtain ⟨g, c, rfl⟩ := Go.Joins.ownsRow_form ho (by decide)
    exact ⟨g, c, rfl, (ho.cellAt 0 (by decide)).trans rfl, bl⟩
  have HT := Lib.hid hT
  have FB : Hid (Below w.heap.size w (w.alloc (.cells #[.int .i64 0, .int .i64 10, .int .i64 20] 2))) := Lib.hid ((Below.refl _ _).alloc (Nat.le_refl _) _)
  have FI : Hid (Ii (w.alloc (.cells #[.int .i64 0, .int .i64 10, .int .i64 20] 2)) (.slice (some ⟨w.heap.size, 0, none⟩) 3 3) [0, 10, 20]) := Lib.hid (by
    refine ⟨in_awake, .inr ⟨w.heap.size, 0, 3, rfl, by decide, by simp, fun i hi => ?_⟩⟩
    rw [Nat.zero_add, cell_of_row _ _ _ _ _ _ (heap_alloc_new _ _)]
    match i, hi with
    | 0, _ => rfl
    | 1, _ => rfl
    | 2, _ => rfl)
  clear hT
  go_enter Tryd.func8, Tryd.ntmps8
  go_wp2_with (go_at_call 10; refine (F10.out _ _ FI.out (HT.out.below FB.out HT.out.1)).mono ?_; rintro e w2 ⟨g, c, rfl, hc, bl⟩)
  go_ret
  exact ⟨rfl, FB.out.trans (bl.mono FB.out.size)⟩

set_option maxRecDepth 100000 in
theorem same13 (w : World) (u v : Value) (T : List Int) (hu : Ii w u T) (hv : Ii w v T) (hl : T.length ≤ 1000) :
    Calls Tryd.prog 13 #[u, v] w fun e w' => e = .returned (.bool true) ∧ ∃ m, w' = w.drewN m := by
  obtain ⟨_, ⟨a, c, rfl, hl0⟩ | ⟨b, off, c, rfl, hc1, hc2, hc3⟩⟩ := hu
  · obtain ⟨a', c', rfl⟩ : ∃ a c, v = .slice a 0 c := by
      obtain ⟨_, ⟨a, c, h, _⟩ | ⟨b, off, c, h, _⟩⟩ := hv
      · exact ⟨a, c, h⟩
      · rw [hl0] at h; exact ⟨_, _, h⟩
    clear hv
    go_enter Tryd.func13, Tryd.ntmps13
    go_wp2_with fail
    refine wp_loop_rounds 1 ?_
    rw [rounds_succ]
    go_wp2_with fail
    go_ret
    exact ⟨rfl, 0, rfl⟩
  · by_cases hL0 : T.length = 0
    · obtain ⟨a', c', rfl⟩ : ∃ a c, v = .slice a 0 c := by
        obtain ⟨_, ⟨a, c, h, _⟩ | ⟨b, off, c, h, _⟩⟩ := hv
        · exact ⟨a, c, h⟩
        · rw [hL0] at h; exact ⟨_, _, h⟩
      rw [hL0]
      clear hv hc1 hc3 hL0
      go_enter Tryd.func13, Tryd.ntmps13
      go_wp2_with fail
      refine wp_loop_rounds 1 ?_
      rw [rounds_succ]
      go_wp2_with fail
      go_ret
      exact ⟨rfl, 0, rfl⟩
    · obtain ⟨_, ⟨a, c, rfl, h⟩ | ⟨b', off', c', rfl, hd1, hd2, hd3⟩⟩ := hv
      · rw [h] at hL0; simp at hL0
      · obtain ⟨n, hn⟩ : ∃ n, n = T.length := ⟨_, rfl⟩
        rw [← hn] at hc1 hc3 hd1 hd3 hl ⊢
        have HC := Lib.hid hc3
        have HD := Lib.hid hd3
        clear hc3 hd3 hn hL0
        go_enter Tryd.func13, Tryd.ntmps13
        go_wp2_with fail
        go_loopw [5, 13] (fun _ i wr => ∃ k, k ≤ n ∧ i = .int .i64 (k : Nat) ∧ ∃ m, wr = w.drewN m) (fun _ i _ => n - (intOf i).toNat)
        case atStart => exact ⟨0, Nat.zero_le _, rfl, 0, rfl⟩
        case round =>
          obtain ⟨k, hk, rfl, hm⟩ := hrel
          by_cases hkn : k < n
          · have e1 : wr.cell? ⟨b, off + k, none⟩ = some (.int .i64 (T.getD k 0)) := by obtain ⟨m, rfl⟩ := hm; exact HC.out k hkn
            have e2 : wr.cell? ⟨b', off' + k, none⟩ = some (.int .i64 (T.getD k 0)) := by obtain ⟨m, rfl⟩ := hm; exact HD.out k hkn
            obtain ⟨D, hD⟩ : ∃ D, D = T.getD k 0 := ⟨_, rfl⟩
            rw [← hD] at e1 e2
            have HM := Lib.hid hm
            clear hD hm
            go_upto_region 6 with (fail)
            go_quiet (fail)
            go_wp2_with fail
            go_roundw
            case rel => exact ⟨k + 1, by omega, by go_num, by obtain ⟨m, rfl⟩ := HM.out; exact ⟨m + nq, by rw [World.drewN_drewN]⟩⟩
            case measure => simp [intOf]; omega
          · obtain rfl : k = n := by omega
            go_wp2_with fail
            go_ret
            exact ⟨rfl, hm⟩
end Lw
end Go.Proofs.YtidbpoigbfpocaaDoor
