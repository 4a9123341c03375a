/- alike, Plan. -/
import Derived.Test.YthaadpijfkmdiaaLa
import Derived.Deep.DeepCutAuto
namespace Go.Proofs.Ythaadpijfkmdiaa
open Go.RowKit
namespace Lc
open Jb La

set_option maxRecDepth 100000
set_option maxHeartbeats 4000000
theorem alike18 (w : World) (v : Value) (L : List Inf) (h : Fi w v L) (hn : L.length * 16 ≤ 140737488355328) :
    Calls Try.prog 18 #[v] w fun e w' => ∃ (at' : Nat) (fd : Bool), e = .returned (.tuple #[.int .i64 (at' : Nat), .bool fd]) ∧ (fd = true → Q L at' ∧ ∀ k, k < at' → ¬ Q L k) ∧ (fd = false → ∀ k, ¬ Q L k) ∧ Below w.heap.size w w' := by
  obtain ⟨a, c, rfl, hg⟩ := h.get
  have HG := Lib.hid hg
  have HW := Lib.hid h.1
  obtain ⟨n, hN⟩ : ∃ n, n = L.length := ⟨_, rfl⟩
  rw [← hN] at hn HG ⊢
  have HN := Lib.hid hN
  clear h hg hN
  go_enter Try.func18, Try.ntmps18
  go_wp2_with fail
  go_loopw [4, 9, 5, 6] (fun p i u z wr => ∃ k b, k ≤ n ∧ i = .int .i64 (k : Nat) ∧ p = .int .i64 (b : Nat) ∧ b ≤ k ∧ Hid (Seen L k b) ∧ Hid (Below w.heap.size w wr)) (fun _ i _ _ _ => n - (intOf i).toNat)
  case atStart => exact ⟨0, 0, Nat.zero_le _, rfl, rfl, Nat.le_refl _, Lib.hid (Seen.zero L), Lib.hid (Below.refl _ _)⟩
  case round =>
    obtain ⟨k, b, hk, rfl, rfl, hbk, HS, HB⟩ := hrel
    by_cases hkn : k < n
    case neg =>
      obtain rfl : k = n := by omega
      go_wp2_with fail
      go_ret2
      exact ⟨0, false, rfl, (fun e => by cases e), (fun _ => by have := HS.out; rw [HN.out] at this; exact this.none), HB.out⟩
    obtain ⟨q, off, rfl, hnc, hq, hT⟩ := HG.out k hkn
    obtain ⟨q', off', e, _, _, hT'⟩ := HG.out b (by omega)
    cases e
    obtain ⟨wa, rfl⟩ : ∃ wa, wa = wr := ⟨_, rfl⟩
    obtain ⟨x0, x1⟩ := hT wa HB.out
    obtain ⟨y0, y1⟩ := hT' wa HB.out
    have w1 := getD_wi HW.out k
    have w2 := getD_wi HW.out b
    unfold Wi at w1 w2
    have EX : (L.getD k n0).1 = lv L k := rfl
    have EY : (L.getD b n0).1 = lv L b := rfl
    have hnb : nb L k b = if lv L k ≠ lv L b then k else b := rfl
    have hle := nb_le HS.out
    have FD := Lib.hid (fun h4 hl => HS.out.found (i := k) (by rw [HN.out] at hkn; exact hkn) h4 hl)
    have NX := Lib.hid (HS.out.next)
    generalize nb L k b = c0 at *
    rw [EX] at x0 w1
    rw [EY] at y0 w2
    obtain ⟨X, hX⟩ : ∃ X, X = lv L k := ⟨_, rfl⟩
    obtain ⟨Y, hY⟩ : ∃ Y, Y = lv L b := ⟨_, rfl⟩
    rw [← hX] at x0 w1 hnb NX FD
    rw [← hY] at y0 w2 hnb
    generalize (L.getD k n0).2 = xb at *
    have zb := HB.out.size
    have hbz : q < wa.heap.size := by omega
    have B1 := Lib.hid (HB.out.alloc zb (.cells #[.int .i64 X, .bool xb] 37))
    have ha := heap_alloc_new wa (.cells #[.int .i64 X, .bool xb] 37)
    clear hT hT' y1 EX EY
    have hX' := Lib.hid hX
    have hY' := Lib.hid hY
    clear hX hY
    by_cases hxy : X = Y
    · rw [if_neg (by simp [hxy])] at hnb
      subst hxy
      subst hnb
      by_cases h4 : k - c0 + 1 = 4 ∧ X < 4
      · have h4' : k - c0 = 3 := by omega
        obtain rfl : k = c0 + 3 := by omega
        have fd := Lib.hid (FD.out (by omega) h4.2)
        have d4 : decide (X < 4) = true := decide_eq_true h4.2
        clear NX FD
        go_wp2_with fail
        go_quiet (fail)
        all_goals
          go_wp2_with fail
          go_ret2
          exact ⟨c0, true, rfl, (fun _ => ⟨fd.out.1, fd.out.2.1⟩), (fun e => by cases e), bdn B1.out _⟩
      · have nx := Lib.hid (NX.out h4)
        clear FD NX
        by_cases h5 : k - c0 + 1 = 4
        · have d4 : decide (X < 4) = false := decide_eq_false (fun h => h4 ⟨h5, h⟩)
          obtain rfl : k = c0 + 3 := by omega
          go_wp2_with fail
          go_quiet (fail)
          all_goals
            go_wp2_with fail
            go_roundw
          case rel => exact ⟨c0 + 3 + 1, c0, by omega, by go_num, rfl, by omega, nx, Lib.hid (bdn B1.out _)⟩
          case measure => simp [intOf]; omega
        · have d4 : ¬ ((k : Int) - (c0 : Int) + 1 = 4) := by omega
          go_wp2_with fail
          go_quiet (fail)
          all_goals
            go_wp2_with fail
            go_roundw
          case rel => exact ⟨k + 1, c0, by omega, by go_num, rfl, by omega, nx, Lib.hid (bdn B1.out _)⟩
          case measure => simp [intOf]; omega
    · rw [if_pos (by simp [hxy])] at hnb
      subst hnb
      have nx := Lib.hid (NX.out (fun h => by have := h.1; omega))
      have d4 : decide ((c0 : Int) - (c0 : Int) + 1 = 4) = false := decide_eq_false (by omega)
      clear FD NX
      go_wp2_with fail
      go_quiet (fail)
      all_goals
        go_wp2_with fail
        go_roundw
      case rel => exact ⟨c0 + 1, c0, by omega, by go_num, rfl, by omega, nx, Lib.hid (bdn B1.out _)⟩
      case measure => simp [intOf]; omega
end Lc
end Go.Proofs.Ythaadpijfkmdiaa
