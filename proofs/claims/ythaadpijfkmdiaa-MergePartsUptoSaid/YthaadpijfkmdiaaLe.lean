/- The document's Plan. -/
import Derived.Test.YthaadpijfkmdiaaLa
import Derived.Deep.DeepCutAuto
namespace Go.Proofs.Ythaadpijfkmdiaa
open Go.RowKit
namespace Le
open Jb La

set_option maxRecDepth 100000
set_option maxHeartbeats 4000000
theorem plan11 (w : World) (v : Value) (L : List Inf) (h : Fi w v L) (hn : L.length * 16 ≤ 140737488355328) :
    Calls Try.prog 11 #[v] w fun e w' => ∃ a n l, e = .returned (.tuple #[.int .i64 a, .int .i64 n, .int .i64 l]) ∧ Pl L a n l ∧ Below w.heap.size w w' := by
  have HL := Lib.hid h.1
  obtain ⟨a, c, rfl, hg⟩ := h.get
  have HG := Lib.hid hg
  obtain ⟨n, hN⟩ : ∃ n, n = L.length := ⟨_, rfl⟩
  rw [← hN] at hn HG ⊢
  have HN := Lib.hid hN
  clear h hg hN
  go_enter Try.func11, Try.ntmps11
  go_wp2_with fail
  go_loopw [5, 6] (fun i u wr => ∃ k : Nat, (k = 0 ∨ k + 3 ≤ n) ∧ i = .int .i64 (k : Nat) ∧ Hid (∀ m, m < k → ¬ Q L m) ∧ Hid (Below w.heap.size w wr)) (fun i _ _ => n - (intOf i).toNat)
  case atStart => exact ⟨0, .inl rfl, rfl, Lib.hid (fun m h => by omega), Lib.hid (Below.refl _ _)⟩
  case round =>
    obtain ⟨k, hk, rfl, HS, HB⟩ := hrel
    have hkb : k ≤ 140737488355328 := by omega
    by_cases hkn : k + 4 ≤ n
    case neg =>
      have NQ := Lib.hid (show ∀ m, ¬ Q L m from fun m hm => by
        have h1 := hm.1
        have h2 := HS.out m
        have := HN.out
        exact h2 (by omega) hm)
      have d0 : decide ((k : Int) + 4 ≤ (n : Int)) = false := decide_eq_false (by omega)
      by_cases h2 : 2 ≤ n
      · have d1 : decide ((n : Int) ≥ 2) = true := decide_eq_true (by omega)
        go_wp2_with fail
        refine bodyPost_ret (v := .tuple #[.int .i64 0, .int .i64 n, .int .i64 4]) (by simp [results, Try.results11, go_sem]) rfl ⟨_, _, _, rfl, .inr (.inl ⟨NQ.out, by rw [← HN.out]; exact h2, rfl, by rw [HN.out], rfl⟩), HB.out⟩
      by_cases h0 : n = 0
      · subst h0
        go_wp2_with fail
        refine bodyPost_ret (v := .tuple #[.int .i64 0, .int .i64 0, .int .i64 0]) (by simp [results, Try.results11, go_sem]) rfl ⟨_, _, _, rfl, .inr (.inr (.inr ⟨NQ.out, .inl HN.out.symm, rfl, rfl, rfl⟩)), HB.out⟩
      obtain rfl : n = 1 := by omega
      obtain ⟨b, off, rfl, hnc, hb, hT⟩ := HG.out 0 (by omega)
      obtain ⟨wa, rfl⟩ : ∃ wa, wa = wr := ⟨_, rfl⟩
      obtain ⟨x0, x1⟩ := hT wa HB.out
      have EX : (L.getD 0 n0).1 = lv L 0 := rfl
      have ET : (L.getD 0 n0).2 = tm L 0 := rfl
      rw [EX] at x0
      rw [ET] at x1
      obtain ⟨X, hX⟩ : ∃ X, X = lv L 0 := ⟨_, rfl⟩
      obtain ⟨T, hT9⟩ : ∃ T, T = tm L 0 := ⟨_, rfl⟩
      rw [← hX] at x0
      rw [← hT9] at x1
      have hX' := Lib.hid hX
      have hT' := Lib.hid hT9
      simp only [Nat.zero_mul, Nat.add_zero] at x0 x1
      clear hX EX ET hT hT9
      cases T with
      | true =>
        go_wp2_with fail
        go_quiet (fail)
        all_goals
          go_wp2_with fail
          refine bodyPost_ret (v := .tuple #[.int .i64 0, .int .i64 1, .int .i64 X]) (by simp [results, Try.results11, go_sem]) rfl ⟨_, _, _, rfl, .inr (.inr (.inl ⟨NQ.out, HN.out.symm, hT'.out.symm, rfl, rfl, hX'.out⟩)), bdn HB.out _⟩
      | false =>
        go_wp2_with fail
        refine bodyPost_ret (v := .tuple #[.int .i64 0, .int .i64 0, .int .i64 0]) (by simp [results, Try.results11, go_sem]) rfl ⟨_, _, _, rfl, .inr (.inr (.inr ⟨NQ.out, .inr ⟨HN.out.symm, hT'.out.symm⟩, rfl, rfl, rfl⟩)), HB.out⟩
    obtain ⟨b, off, rfl, hnc, hb, hT⟩ := HG.out k (by omega)
    have hG := fun i (hi : i < n) => HG.out i hi
    obtain ⟨_, _, e1, _, _, hT1⟩ := hG (k + 1) (by omega)
    cases e1
    obtain ⟨_, _, e1, _, _, hT2⟩ := hG (k + 2) (by omega)
    cases e1
    obtain ⟨_, _, e1, _, _, hT3⟩ := hG (k + 3) (by omega)
    cases e1
    obtain ⟨wa, rfl⟩ : ∃ wa, wa = wr := ⟨_, rfl⟩
    have x0 : wa.cell? ⟨b, off + k * 2, none⟩ = some (.int .i64 (lv L k)) := (hT wa HB.out).1
    have x1 : wa.cell? ⟨b, off + (k + 1) * 2, none⟩ = some (.int .i64 (lv L (k + 1))) := (hT1 wa HB.out).1
    have x2 : wa.cell? ⟨b, off + (k + 2) * 2, none⟩ = some (.int .i64 (lv L (k + 2))) := (hT2 wa HB.out).1
    have x3 : wa.cell? ⟨b, off + (k + 3) * 2, none⟩ = some (.int .i64 (lv L (k + 3))) := (hT3 wa HB.out).1
    have w9 := getD_wi HL.out k
    unfold Wi at w9
    have QI := Lib.hid (show Q L k ↔ lv L k < 4 ∧ lv L (k + 1) = lv L k ∧ lv L (k + 2) = lv L k ∧ lv L (k + 3) = lv L k from ⟨fun h => h.2, fun h => ⟨by rw [← HN.out]; exact hkn, h⟩⟩)
    have EX : (L.getD k n0).1 = lv L k := rfl
    rw [EX] at w9
    obtain ⟨X, hX⟩ : ∃ X, X = lv L k := ⟨_, rfl⟩
    have hX' := Lib.hid hX
    rw [← hX] at x0 w9 QI
    generalize lv L (k + 1) = X1 at x1 QI
    generalize lv L (k + 2) = X2 at x2 QI
    generalize lv L (k + 3) = X3 at x3 QI
    clear hX EX hG hT hT1 hT2 hT3 HG
    have d0 : decide ((k : Int) + 4 ≤ (n : Int)) = true := decide_eq_true (by omega)
    by_cases hq : X < 4 ∧ X1 = X ∧ X2 = X ∧ X3 = X
    · have QQ := Lib.hid (QI.out.2 hq)
      obtain ⟨q0, rfl, rfl, rfl⟩ := hq
      have d4 : decide (X3 < 4) = true := decide_eq_true q0
      go_wp2_with fail
      refine bodyPost_ret (v := .tuple #[.int .i64 (k : Nat), .int .i64 4, .int .i64 (X3 + 1)]) (by simp [results, Try.results11, go_sem]; try omega) rfl ⟨_, _, _, rfl, .inl ⟨k, QQ.out, HS.out, rfl, rfl, by rw [hX'.out]⟩, HB.out⟩
    · have QQ := Lib.hid (show ∀ m, m < k + 1 → ¬ Q L m from fun m hm hQ => by
        by_cases e : m = k
        · subst e; exact hq (QI.out.1 hQ)
        · exact HS.out m (by omega) hQ)
      clear QI
      by_cases q0 : X < 4
      case neg =>
        have d4 : decide (X < 4) = false := decide_eq_false q0
        go_wp2_with fail
        go_roundw
        case rel => exact ⟨k + 1, .inr (by omega), by go_num, QQ, HB⟩
        case measure => simp [intOf]; omega
      have d4 : decide (X < 4) = true := decide_eq_true q0
      by_cases q1 : X1 = X
      case neg =>
        go_wp2_with fail
        go_roundw
        case rel => exact ⟨k + 1, .inr (by omega), by go_num, QQ, HB⟩
        case measure => simp [intOf]; omega
      subst q1
      by_cases q2 : X2 = X1
      case neg =>
        go_wp2_with fail
        go_roundw
        case rel => exact ⟨k + 1, .inr (by omega), by go_num, QQ, HB⟩
        case measure => simp [intOf]; omega
      subst q2
      by_cases q3 : X3 = X2
      case neg =>
        go_wp2_with fail
        go_roundw
        case rel => exact ⟨k + 1, .inr (by omega), by go_num, QQ, HB⟩
        case measure => simp [intOf]; omega
      exact absurd ⟨q0, rfl, rfl, q3⟩ hq
end Le
end Go.Proofs.Ythaadpijfkmdiaa
