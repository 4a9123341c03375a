/- The program's Plan. -/
import Derived.Test.YthaadpijfkmdiaaLc
namespace Go.Proofs.Ythaadpijfkmdiaa
open Go.RowKit
namespace Ld
open Jb La Lc

set_option maxRecDepth 100000
set_option maxHeartbeats 4000000
theorem plan9 (w : World) (v : Value) (L : List Inf) (h : Fi w v L) (hn : L.length * 16 ≤ 140737488355328) :
    Calls Try.prog 9 #[v] w fun e w' => ∃ a n l, e = .returned (.tuple #[.int .i64 a, .int .i64 n, .int .i64 l]) ∧ Pl L a n l ∧ (-9223372036854775808 ≤ l ∧ l ≤ 9223372036854775807) ∧ Below w.heap.size w w' := by
  have AL := Lib.hid (alike18 w v L h hn)
  have HL := Lib.hid h.1
  obtain ⟨a, c, rfl, hg⟩ := h.get
  have HG := Lib.hid hg
  obtain ⟨n, hN⟩ : ∃ n, n = L.length := ⟨_, rfl⟩
  rw [← hN] at hn HG AL ⊢
  have HN := Lib.hid hN
  clear h hg hN
  go_enter Try.func9, Try.ntmps9
  go_wp2_with fail
  refine AL.out.mono ?_
  rintro e w1 ⟨j, fd, rfl, h1, h2, b1⟩
  have B1 := Lib.hid b1
  cases fd with
  | true =>
    obtain ⟨q1, q2⟩ := h1 rfl
    have Q1 := Lib.hid q1
    have Q2 := Lib.hid q2
    have hj := q1.1
    have hl4 := q1.2.1
    rw [← HN.out] at hj
    obtain ⟨b, off, rfl, hnc, hb, hT⟩ := HG.out j (by omega)
    obtain ⟨x0, _⟩ := hT w1 b1
    have w9 := getD_wi HL.out j
    unfold Wi at w9
    have EX : (L.getD j n0).1 = lv L j := rfl
    rw [EX] at x0 w9
    obtain ⟨X, hX⟩ : ∃ X, X = lv L j := ⟨_, rfl⟩
    rw [← hX] at x0 w9 hl4
    have hX' := Lib.hid hX
    have eX : IntKind.i64.wrap (X + 1) = X + 1 := by rw [IntKind.wrap_i64]; omega
    clear h1 h2 b1 q1 q2 hX EX AL hT
    go_wp2_with fail
    go_quiet (fail)
    all_goals
      go_wp2_with fail
      refine bodyPost_ret (v := .tuple #[.int .i64 (j : Nat), .int .i64 4, .int .i64 (X + 1)]) (by simp [results, Try.results9, go_sem]) rfl ⟨_, _, _, rfl, .inl ⟨j, Q1.out, Q2.out, rfl, rfl, by rw [hX'.out]⟩, by omega, bdn B1.out _⟩
  | false =>
    have N1 := Lib.hid (h2 rfl)
    clear h1 h2 AL
    by_cases h2 : 2 ≤ n
    · have d1 : decide ((n : Int) > 1) = true := decide_eq_true (by omega)
      clear b1
      go_wp2_with fail
      refine bodyPost_ret (v := .tuple #[.int .i64 0, .int .i64 n, .int .i64 4]) (by simp [results, Try.results9, go_sem]) rfl ⟨_, _, _, rfl, .inr (.inl ⟨N1.out, by rw [← HN.out]; exact h2, rfl, by rw [HN.out], rfl⟩), by decide, B1.out⟩
    by_cases h0 : n = 0
    · subst h0
      clear b1
      go_wp2_with fail
      refine bodyPost_ret (v := .tuple #[.int .i64 0, .int .i64 0, .int .i64 0]) (by simp [results, Try.results9, go_sem]) rfl ⟨_, _, _, rfl, .inr (.inr (.inr ⟨N1.out, .inl HN.out.symm, rfl, rfl, rfl⟩)), by decide, B1.out⟩
    obtain rfl : n = 1 := by omega
    obtain ⟨b, off, rfl, hnc, hb, hT⟩ := HG.out 0 (by omega)
    obtain ⟨x0, x1⟩ := hT w1 b1
    have w9 := getD_wi HL.out 0
    unfold Wi at w9
    have EX : (L.getD 0 n0).1 = lv L 0 := rfl
    have ET : (L.getD 0 n0).2 = tm L 0 := rfl
    rw [EX] at x0 w9
    rw [ET] at x1
    obtain ⟨X, hX⟩ : ∃ X, X = lv L 0 := ⟨_, rfl⟩
    obtain ⟨T, hT9⟩ : ∃ T, T = tm L 0 := ⟨_, rfl⟩
    rw [← hX] at x0 w9
    rw [← hT9] at x1
    have hX' := Lib.hid hX
    have hT' := Lib.hid hT9
    simp only [Nat.zero_mul, Nat.add_zero] at x0 x1
    clear b1 hX EX ET hT hT9
    cases T with
    | true =>
      go_wp2_with fail
      go_quiet (fail)
      all_goals
        go_wp2_with fail
        refine bodyPost_ret (v := .tuple #[.int .i64 0, .int .i64 1, .int .i64 X]) (by simp [results, Try.results9, go_sem]) rfl ⟨_, _, _, rfl, .inr (.inr (.inl ⟨N1.out, HN.out.symm, hT'.out.symm, rfl, rfl, hX'.out⟩)), w9, bdn B1.out _⟩
    | false =>
      go_wp2_with fail
      refine bodyPost_ret (v := .tuple #[.int .i64 0, .int .i64 0, .int .i64 0]) (by simp [results, Try.results9, go_sem]) rfl ⟨_, _, _, rfl, .inr (.inr (.inr ⟨N1.out, .inr ⟨HN.out.symm, hT'.out.symm⟩, rfl, rfl, rfl⟩)), by decide, B1.out⟩
end Ld
end Go.Proofs.Ythaadpijfkmdiaa
