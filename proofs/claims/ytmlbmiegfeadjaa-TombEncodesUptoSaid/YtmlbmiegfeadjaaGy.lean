/- How two tombs, two graves compare. -/
import Derived.Test.YtmlbmiegfeadjaaGx
import Derived.Test.YtmlbmiegfeadjaaShelf2
import Derived.Sort.Grow
namespace Go.Proofs.Ytmlbmiegfeadjaa
open Go.RowKit Go.Sort
namespace Gy
open Jb Ca Cz Ga Gm Gn Gt Gw

set_option maxRecDepth 100000
theorem nan54 (w : World) (a : ByteArray) : Calls Try.prog 54 #[.string a] w fun e w' => e = .returned (.bool false) ∧ w' = w := by
  go_enter Try.func54, Try.ntmps54
  go_wp2_with fail
  go_ret
  simp
theorem compare46 (w : World) (a b : ByteArray) : Calls Try.prog 46 #[.string a, .string b] w fun e w' => e = .returned (.int .i64 (c3 a b)) ∧ w' = w := by
  have HN := Lib.hid (fun w a => nan54 w a)
  unfold c3
  cases h1 : bl a b with
  | true =>
    unfold bl at h1
    go_enter Try.func46, Try.ntmps46
    go_wp2_with (go_at_call 54; refine (HN.out _ _).mono ?_; rintro e w' ⟨rfl, rfl⟩)
    go_ret
    simp
  | false =>
    cases h2 : bl b a with
    | true =>
      have h3 : (a.toList == b.toList) = false := by
        cases k : (a.toList == b.toList) with
        | false => rfl
        | true => rw [toList_inj (eq_of_beq k), bl_irrefl] at h2; cases h2
      unfold bl at h1 h2
      go_enter Try.func46, Try.ntmps46
      go_wp2_with (go_at_call 54; refine (HN.out _ _).mono ?_; rintro e w' ⟨rfl, rfl⟩)
      go_ret
      simp
    | false =>
      have h3 : (a.toList == b.toList) = true := by
        by_cases e : a = b
        · rw [e]; exact beq_self_eq_true _
        · rcases bl_total e with k | k
          · rw [h1] at k; cases k
          · rw [h2] at k; cases k
      unfold bl at h1 h2
      go_enter Try.func46, Try.ntmps46
      go_wp2_with (go_at_call 54; refine (HN.out _ _).mono ?_; rintro e w' ⟨rfl, rfl⟩)
      go_ret
      simp
theorem or45 (w : World) (b : Nat) (x y : Int) (hx : w.cell? ⟨b, 0, none⟩ = some (.int .i64 x)) (hy : w.cell? ⟨b, 1, none⟩ = some (.int .i64 y)) : Calls Try.prog 45 #[.slice (some ⟨b, 0, none⟩) 2 2] w fun e w' => e = .returned (.int .i64 (if x ≠ 0 then x else y)) ∧ w' = w := by
  by_cases h : x = 0
  · subst h
    by_cases h : y = 0
    · subst h
      go_enter Try.func45, Try.ntmps45
      go_wp2_with fail
      refine wp_loop_rounds 3 ?_
      rw [rounds_succ]
      go_wp2_with fail
      rw [rounds_succ]
      go_wp2_with fail
      rw [rounds_succ]
      go_wp2_with fail
      go_ret
      simp
    · have h' : (y == 0) = false := by simpa using h
      go_enter Try.func45, Try.ntmps45
      go_wp2_with fail
      refine wp_loop_rounds 3 ?_
      rw [rounds_succ]
      go_wp2_with fail
      rw [rounds_succ]
      go_wp2_with fail
      go_ret
      simp
  · have h' : (x == 0) = false := by simpa using h
    go_enter Try.func45, Try.ntmps45
    go_wp2_with fail
    refine wp_loop_rounds 3 ?_
    rw [rounds_succ]
    go_wp2_with fail
    go_ret
    simp

theorem or45t (w : World) (b : Nat) (x y z : Int) (hx : w.cell? ⟨b, 0, none⟩ = some (.int .i64 x)) (hy : w.cell? ⟨b, 1, none⟩ = some (.int .i64 y)) (hz : w.cell? ⟨b, 2, none⟩ = some (.int .i64 z)) : Calls Try.prog 45 #[.slice (some ⟨b, 0, none⟩) 3 3] w fun e w' => e = .returned (.int .i64 (or3 x y z)) ∧ w' = w := by
  unfold or3
  by_cases h : x = 0
  · subst h
    by_cases h : y = 0
    · subst h
      by_cases h : z = 0
      · subst h
        go_enter Try.func45, Try.ntmps45
        go_wp2_with fail
        refine wp_loop_rounds 4 ?_
        rw [rounds_succ]
        go_wp2_with fail
        rw [rounds_succ]
        go_wp2_with fail
        rw [rounds_succ]
        go_wp2_with fail
        rw [rounds_succ]
        go_wp2_with fail
        go_ret
        simp
      · go_enter Try.func45, Try.ntmps45
        go_wp2_with fail
        refine wp_loop_rounds 4 ?_
        rw [rounds_succ]
        go_wp2_with fail
        rw [rounds_succ]
        go_wp2_with fail
        rw [rounds_succ]
        go_wp2_with fail
        go_ret
        simp
    · go_enter Try.func45, Try.ntmps45
      go_wp2_with fail
      refine wp_loop_rounds 4 ?_
      rw [rounds_succ]
      go_wp2_with fail
      rw [rounds_succ]
      go_wp2_with fail
      go_ret
      simp
  · go_enter Try.func45, Try.ntmps45
    go_wp2_with fail
    refine wp_loop_rounds 4 ?_
    rw [rounds_succ]
    go_wp2_with fail
    go_ret
    simp
theorem nan55 (w : World) (a : Int) : Calls Try.prog 55 #[.int .i64 a] w fun e w' => e = .returned (.bool false) ∧ w' = w := by
  go_enter Try.func55, Try.ntmps55
  go_wp2_with fail
  go_ret
  simp
theorem compare47 (w : World) (a b : Int) : Calls Try.prog 47 #[.int .i64 a, .int .i64 b] w fun e w' => e = .returned (.int .i64 (ci a b)) ∧ w' = w := by
  have HN := Lib.hid (fun w a => nan55 w a)
  unfold ci
  by_cases h1 : a < b
  · rw [if_pos h1]
    go_enter Try.func47, Try.ntmps47
    go_wp2_with (go_at_call 55; refine (HN.out _ _).mono ?_; rintro e w' ⟨rfl, rfl⟩)
    go_ret
    simp
  · rw [if_neg h1]
    by_cases h2 : b < a
    · rw [if_pos h2]
      have h3 : decide (a > b) = true := decide_eq_true h2
      go_enter Try.func47, Try.ntmps47
      go_wp2_with (go_at_call 55; refine (HN.out _ _).mono ?_; rintro e w' ⟨rfl, rfl⟩)
      go_ret
      simp
    · rw [if_neg h2]
      have h3 : decide (a > b) = false := decide_eq_false h2
      go_enter Try.func47, Try.ntmps47
      go_wp2_with (go_at_call 55; refine (HN.out _ _).mono ?_; rintro e w' ⟨rfl, rfl⟩)
      go_ret
      simp
end Gy
end Go.Proofs.Ytmlbmiegfeadjaa
