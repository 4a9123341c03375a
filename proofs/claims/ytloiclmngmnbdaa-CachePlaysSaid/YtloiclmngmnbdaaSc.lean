/- How two places compare. -/
import Derived.Test.YtloiclmngmnbdaaTb
import Derived.Test.YtloiclmngmnbdaaLi
import Derived.Test.YtloiclmngmnbdaaCq
import Derived.Sort.Grow
namespace Go.Proofs.Ytloiclmngmnbdaa
open Go.RowKit Go.Sort
namespace Sc
open Jb Ca Ck Ct Ce Tb Li Cq

def c3 (a b : ByteArray) : Int := if bl a b = true then -1 else if bl b a = true then 1 else 0
def cf (a b : Ky) : Int := if klt a b = true then -1 else if klt b a = true then 1 else 0
theorem cf_eq (a b : Ky) : cf a b = if c3 a.1 b.1 ≠ 0 then c3 a.1 b.1 else c3 a.2 b.2 := by
  unfold cf c3 klt
  by_cases e : a.1 = b.1
  · rw [← e, bl_irrefl]
    simp
  · rcases bl_total e with h | h
    · simp [h]
    · have h' : bl a.1 b.1 = false := by
        cases k : bl a.1 b.1 with
        | false => rfl
        | true => have := bl_trans k h; rw [bl_irrefl] at this; cases this
      have e' : ¬ (b.1 = a.1) := fun x => e x.symm
      simp [h, h', e]
theorem lt_cf (a b : Ky) : decide (cf a b < 0) = klt a b := by
  unfold cf
  cases h : klt a b with
  | true => simp
  | false =>
    cases k : klt b a <;> simp
set_option maxRecDepth 100000
theorem nan64 (w : World) (a : ByteArray) : Calls Try.prog 64 #[.string a] w fun e w' => e = .returned (.bool false) ∧ w' = w := by
  go_enter Try.func64, Try.ntmps64
  go_wp2_with fail
  go_ret
  simp
theorem compare49 (w : World) (a b : ByteArray) : Calls Try.prog 49 #[.string a, .string b] w fun e w' => e = .returned (.int .i64 (c3 a b)) ∧ w' = w := by
  have HN := Lib.hid (fun w a => nan64 w a)
  unfold c3
  cases h1 : bl a b with
  | true =>
    unfold bl at h1
    go_enter Try.func49, Try.ntmps49
    go_wp2_with (go_at_call 64; refine (HN.out _ _).mono ?_; rintro e w' ⟨rfl, rfl⟩)
    go_ret
    simp
  | false =>
    cases h2 : bl b a with
    | true =>
      have h3 : (a.toList == b.toList) = false := by
        cases k : (a.toList == b.toList) with
        | false => rfl
        | true => rw [toList_inj (eq_of_beq k), bl_irrefl] at h2; cases h2
      unfold bl at h1 h2
      go_enter Try.func49, Try.ntmps49
      go_wp2_with (go_at_call 64; refine (HN.out _ _).mono ?_; rintro e w' ⟨rfl, rfl⟩)
      go_ret
      simp
    | false =>
      have h3 : (a.toList == b.toList) = true := by
        by_cases e : a = b
        · rw [e]; exact beq_self_eq_true _
        · rcases bl_total e with k | k
          · rw [h1] at k; cases k
          · rw [h2] at k; cases k
      unfold bl at h1 h2
      go_enter Try.func49, Try.ntmps49
      go_wp2_with (go_at_call 64; refine (HN.out _ _).mono ?_; rintro e w' ⟨rfl, rfl⟩)
      go_ret
      simp
theorem or48 (w : World) (b : Nat) (x y : Int) (hx : w.cell? ⟨b, 0, none⟩ = some (.int .i64 x)) (hy : w.cell? ⟨b, 1, none⟩ = some (.int .i64 y)) : Calls Try.prog 48 #[.slice (some ⟨b, 0, none⟩) 2 2] w fun e w' => e = .returned (.int .i64 (if x ≠ 0 then x else y)) ∧ w' = w := by
  by_cases h : x = 0
  · subst h
    by_cases h : y = 0
    · subst h
      go_enter Try.func48, Try.ntmps48
      go_wp2_with fail
      refine wp_loop_rounds 3 ?_
      rw [rounds_succ]
      go_wp2_with fail
      rw [rounds_succ]
      go_wp2_with fail
      rw [rounds_succ]
      go_wp2_with fail
      go_ret
      simp
    · have h' : (y == 0) = false := by simpa using h
      go_enter Try.func48, Try.ntmps48
      go_wp2_with fail
      refine wp_loop_rounds 3 ?_
      rw [rounds_succ]
      go_wp2_with fail
      rw [rounds_succ]
      go_wp2_with fail
      go_ret
      simp
  · have h' : (x == 0) = false := by simpa using h
    go_enter Try.func48, Try.ntmps48
    go_wp2_with fail
    refine wp_loop_rounds 3 ?_
    rw [rounds_succ]
    go_wp2_with fail
    go_ret
    simp
set_option maxHeartbeats 2000000 in
theorem compare30 (w : World) (x y : Ky) : Calls Try.prog 30 #[.agg #[.string x.1, .string x.2], .agg #[.string y.1, .string y.2]] w fun e w' => e = .returned (.int .i64 (cf x y)) ∧ ∃ q os, w' = grow (w.drewN q) os := by
  obtain ⟨r, hr⟩ : ∃ r, r = cf x y := ⟨_, rfl⟩
  have HR := Lib.hid (hr.trans (cf_eq x y))
  rw [← hr]
  clear hr
  have H1a := Lib.hid (fun w => compare49 w x.1 y.1)
  have H1b := Lib.hid (fun w => compare49 w x.2 y.2)
  have H2 := Lib.hid (fun w b x y h1 h2 => or48 w b x y h1 h2)
  go_enter Try.func30, Try.ntmps30
  go_wp2_with fail
  have b0 := (Below.refl _ w).alloc (Nat.le_refl _) (.cells #[.string x.1, .string x.2] 65)
  have ha := heap_alloc_new (w.alloc (.cells #[.string x.1, .string x.2] 65)) (.cells #[.string y.1, .string y.2] 65)
  have hb := (Below.heap_alloc (w.alloc (.cells #[.string x.1, .string x.2] 65)) (.cells #[.string y.1, .string y.2] 65) w.heap.size (by simp)).trans (heap_alloc_new w (.cells #[.string x.1, .string x.2] 65))
  simp only [World.size_alloc] at ha
  have kX : ((w.alloc (.cells #[.string x.1, .string x.2] 65)).alloc (.cells #[.string y.1, .string y.2] 65)).cell? ⟨w.heap.size, 0, none⟩ = some (.string x.1) ∧ ((w.alloc (.cells #[.string x.1, .string x.2] 65)).alloc (.cells #[.string y.1, .string y.2] 65)).cell? ⟨w.heap.size, 1, none⟩ = some (.string x.2) ∧ ((w.alloc (.cells #[.string x.1, .string x.2] 65)).alloc (.cells #[.string y.1, .string y.2] 65)).cell? ⟨w.heap.size + 1, 0, none⟩ = some (.string y.1) ∧ ((w.alloc (.cells #[.string x.1, .string x.2] 65)).alloc (.cells #[.string y.1, .string y.2] 65)).cell? ⟨w.heap.size + 1, 1, none⟩ = some (.string y.2) := ⟨cell_at hb 0, cell_at hb 1, cell_at ha 0, cell_at ha 1⟩
  obtain ⟨W, hW⟩ : ∃ W, W = (w.alloc (.cells #[.string x.1, .string x.2] 65)).alloc (.cells #[.string y.1, .string y.2] 65) := ⟨_, rfl⟩
  rw [← hW] at kX ⊢
  have hsz : W.heap.size = w.heap.size + 2 := by rw [hW]; simp
  have HW := Lib.hid hW
  clear ha hb b0 hW
  have kY : (W.alloc (.cells #[.int .i64 (c3 x.1 y.1), .int .i64 (c3 x.2 y.2)] 3)).drew.cell? ⟨w.heap.size, 0, none⟩ = some (.string x.1) ∧ (W.alloc (.cells #[.int .i64 (c3 x.1 y.1), .int .i64 (c3 x.2 y.2)] 3)).drew.cell? ⟨w.heap.size, 1, none⟩ = some (.string x.2) ∧ (W.alloc (.cells #[.int .i64 (c3 x.1 y.1), .int .i64 (c3 x.2 y.2)] 3)).drew.cell? ⟨w.heap.size + 1, 0, none⟩ = some (.string y.1) ∧ (W.alloc (.cells #[.int .i64 (c3 x.1 y.1), .int .i64 (c3 x.2 y.2)] 3)).drew.cell? ⟨w.heap.size + 1, 1, none⟩ = some (.string y.2) := by
    have bl := (Below.refl W.heap.size W).alloc (Nat.le_refl _) (.cells #[.int .i64 (c3 x.1 y.1), .int .i64 (c3 x.2 y.2)] 3)
    exact ⟨(bl.cell (p := ⟨w.heap.size, 0, none⟩) (by simp; omega)).trans kX.1, (bl.cell (p := ⟨w.heap.size, 1, none⟩) (by simp; omega)).trans kX.2.1, (bl.cell (p := ⟨w.heap.size + 1, 0, none⟩) (by simp; omega)).trans kX.2.2.1, (bl.cell (p := ⟨w.heap.size + 1, 1, none⟩) (by simp; omega)).trans kX.2.2.2⟩
  have kN : (W.alloc (.cells #[.int .i64 (c3 x.1 y.1), .int .i64 (c3 x.2 y.2)] 3)).drew.cell? ⟨W.heap.size, 0, none⟩ = some (.int .i64 (c3 x.1 y.1)) ∧ (W.alloc (.cells #[.int .i64 (c3 x.1 y.1), .int .i64 (c3 x.2 y.2)] 3)).drew.cell? ⟨W.heap.size, 1, none⟩ = some (.int .i64 (c3 x.2 y.2)) := ⟨new_cell _ _ _ 0 _ rfl, new_cell _ _ _ 1 _ rfl⟩
  have H3 := Lib.hid (H2.out _ _ _ _ kN.1 kN.2)
  rw [← HR.out, hsz] at H3
  clear kN H2
  go_region_held (fun z => z.cell? ⟨w.heap.size, 0, none⟩ = some (.string x.1) ∧ z.cell? ⟨w.heap.size, 1, none⟩ = some (.string x.2) ∧ z.cell? ⟨w.heap.size + 1, 0, none⟩ = some (.string y.1) ∧ z.cell? ⟨w.heap.size + 1, 1, none⟩ = some (.string y.2))
    (first | exact kX | exact kY)
    (first | (go_at_call 49; refine (H1a.out _).mono ?_; clear H1a; rintro e w' ⟨rfl, rfl⟩) | (go_at_call 49; refine (H1b.out _).mono ?_; clear H1b; rintro e w' ⟨rfl, rfl⟩) | (go_at_call 48; refine H3.out.mono ?_; rintro e w' ⟨rfl, rfl⟩))
  go_wp2_with fail
  go_ret
  exact ⟨rfl, 1, _, by rw [HW.out, alloc_eq_grow, alloc_eq_grow, alloc_eq_grow, grow_grow, grow_grow, drew_grow]; rfl⟩
end Sc
end Go.Proofs.Ytloiclmngmnbdaa
