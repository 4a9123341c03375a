/- How parts and points compare. -/
import Derived.Test.YthaadpijfkmdiaaGa
import Derived.Test.YthaadpijfkmdiaaNcp
import Derived.Test.YthaadpijfkmdiaaNct
namespace Go.Proofs.Ythaadpijfkmdiaa
open Go.RowKit
namespace Nj
open Jb Ca Ga Nm Na

def ci (a b : Int) : Int := if a < b then -1 else if b < a then 1 else 0
set_option maxRecDepth 100000
theorem nan30 (w : World) (a : Int) : Calls Try.prog 30 #[.int .i64 a] w fun e w' => e = .returned (.bool false) ∧ w' = w := by
  go_enter Try.func30, Try.ntmps30
  go_wp2_with fail
  go_ret
  simp
theorem nan40 (w : World) (a : Int) : Calls Try.prog 40 #[.int .i64 a] w fun e w' => e = .returned (.bool false) ∧ w' = w := by
  go_enter Try.func40, Try.ntmps40
  go_wp2_with fail
  go_ret
  simp
theorem nan36 (w : World) (a : ByteArray) : Calls Try.prog 36 #[.string a] w fun e w' => e = .returned (.bool false) ∧ w' = w := by
  go_enter Try.func36, Try.ntmps36
  go_wp2_with fail
  go_ret
  simp
theorem compare23 (w : World) (a b : Int) : Calls Try.prog 23 #[.int .i64 a, .int .i64 b] w fun e w' => e = .returned (.int .i64 (ci a b)) ∧ w' = w := by
  have HN := Lib.hid (fun w a => nan30 w a)
  unfold ci
  by_cases h1 : a < b
  · rw [if_pos h1]
    go_enter Try.func23, Try.ntmps23
    go_wp2_with (go_at_call 30; refine (HN.out _ _).mono ?_; rintro e w' ⟨rfl, rfl⟩)
    go_ret
    simp
  · rw [if_neg h1]
    by_cases h2 : b < a
    · rw [if_pos h2]
      go_enter Try.func23, Try.ntmps23
      go_wp2_with (go_at_call 30; refine (HN.out _ _).mono ?_; rintro e w' ⟨rfl, rfl⟩)
      go_ret
      simp
    · rw [if_neg h2]
      go_enter Try.func23, Try.ntmps23
      go_wp2_with (go_at_call 30; refine (HN.out _ _).mono ?_; rintro e w' ⟨rfl, rfl⟩)
      go_ret
      simp
theorem compare34 (w : World) (a b : Int) : Calls Try.prog 34 #[.int .i64 a, .int .i64 b] w fun e w' => e = .returned (.int .i64 (ci a b)) ∧ w' = w := by
  have HN := Lib.hid (fun w a => nan40 w a)
  unfold ci
  by_cases h1 : a < b
  · rw [if_pos h1]
    go_enter Try.func34, Try.ntmps34
    go_wp2_with (go_at_call 40; refine (HN.out _ _).mono ?_; rintro e w' ⟨rfl, rfl⟩)
    go_ret
    simp
  · rw [if_neg h1]
    by_cases h2 : b < a
    · rw [if_pos h2]
      go_enter Try.func34, Try.ntmps34
      go_wp2_with (go_at_call 40; refine (HN.out _ _).mono ?_; rintro e w' ⟨rfl, rfl⟩)
      go_ret
      simp
    · rw [if_neg h2]
      go_enter Try.func34, Try.ntmps34
      go_wp2_with (go_at_call 40; refine (HN.out _ _).mono ?_; rintro e w' ⟨rfl, rfl⟩)
      go_ret
      simp
theorem compare29 (w : World) (a b : ByteArray) : Calls Try.prog 29 #[.string a, .string b] w fun e w' => e = .returned (.int .i64 (c3 a b)) ∧ w' = w := by
  have HN := Lib.hid (fun w a => nan36 w a)
  unfold c3
  cases h1 : bl a b with
  | true =>
    unfold bl at h1
    go_enter Try.func29, Try.ntmps29
    go_wp2_with (go_at_call 36; refine (HN.out _ _).mono ?_; rintro e w' ⟨rfl, rfl⟩)
    go_ret
    simp
  | false =>
    cases h2 : bl b a with
    | true =>
      have h3 : (a.toList == b.toList) = false := by
        cases k : (a.toList == b.toList) with
        | false => rfl
        | true => rw [toList_inj (eq_of_beq k), bl_irrefl] at h2; cases h2
      unfold bl at h1 h2
      go_enter Try.func29, Try.ntmps29
      go_wp2_with (go_at_call 36; refine (HN.out _ _).mono ?_; rintro e w' ⟨rfl, rfl⟩)
      go_ret
      simp
    | false =>
      have h3 : (a.toList == b.toList) = true := by
        by_cases e : a = b
        · rw [e]; exact beq_self_eq_true _
        · rcases bl_total e with k | k
          · rw [h1] at k; cases k
          · rw [h2] at k; cases k
      unfold bl at h1 h2
      go_enter Try.func29, Try.ntmps29
      go_wp2_with (go_at_call 36; refine (HN.out _ _).mono ?_; rintro e w' ⟨rfl, rfl⟩)
      go_ret
      simp
/-! Keys. -/
def strOf : Value → ByteArray
  | .string s => s
  | _ => ⟨#[]⟩
def nameOf (x : V4) : Ky := (strOf x.1, strOf x.2.1)
abbrev Kp := Ky × Int
def kp (x : V4) : Kp := (nameOf x, intOf x.2.2.2)
def ltp (a b : Kp) : Bool := klt a.1 b.1 || (decide (a.1 = b.1) && decide (a.2 < b.2))
def kt (x : V4) : Int := intOf x.1
def ltt (a b : Int) : Bool := decide (a < b)
theorem lin_t : Lin ltt := ⟨fun a => by simp [ltt], fun a b c h k => by simp only [ltt, decide_eq_true_eq] at *; omega, fun a b h k => by simp only [ltt, decide_eq_false_iff_not] at *; omega⟩
theorem lin_p : Lin ltp := by
  refine ⟨fun a => by simp [ltp, klt_irrefl], fun a b c h k => ?_, fun a b h k => ?_⟩
  · simp only [ltp, Bool.or_eq_true, Bool.and_eq_true, decide_eq_true_eq] at *
    rcases h with h | ⟨h1, h2⟩
    · rcases k with k | ⟨k1, k2⟩
      · exact .inl (klt_trans h k)
      · exact .inl (k1 ▸ h)
    · rcases k with k | ⟨k1, k2⟩
      · exact .inl (h1 ▸ k)
      · exact .inr ⟨h1.trans k1, by omega⟩
  · simp only [ltp, Bool.or_eq_false_iff, Bool.and_eq_false_iff, decide_eq_false_iff_not] at *
    have e1 : a.1 = b.1 := by
      refine Classical.byContradiction fun e => ?_
      rcases klt_total e with e | e
      · rw [h.1] at e; cases e
      · rw [k.1] at e; cases e
    have h2 := h.2.resolve_left (fun h => h e1)
    have k2 := k.2.resolve_left (fun h => h e1.symm)
    exact Prod.ext e1 (by omega)
def Dp (x : V4) : Prop := ∃ s f u l, x = (.string s, .string f, u, .int .i64 l) ∧ ∃ a n c, u = .slice a n c
def Dt (x : V4) : Prop := ∃ (t a z : Int) (s : ByteArray), x = (.int .i64 t, .int .i64 a, .int .u64 z, .string s)
theorem cm_t (x y : V4) : cm kt ltt x y = ci (kt x) (kt y) := by
  unfold cm ci ltt
  simp
theorem cm_p (x y : V4) : cm kp ltp x y = if cf (nameOf x) (nameOf y) ≠ 0 then cf (nameOf x) (nameOf y) else ci (kp x).2 (kp y).2 := by
  unfold cm ltp kp cf ci
  simp only
  by_cases e : nameOf x = nameOf y
  · rw [e, klt_irrefl]
    simp
  · rcases klt_total e with h | h
    · simp [h]
    · have h' := klt_asymm h
      have e' : ¬ nameOf y = nameOf x := fun x => e x.symm
      simp [h, h', e]
theorem ord_t : Nct.Ord kt ltt Dt := by
  intro x y ⟨t, a, b, c, hx⟩ ⟨t', a', b', c', hy⟩ w
  subst hx hy
  rw [cm_t]
  show Calls Try.prog 25 #[.agg #[.int .i64 t, .int .i64 a, .int .u64 b, .string c], .agg #[.int .i64 t', .int .i64 a', .int .u64 b', .string c']] w fun e w' => e = .returned (.int .i64 (ci t t')) ∧ Below w.heap.size w w'
  have HN := Lib.hid (fun w a b => compare34 w a b)
  go_enter Try.func25, Try.ntmps25
  go_wp2_with (go_at_call 34; refine (HN.out _ _ _).mono ?_; rintro e w' ⟨rfl, rfl⟩)
  go_ret
  exact ⟨rfl, ((Below.refl _ w).alloc (Nat.le_refl _) _).alloc (by simp) _⟩
theorem name22 (w : World) (s f s' f' : ByteArray) (a a' : Option Addr) (n n' c c' : Nat) (l l' : Int) : Calls Try.prog 22 #[.agg #[.string s, .string f, .slice a n c, .int .i64 l], .agg #[.string s', .string f', .slice a' n' c', .int .i64 l']] w fun e w' => e = .returned (.int .i64 (cf (s, f) (s', f'))) ∧ Below w.heap.size w w' := by
  have HN := Lib.hid (fun w a b => compare29 w a b)
  rw [cf_eq]
  simp only
  obtain ⟨C, hC⟩ : ∃ C, C = c3 s s' := ⟨_, rfl⟩
  have HC := Lib.hid hC
  rw [← hC]
  have hl : -1 ≤ C ∧ C ≤ 1 := by rw [hC]; unfold c3; split <;> (try split) <;> omega
  clear hC
  by_cases h0 : C = 0
  · rw [if_neg (by simp [h0])]
    subst h0
    go_enter Try.func22, Try.ntmps22
    go_wp2_with fail
    refine (HN.out _ _ _).mono ?_
    rintro e w' ⟨rfl, rfl⟩
    rw [← HC.out]
    go_wp2_with fail
    refine (HN.out _ _ _).mono ?_
    rintro e w' ⟨rfl, rfl⟩
    go_wp2_with fail
    go_ret
    exact ⟨rfl, ((Below.refl _ w).alloc (Nat.le_refl _) _).alloc (by simp) _⟩
  · rw [if_pos h0]
    go_enter Try.func22, Try.ntmps22
    go_wp2_with fail
    refine (HN.out _ _ _).mono ?_
    rintro e w' ⟨rfl, rfl⟩
    rw [← HC.out]
    go_wp2_with fail
    go_ret
    exact ⟨rfl, ((Below.refl _ w).alloc (Nat.le_refl _) _).alloc (by simp) _⟩
theorem ord_p : Ncp.Ord kp ltp Dp := by
  rintro x y ⟨s, f, u, l, hx, a, n, c, rfl⟩ ⟨s', f', u', l', hy, a', n', c', rfl⟩ w
  subst hx hy
  rw [cm_p]
  show Calls Try.prog 13 #[.agg #[.string s, .string f, .slice a n c, .int .i64 l], .agg #[.string s', .string f', .slice a' n' c', .int .i64 l']] w fun e w' => e = .returned (.int .i64 (if cf (s, f) (s', f') ≠ 0 then cf (s, f) (s', f') else ci l l')) ∧ Below w.heap.size w w'
  have HN := Lib.hid (fun w a b => compare23 w a b)
  have bA := Lib.hid (((Below.refl _ w).alloc (Nat.le_refl _) (.cells #[.string s, .string f, .slice a n c, .int .i64 l] 44)).alloc (by simp) (.cells #[.string s', .string f', .slice a' n' c', .int .i64 l'] 44))
  obtain ⟨W, hW⟩ : ∃ W, W = (w.alloc (.cells #[.string s, .string f, .slice a n c, .int .i64 l] 44)).alloc (.cells #[.string s', .string f', .slice a' n' c', .int .i64 l'] 44) := ⟨_, rfl⟩
  have N6 := Lib.hid (name22 W s f s' f' a a' n n' c c' l l')
  have CL := Lib.hid (show ∀ y, Below W.heap.size W y → y.cell? ⟨w.heap.size, 3, none⟩ = some (.int .i64 l) ∧ y.cell? ⟨w.heap.size + 1, 3, none⟩ = some (.int .i64 l') from fun y hy => by
    have h1 := heap_alloc_new (w.alloc (.cells #[.string s, .string f, .slice a n c, .int .i64 l] 44)) (.cells #[.string s', .string f', .slice a' n' c', .int .i64 l'] 44)
    have h2 := (Below.heap_alloc (w.alloc (.cells #[.string s, .string f, .slice a n c, .int .i64 l] 44)) (.cells #[.string s', .string f', .slice a' n' c', .int .i64 l'] 44) w.heap.size (by simp)).trans (heap_alloc_new w (.cells #[.string s, .string f, .slice a n c, .int .i64 l] 44))
    simp only [World.size_alloc] at h1
    rw [← hW] at h1 h2
    have z : W.heap.size = w.heap.size + 2 := by rw [hW]; simp
    exact ⟨La.cell_at ((hy.block _ (by omega)).trans h2) 3, La.cell_at ((hy.block _ (by omega)).trans h1) 3⟩)
  rw [← hW] at bA
  obtain ⟨C, hC⟩ : ∃ C, C = cf (s, f) (s', f') := ⟨_, rfl⟩
  rw [← hC] at N6 ⊢
  have hl : -1 ≤ C ∧ C ≤ 1 := by rw [hC]; unfold cf; split <;> (try split) <;> omega
  clear hC
  by_cases h0 : C = 0
  · rw [if_neg (by simp [h0])]
    subst h0
    go_enter Try.func13, Try.ntmps13
    go_wp2_with fail
    rw [← hW]
    refine N6.out.mono ?_
    rintro e w3 ⟨rfl, b3⟩
    obtain ⟨x0, x1⟩ := CL.out w3 b3
    have B3 := Lib.hid (bA.out.trans (b3.mono bA.out.size))
    clear hW b3
    go_wp2_with fail
    refine (HN.out _ _ _).mono ?_
    rintro e w' ⟨rfl, rfl⟩
    go_wp2_with fail
    go_ret
    exact ⟨rfl, B3.out⟩
  · rw [if_pos h0]
    go_enter Try.func13, Try.ntmps13
    go_wp2_with fail
    rw [← hW]
    refine N6.out.mono ?_
    rintro e w3 ⟨rfl, b3⟩
    have B3 := Lib.hid (bA.out.trans (b3.mono bA.out.size))
    clear hW b3
    go_wp2_with fail
    go_ret
    exact ⟨rfl, B3.out⟩
end Nj
end Go.Proofs.Ythaadpijfkmdiaa
