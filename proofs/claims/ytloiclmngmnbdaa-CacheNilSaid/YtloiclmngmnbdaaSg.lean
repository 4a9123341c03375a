/- The law CacheNil: what it calls. -/
import Derived.Test.YtloiclmngmnbdaaSf
import Derived.Test.YtloiclmngmnbdaaCz
import Derived.Test.YtloiclmngmnbdaaRd
namespace Go.Proofs.Ytloiclmngmnbdaa
open Go.RowKit Go.Maps Go.ChangeMaps Go.MapKept
namespace Sg
open Jb Ca Ck Ct Cd Cz Ls Lb Lc Ld Li Lj Lk Lm Ln Lo Lp Cq Cr Da Db Dc Ce Cs De Df Dg Dh Tb Sk Sl Sc Sd Se Sf Ra Rb Rc Rd

set_option maxRecDepth 100000
theorem eql32 (w : World) (V : Pnt) :
    (binOp .eql 32 (.agg #[.int .i64 V.1, .int .i64 V.2.1, .int .u64 (V.2.2.1 : Nat), .string (str V.2.2.2)]) (.agg #[.int .i64 V.1, .int .i64 V.2.1, .int .u64 (V.2.2.1 : Nat), .string (str V.2.2.2)])).run Try.prog w = .ok (.bool true) w := by
  rw [run_eql_struct, run_equalIn_agg _ _ _ _ _ (by kernel_rfl) Try.stoodInHeld32]
  simp [go_sem, Program.fieldsOf, Try.underlying32, Try.underlying30]
theorem delete21_nil (w : World) (s : Ky) (a b : Int) : Calls Try.prog 21 #[.pointer none, .string s.1, .string s.2, .int .i64 a, .int .i64 b] w fun e w' => e = .returned (.int .i64 0) ∧ Below w.heap.size w w' := by
  have FI := Lib.hid (fun w1 => find25_nil w1 s)
  have RM := Lib.hid (fun w1 c hc hz => remove37_0 w1 c a b hc hz)
  unfold kv at FI
  go_enter Try.func21, Try.ntmps21
  go_wp2_with fail
  have b0 := (Below.refl _ w).alloc (Nat.le_refl _) (.cells #[.string s.1, .string s.2] 65)
  refine (FI.out _).mono ?_
  rintro e w1 ⟨c, rfl, hcn, p1, p2, b1⟩
  rw [World.size_alloc] at hcn b1
  have RR := Lib.hid (RM.out w1 c p1 p2)
  have B1 := Lib.hid (b0.trans (b1.mono (by omega)))
  clear p1 p2 b1
  go_wp2_with fail
  refine RR.out.mono ?_
  rintro e w2 ⟨rfl, c2⟩
  have B2 := Lib.hid (B1.out.trans (c2.below (B := w.heap.size) (fun k hk _ => by omega) B1.out.size))
  clear c2
  go_wp2_with fail
  go_ret
  exact ⟨rfl, B2.out⟩
theorem grow60_nil (w : World) : Calls Try.prog 60 #[.slice none 0 0, .int .i64 0] w fun e w' => e = .returned (.slice none 0 0) ∧ w' = w := by
  go_enter Try.func60, Try.ntmps60
  go_wp2_with fail
  go_ret
  exact ⟨rfl, rfl⟩
theorem concat44_x (w : World) : Calls Try.prog 44 #[.slice none 0 0] w fun e w' => e = .returned (.slice none 0 0) ∧ Below w.heap.size w w' := by
  have FG := Lib.hid (grow60_nil w)
  go_enter Try.func44, Try.ntmps44
  go_wp2_with fail
  refine wp_loop_rounds 1 ?_
  rw [rounds_succ]
  go_wp2_with fail
  refine FG.out.mono ?_
  rintro e w2 ⟨rfl, rfl⟩
  go_wp2_with fail
  refine wp_loop_rounds 1 ?_
  rw [rounds_succ]
  go_wp2_with fail
  go_ret
  exact ⟨rfl, Below.refl _ _⟩
theorem between26_x (w : World) (cb : Nat) (s t : Int) (hc : w.cell? ⟨cb, 0, none⟩ = some (.slice none 0 0)) : Calls Try.prog 26 #[.pointer (some ⟨cb, 0, none⟩), .int .i64 s, .int .i64 t] w fun e w' => e = .returned (.slice none 0 0) ∧ Below w.heap.size w w' := by
  have RE := Lib.hid (reach0 w.drew cb s hc)
  have kb : cb < w.heap.size := cell_lt hc
  have CN := Lib.hid (fun w => concat44_x w)
  go_enter Try.func26, Try.ntmps26
  go_wp2_with fail
  go_region_held (fun y => y.cell? ⟨cb, 0, none⟩ = some (.slice none 0 0)) (first | exact hc | exact c1) (first | (go_at_call 42; refine RE.out.mono ?_; rintro e w1 ⟨rfl, b1⟩; have B1 := Lib.hid (Db.und b1); have c1 := (b1.cell (p := ⟨cb, 0, none⟩) kb).trans hc; clear b1))
  go_wp2_with fail
  refine wp_loop_rounds 1 ?_
  rw [rounds_succ]
  go_wp2_with fail
  refine (CN.out _).mono ?_
  rintro e w2 ⟨rfl, b2⟩
  have B2 := Lib.hid (B1.out.trans (b2.mono B1.out.size))
  clear b2
  go_wp2_with fail
  go_ret
  exact ⟨rfl, B2.out⟩
theorem getN (w : World) (s : Ky) (a b : Int) : Calls Try.prog 15 #[.pointer none, .string s.1, .string s.2, .int .i64 a, .int .i64 b] w fun e w' => e = .returned (.slice none 0 0) ∧ Below w.heap.size w w' := by
  have FI := Lib.hid (find25_nil w s)
  have BE := Lib.hid (fun w1 c hc => between26_x w1 c a b hc)
  unfold kv at FI
  go_enter Try.func15, Try.ntmps15
  go_wp2_with fail
  refine FI.out.mono ?_
  rintro e w1 ⟨c, rfl, h1, h2, h3, b1⟩
  have BB := Lib.hid (BE.out w1 c h2)
  have B1 := Lib.hid b1
  clear h1 h2 h3 b1
  go_wp2_with fail
  refine BB.out.mono ?_
  rintro e w2 ⟨rfl, b2⟩
  have B2 := Lib.hid (B1.out.trans (b2.mono B1.out.size))
  clear b2
  go_wp2_with fail
  go_ret
  exact ⟨rfl, B2.out⟩
theorem rows_nil {ys : List Ky} (h : ∀ x, x ∈ ys ↔ (([] : List Pnt) ≠ [])) : ys = [] := List.eq_nil_iff_forall_not_mem.2 fun x hx => (h x).1 hx rfl
theorem rows_one {ys : List Ky} {s : Ky} (hp : ys.Pairwise (fun a b => klt a b = true)) (h : ∀ x, x ∈ ys ↔ x = s) : ys = [s] := by
  match ys with
  | [] => exact absurd ((h s).2 rfl) (by simp)
  | [a] => rw [(h a).1 (by simp)]
  | a :: b :: r =>
    have e1 := (h a).1 (by simp)
    have e2 := (h b).1 (by simp)
    have := (List.pairwise_cons.1 hp).1 b (by simp)
    rw [e1, e2, klt_irrefl] at this
    cases this
end Sg
end Go.Proofs.Ytloiclmngmnbdaa
