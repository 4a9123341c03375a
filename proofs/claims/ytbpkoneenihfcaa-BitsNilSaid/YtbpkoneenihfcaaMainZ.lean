/- The statement BitsZigs. -/
import Derived.Test.YtbpkoneenihfcaaAw
import Derived.WalkKit
import Derived.ProofKit
import Derived.OpenShut
import Derived.ShutString
import Derived.ChangeOld
import Derived.Below
namespace Go.Proofs.Ytbpkoneenihfcaa.BitsZigsDone
open Go.ChangeShapes Go.WideShapes Go.ChangeAt Go.RowKit
open Go.Proofs.Ytbpkoneenihfcaa.Wr Go.Proofs.Ytbpkoneenihfcaa.Sz
theorem own : ownKnob Try.prog.godebug = none := by kernel_rfl
theorem laidOut : laidOutB Try.prog = true := by kernel_rfl

theorem bnd_i64 {n : Int} (h : (Lit.int .i64 n).wf = true) : -9223372036854775808 ≤ n ∧ n ≤ 9223372036854775807 := by
  simp only [Lit.wf, Bool.and_eq_true, decide_eq_true_eq] at h
  have h1 : IntKind.i64.min = -9223372036854775808 := by decide
  have h2 : IntKind.i64.max = 9223372036854775807 := by decide
  omega
theorem bnd_u64 {n : Int} (h : (Lit.int .u64 n).wf = true) : 0 ≤ n ∧ n ≤ 18446744073709551615 := by
  simp only [Lit.wf, Bool.and_eq_true, decide_eq_true_eq] at h
  have h1 : IntKind.u64.min = 0 := by decide
  have h2 : IntKind.u64.max = 18446744073709551615 := by decide
  omega

set_option maxRecDepth 100000 in
set_option maxHeartbeats 400000 in
theorem zigs6 (n m : Int) (hn1 : -9223372036854775808 ≤ n) (hn2 : n ≤ 9223372036854775807) (hm1 : 0 ≤ m) (hm2 : m ≤ 18446744073709551615) (w : World) :
    Calls Try.prog 6 #[.int .i64 n, .int .u64 m] w fun e w' => e = .returned (.bool true) ∧ Below w.heap.size w w' := by
  obtain ⟨a1, a2⟩ := zig_in n hn1 hn2
  obtain ⟨b1, b2⟩ := zag_in m hm1 hm2
  have z1 := zag_zig n hn1 hn2
  have z2 := zig_zag m hm1 hm2
  obtain ⟨A, hA⟩ : ∃ A, zig n = A := ⟨_, rfl⟩
  obtain ⟨B, hB⟩ : ∃ B, zag m = B := ⟨_, rfl⟩
  have F1 : ∀ w, Calls Try.prog 22 #[.int .i64 n] w fun e w' => e = .returned (.int .u64 A) ∧ w' = w := fun w => by rw [← hA]; exact zig22 n hn1 hn2 w
  have F2 : ∀ w, Calls Try.prog 23 #[.int .i64 n] w fun e w' => e = .returned (.int .u64 A) ∧ w' = w := fun w => by rw [← hA]; exact zig23 n hn1 hn2 w
  have F3 : ∀ w, Calls Try.prog 24 #[.int .u64 m] w fun e w' => e = .returned (.int .i64 B) ∧ w' = w := fun w => by rw [← hB]; exact zag24 m hm1 hm2 w
  have F4 : ∀ w, Calls Try.prog 25 #[.int .u64 m] w fun e w' => e = .returned (.int .i64 B) ∧ w' = w := fun w => by rw [← hB]; exact zag25 m hm1 hm2 w
  have F5 : ∀ w, Calls Try.prog 24 #[.int .u64 A] w fun e w' => e = .returned (.int .i64 n) ∧ w' = w := fun w => by rw [← hA]; have := zag24 (zig n) a1 a2 w; rwa [z1] at this
  have F6 : ∀ w, Calls Try.prog 22 #[.int .i64 B] w fun e w' => e = .returned (.int .u64 m) ∧ w' = w := fun w => by rw [← hB]; have := zig22 (zag m) b1 b2 w; rwa [z2] at this
  clear hA hB z1 z2 a1 a2 b1 b2
  have G1 := Lib.hid F1
  have G2 := Lib.hid F2
  have G3 := Lib.hid F3
  have G4 := Lib.hid F4
  have G5 := Lib.hid F5
  have G6 := Lib.hid F6
  clear F1 F2 F3 F4 F5 F6
  go_enter Try.func6, Try.ntmps6
  go_wp2_with (go_at_call 9; refine (awake9 _).mono ?_; rintro e w1 ⟨rfl, b1⟩)
  refine (G1.out _).mono ?_; rintro e w2 ⟨rfl, rfl⟩
  go_wp2_with fail
  refine (G2.out _).mono ?_; rintro e w2 ⟨rfl, rfl⟩
  go_wp2_with fail
  refine (G1.out _).mono ?_; rintro e w2 ⟨rfl, rfl⟩
  go_wp2_with fail
  refine (G5.out _).mono ?_; rintro e w2 ⟨rfl, rfl⟩
  go_wp2_with fail
  refine (G3.out _).mono ?_; rintro e w2 ⟨rfl, rfl⟩
  go_wp2_with fail
  refine (G6.out _).mono ?_; rintro e w2 ⟨rfl, rfl⟩
  go_wp2_with fail
  refine (G3.out _).mono ?_; rintro e w2 ⟨rfl, rfl⟩
  go_wp2_with fail
  refine (G4.out _).mono ?_; rintro e w2 ⟨rfl, rfl⟩
  go_wp2_with fail
  go_ret
  exact ⟨rfl, b1⟩

set_option maxRecDepth 100000 in
theorem lifted (os : Os) (started : os.Started) (H : Type) (enc : TypeId × Value → H) :
    ReturnsInHanded {} Try.checked os 6 .any (Rows.bitsZigsSpec.pre6 enc Try.prog Try.f6 Rows.bitsZigsRow.domain false) (Rows.bitsZigsSpec.post enc Try.prog Try.f6 false true false false) := by
  refine returnsInHanded_of_change (C := Try.checked) own started (by kernel_rfl) Try.func6
    (ChangeSpec.witness6 (enc := enc) (C := Try.checked) false ⟨#[], #[.int .i64 0, .int .u64 0], []⟩ 8 (by kernel_rfl) (by kernel_rfl) (by kernel_rfl) (by kernel_rfl)) ?_
  intro W base args ds gs before hval0 hW hcnd _
  have hval : ∀ (j : Nat) t v, Try.f6.params[j]? = some t → args[j]? = some v → Value.okWide Try.prog W .any base t v := hval0
  have hW' := hW
  obtain ⟨p, q, hA0, hV, rfl, hfz, hnd⟩ := hW
  have hA : DataW.TrodAll enc Try.prog W 0 (fun _ => true) true Try.f6.params.toList args.toList ds p := hA0
  rw [Try.params6] at hA hval
  obtain ⟨v0, vs0, d0, ds0, p0, q0, hargs, rfl, rfl, h0, r0⟩ := trodAll_cons hA
  obtain ⟨v1, vs1, d1, ds1, p1, q1, rfl, rfl, rfl, h1, r1⟩ := trodAll_cons r0
  obtain ⟨rfl, rfl, rfl⟩ := trodAll_nil r1
  obtain rfl : args = #[v0, v1] := by cases args; simp_all
  obtain ⟨rfl, rfl⟩ := trodVars_none hV
  have k0 := h0
  have k1 := h1
  obtain ⟨n, rfl, hd0, wf0⟩ := open_int Try.underlying2 (hval 0 2 v0 rfl rfl) h0
  obtain ⟨m, rfl, hd1, wf1⟩ := open_int Try.underlying29 (hval 1 29 v1 rfl rfl) h1
  obtain ⟨rfl, wf0⟩ := wf0
  obtain ⟨rfl, wf1⟩ := wf1
  obtain ⟨n1, n2⟩ := bnd_i64 wf0
  obtain ⟨m1, m2⟩ := bnd_u64 wf1
  have lt0 : ∀ x ∈ ([] : List MemPlace), x.block < W.heap.size := fun x hx => by cases hx
  clear hA0 hval0
  refine (zigs6 n m n1 n2 m1 m2 W).mono fun e W' ⟨he, bel⟩ => ?_
  subst he
  exact ⟨_, rfl, _, _, _, [], _, [], hW', trodAll_mk1 (shut_bool Try.underlying4 _), (trodAll_cons_mk (Below.trod laidOut (by kernel_rfl) (of_decide_eq_true (by kernel_rfl)) k0 bel lt0) (trodAll_cons_mk (Below.trod laidOut (by kernel_rfl) (of_decide_eq_true (by kernel_rfl)) k1 bel lt0) trodAll_mk0)), rfl, bel.frame _, fun h => by cases h⟩

theorem over : Rows.bitsZigsRow.holds Try.pinned (OpenSpec.ofChange Rows.bitsZigsSpec) :=
  OpenClaim.holds_of_wide 6 Try.f6 rfl rfl rfl rfl rfl rfl rfl ⟨rfl, rfl, rfl, rfl, rfl⟩ rfl rfl rfl rfl rfl (by kernel_rfl) Try.func6 (by kernel_rfl)
    (of_decide_eq_true (by kernel_rfl)) (by unfold Func.isWrapper; first | (rw [if_pos (by decide +kernel)]; kernel_rfl) | (rw [if_neg (by decide +kernel)]; exact ⟨rfl, rfl⟩))
    (fun os started H enc _ => lifted os started H enc)

theorem proved : Rows.BitsZigsSaid := over
end Go.Proofs.Ytbpkoneenihfcaa.BitsZigsDone
