/- Steps: what a float's sum and difference give, a NaN's bits left open; the steps of the row's sum by the program and by the document. -/
import Derived.Test.YtofageoljphleaaGreatDoorRows
import Derived.WalkKit
import Derived.ProofKit
import Derived.OpenShut
import Derived.Handy
import Derived.BigQuiet
import Derived.Deep.QuietTactic
import Derived.WalkLawsBesides
import Derived.Laws.FloatArith
import Derived.Laws.ComplexArith
import Derived.Laws.Externs
import Derived.Laws.NewFold
import Derived.Lib.Hide
import Derived.LoopTactic
import Derived.IntWalk
import Derived.Laws.BitsAllLaws
namespace Go.Proofs.YtofageoljphleaaGreatDoor
open Go.RowKit
namespace St

/-- The bits are a NaN's. -/
def IsN (r : Nat) : Prop := (FloatKind.f64.format.read r).isNaN = true
/-- What an operation on two floats may answer: its bits where it is valid, else some NaN. -/
def Res (op : BinOp) (x y r : Nat) : Prop := (floatBits op .f64 x y = some r) ∨ (floatBits op .f64 x y = none ∧ IsN r)
/-- The same bits, or both NaNs. -/
def Eqv (a b : Nat) : Prop := a = b ∨ (IsN a ∧ IsN b)

theorem isN_cut (t : Nat) : IsN ((t % 2) * 2 ^ 63 + 0x7ff0000000000000 + 1 + (t / 2) % (2 ^ 52 - 1)) := by
  unfold IsN Ieee.Format.read
  have e1 : FloatKind.f64.format.signWeight = 2 ^ 63 := by decide
  have e2 : FloatKind.f64.format.binade = 2 ^ 52 := by decide
  have e3 : FloatKind.f64.format.infRung = 0x7ff0000000000000 := by decide
  have e4 : ((t % 2) * 2 ^ 63 + 0x7ff0000000000000 + 1 + (t / 2) % (2 ^ 52 - 1)) % 2 ^ 63 = 0x7ff0000000000000 + 1 + (t / 2) % (2 ^ 52 - 1) := by omega
  simp only [e1, e2, e3, e4]
  rw [if_neg (by omega), if_neg (by omega), if_neg (by omega)]
  rfl
theorem order_nan {r s : Nat} (h : IsN r) : FloatKind.f64.format.order r s = none := by
  unfold IsN at h; unfold Ieee.Format.order
  cases hr : FloatKind.f64.format.read r <;> rw [hr] at h <;> first | (cases h; done) | skip
  rfl
theorem add_nan {r s : Nat} (h : IsN r) : floatBits .add .f64 r s = none := by
  unfold IsN at h; unfold floatBits Ieee.Format.add
  cases hr : FloatKind.f64.format.read r <;> rw [hr] at h <;> first | (cases h; done) | skip
  rfl
theorem sub_nan {r s : Nat} (h : IsN r) : floatBits .sub .f64 r s = none := by
  unfold IsN at h; unfold floatBits Ieee.Format.sub
  cases hr : FloatKind.f64.format.read r <;> rw [hr] at h <;> first | (cases h; done) | skip
  rfl
theorem run_any (op : BinOp) (hop : op = .add ∨ op = .sub) (t : TypeId) (x y : Nat) (w : World) :
    ∃ r w', (binOp op t (.float .f64 x) (.float .f64 y)).run Tryz.prog w = .ok (.float .f64 r) w' ∧ Res op x y r ∧ Below w.heap.size w w' := by
  cases h : floatBits op .f64 x y with
  | some r => exact ⟨r, w, run_float_arith w op t .f64 x y r h, .inl h, Below.refl _ _⟩
  | none =>
    refine ⟨_, w.drew, ?_, .inr ⟨h, isN_cut (w.tape w.drawn (.nanBits .f64 x y))⟩, (Below.refl _ _).drew⟩
    unfold floatBits at h
    rcases hop with rfl | rfl <;> simp only at h <;> simp [binOp, Op.floatArith, h, Question.forced, Question.cut]
theorem res_eqv {op : BinOp} (hop : op = .add ∨ op = .sub) {a b v r s : Nat} (h : Eqv a b) (h1 : Res op a v r) (h2 : Res op b v s) : Eqv r s := by
  rcases h with rfl | ⟨ha, hb⟩
  · rcases h1 with h1 | ⟨h1, k1⟩ <;> rcases h2 with h2 | ⟨h2, k2⟩
    · rw [h1] at h2; exact .inl (by simpa using h2)
    · rw [h1] at h2; cases h2
    · rw [h1] at h2; cases h2
    · exact .inr ⟨k1, k2⟩
  · rcases hop with rfl | rfl
    · rcases h1 with h1 | ⟨h1, k1⟩
      · rw [add_nan ha] at h1; cases h1
      · rcases h2 with h2 | ⟨h2, k2⟩
        · rw [add_nan hb] at h2; cases h2
        · exact .inr ⟨k1, k2⟩
    · rcases h1 with h1 | ⟨h1, k1⟩
      · rw [sub_nan ha] at h1; cases h1
      · rcases h2 with h2 | ⟨h2, k2⟩
        · rw [sub_nan hb] at h2; cases h2
        · exact .inr ⟨k1, k2⟩

/-- A step of a row's sum: at the place q, modulo four. -/
def St (q : Nat) (a b v c d : Nat) : Prop :=
  (q = 0 ∧ Res .add a v c ∧ d = b) ∨ (q = 1 ∧ c = a ∧ Res .add b v d) ∨ (q = 2 ∧ Res .sub a v c ∧ d = b) ∨ (q = 3 ∧ c = a ∧ Res .sub b v d)

theorem st_eqv {q a b v c d a' b' c' d' : Nat} (ha : Eqv a a') (hb : Eqv b b') (h : St q a b v c d) (h' : St q a' b' v c' d') : Eqv c c' ∧ Eqv d d' := by
  unfold St at h h'
  rcases h with ⟨rfl, h1, rfl⟩ | ⟨rfl, rfl, h1⟩ | ⟨rfl, h1, rfl⟩ | ⟨rfl, rfl, h1⟩ <;> rcases h' with ⟨e, h2, e'⟩ | ⟨e, e', h2⟩ | ⟨e, h2, e'⟩ | ⟨e, e', h2⟩ <;> first | (exfalso; omega) | (subst e') | skip
  · exact ⟨res_eqv (.inl rfl) ha h1 h2, hb⟩
  · exact ⟨ha, res_eqv (.inl rfl) hb h1 h2⟩
  · exact ⟨res_eqv (.inr rfl) ha h1 h2, hb⟩
  · exact ⟨ha, res_eqv (.inr rfl) hb h1 h2⟩

/-- The sums that a row of n floats may come to. -/
def Sr (V : Nat → Nat) : Nat → Nat → Nat → Prop
  | 0, a, b => a = 0 ∧ b = 0
  | n + 1, a, b => ∃ c d, Sr V n c d ∧ St (n % 4) c d (V n) a b
theorem sr_eqv {V : Nat → Nat} : ∀ {n a b a' b' : Nat}, Sr V n a b → Sr V n a' b' → Eqv a a' ∧ Eqv b b'
  | 0, _, _, _, _, ⟨h1, h2⟩, ⟨h3, h4⟩ => ⟨.inl (h1.trans h3.symm), .inl (h2.trans h4.symm)⟩
  | _ + 1, _, _, _, _, ⟨_, _, h1, h2⟩, ⟨_, _, h3, h4⟩ => have h := sr_eqv h1 h3; st_eqv h.1 h.2 h2 h4

theorem ret_c {a b a' b' : Nat} (h1 : a = a') (h2 : b = b') : Ending.returned (.complex .f64 a b) = .returned (.complex .f64 a' b') := by rw [h1, h2]

theorem and3 (k : Nat) (hk : k ≤ 9223372036854775807) : bits BinOp.and IntKind.i64 (k : Int) 3 = ((k % 4 : Nat) : Int) := by
  show IntKind.i64.wrap ((BitVec.ofInt 64 (k : Int) &&& BitVec.ofInt 64 ((3 : Nat) : Int)).toNat : Int) = _
  rw [BitVec.toNat_and, ofInt_u64 k (by omega), ofInt_u64 3 (by omega), nat_mask2]
  exact IntWalk.i64_in _ (by omega)

set_option maxRecDepth 100000 in
theorem quarter (k : Nat) (hk : k ≤ 9223372036854775807) (w : World) : Calls Tryz.prog 16 #[.int .i64 k] w fun e w' => e = .returned (.int .i64 ((k % 4 : Nat) : Int)) ∧ w = w' := by
  have h := and3 k hk
  go_enter Tryz.func16, Tryz.ntmps16
  go_wp2
  go_ret
  exact ⟨by simp, rfl⟩

set_option maxRecDepth 100000 in
set_option maxHeartbeats 800000 in
theorem step11 (a b v k : Nat) (hk : k ≤ 9223372036854775807) (w : World) :
    Calls Tryz.prog 11 #[.complex .f64 a b, .float .f64 v, .int .i64 k] w fun e w' => ∃ c d, e = .returned (.complex .f64 c d) ∧ St (k % 4) a b v c d ∧ Below w.heap.size w w' := by
  obtain ⟨r0, w0, e0, s0, l0⟩ := run_any .add (.inl rfl) 23 a v w
  obtain ⟨r1, w1, e1, s1, l1⟩ := run_any .add (.inl rfl) 23 b v w
  obtain ⟨r2, w2, e2, s2, l2⟩ := run_any .sub (.inr rfl) 23 a v w
  obtain ⟨r3, w3, e3, s3, l3⟩ := run_any .sub (.inr rfl) 23 b v w
  have S0 := Lib.hid s0; have S1 := Lib.hid s1; have S2 := Lib.hid s2; have S3 := Lib.hid s3
  clear s0 s1 s2 s3
  have hq : k % 4 = 0 ∨ k % 4 = 1 ∨ k % 4 = 2 ∨ k % 4 = 3 := by omega
  rcases hq with hq | hq | hq | hq
  · go_enter Tryz.func11, Tryz.ntmps11
    go_wp2_with (first | (go_at_call 16; refine (quarter _ hk _).mono ?_; rintro e w' ⟨rfl, rfl⟩; rw [hq]) | rw [e0])
    go_ret
    exact ⟨_, _, rfl, .inl ⟨hq, S0.out, rfl⟩, l0⟩
  · go_enter Tryz.func11, Tryz.ntmps11
    go_wp2_with (first | (go_at_call 16; refine (quarter _ hk _).mono ?_; rintro e w' ⟨rfl, rfl⟩; rw [hq]) | rw [e1])
    go_ret
    exact ⟨_, _, rfl, .inr (.inl ⟨hq, rfl, S1.out⟩), l1⟩
  · go_enter Tryz.func11, Tryz.ntmps11
    go_wp2_with (first | (go_at_call 16; refine (quarter _ hk _).mono ?_; rintro e w' ⟨rfl, rfl⟩; rw [hq]) | rw [e2])
    go_ret
    exact ⟨_, _, rfl, .inr (.inr (.inl ⟨hq, S2.out, rfl⟩)), l2⟩
  · go_enter Tryz.func11, Tryz.ntmps11
    go_wp2_with (first | (go_at_call 16; refine (quarter _ hk _).mono ?_; rintro e w' ⟨rfl, rfl⟩; rw [hq]) | rw [e3])
    go_ret
    exact ⟨_, _, rfl, .inr (.inr (.inr ⟨hq, rfl, S3.out⟩)), l3⟩

set_option maxRecDepth 100000 in
set_option maxHeartbeats 800000 in
theorem step12 (a b v k : Nat) (hk : k < 4) (w : World) :
    Calls Tryz.prog 12 #[.complex .f64 a b, .float .f64 v, .int .i64 k] w fun e w' => ∃ c d, e = .returned (.complex .f64 c d) ∧ St k a b v c d ∧ Below w.heap.size w w' := by
  obtain ⟨r0, w0, e0, s0, l0⟩ := run_any .add (.inl rfl) 23 a v w
  obtain ⟨r1, w1, e1, s1, l1⟩ := run_any .add (.inl rfl) 23 b v w
  obtain ⟨r2, w2, e2, s2, l2⟩ := run_any .sub (.inr rfl) 23 a v w
  obtain ⟨r3, w3, e3, s3, l3⟩ := run_any .sub (.inr rfl) 23 b v w
  have S0 := Lib.hid s0; have S1 := Lib.hid s1; have S2 := Lib.hid s2; have S3 := Lib.hid s3
  clear s0 s1 s2 s3
  have hq : k = 0 ∨ k = 1 ∨ k = 2 ∨ k = 3 := by omega
  rcases hq with rfl | rfl | rfl | rfl
  · go_enter Tryz.func12, Tryz.ntmps12
    go_wp2_with (rw [e0])
    go_ret
    exact ⟨_, _, rfl, .inl ⟨rfl, S0.out, rfl⟩, l0⟩
  · go_enter Tryz.func12, Tryz.ntmps12
    go_wp2_with (rw [e1])
    go_ret
    exact ⟨_, _, rfl, .inr (.inl ⟨rfl, rfl, S1.out⟩), l1⟩
  · go_enter Tryz.func12, Tryz.ntmps12
    go_wp2_with (rw [e2])
    go_ret
    exact ⟨_, _, rfl, .inr (.inr (.inl ⟨rfl, S2.out, rfl⟩)), l2⟩
  · go_enter Tryz.func12, Tryz.ntmps12
    go_wp2_with (rw [e3])
    go_ret
    exact ⟨_, _, rfl, .inr (.inr (.inr ⟨rfl, rfl, S3.out⟩)), l3⟩
end St
end Go.Proofs.YtofageoljphleaaGreatDoor
