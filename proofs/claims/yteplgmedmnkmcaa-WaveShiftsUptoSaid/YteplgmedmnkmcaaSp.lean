/- The sums of rows of whole numbers: exact; four noughts ahead change nothing, one turns it. -/
import Derived.Test.YteplgmedmnkmcaaFp
import Derived.Test.YteplgmedmnkmcaaSa
import Derived.OwnWalk
namespace Go.Proofs.Yteplgmedmnkmcaa
open Go.RowKit
namespace St
open Fp

/-- The sum of a row of whole numbers. -/
def P (z : Nat → Int) : Nat → Int × Int
  | 0 => (0, 0)
  | n + 1 => if n % 4 = 0 then ((P z n).1 + z n, (P z n).2) else if n % 4 = 1 then ((P z n).1, (P z n).2 + z n) else if n % 4 = 2 then ((P z n).1 - z n, (P z n).2) else ((P z n).1, (P z n).2 - z n)
theorem P_le (z : Nat → Int) (hz : ∀ i, (z i).natAbs ≤ 32768) : ∀ n, (P z n).1.natAbs ≤ 32768 * n ∧ (P z n).2.natAbs ≤ 32768 * n
  | 0 => by simp [P]
  | n + 1 => by
    have h := P_le z hz n
    have h1 := hz n
    unfold P
    split
    · simp only; omega
    · split
      · simp only; omega
      · split <;> simp only <;> omega
def sh (k : Nat) (z : Nat → Int) (i : Nat) : Int := if i < k then 0 else z (i - k)
theorem P_four (z : Nat → Int) : ∀ n, P (sh 4 z) (n + 4) = P z n
  | 0 => by simp [P, sh]
  | n + 1 => by
    have h := P_four z n
    rw [show n + 1 + 4 = (n + 4) + 1 from by omega]
    have e : sh 4 z (n + 4) = z n := by unfold sh; rw [if_neg (by omega)]; rfl
    rw [P, h, e, P]
    simp only [show (n + 4) % 4 = n % 4 from by omega]
theorem P_one (z : Nat → Int) : ∀ n, P (sh 1 z) (n + 1) = (-(P z n).2, (P z n).1)
  | 0 => by simp [P, sh]
  | n + 1 => by
    have h := P_one z n
    have e : sh 1 z (n + 1) = z n := by simp [sh]
    rw [P, h, e, P]
    have hq : n % 4 = 0 ∨ n % 4 = 1 ∨ n % 4 = 2 ∨ n % 4 = 3 := by omega
    rcases hq with hq | hq | hq | hq
    · simp [hq, show (n + 1) % 4 = 1 from by omega]
    · simp [hq, show (n + 1) % 4 = 2 from by omega]; omega
    · simp [hq, show (n + 1) % 4 = 3 from by omega]
    · simp [hq, show (n + 1) % 4 = 0 from by omega]; omega

theorem res_add {x y r : Nat} {k l : Int} (h : Res .add x y r) (hx : IsI x k) (hy : IsI y l) (hb : (k + l).natAbs < 2 ^ 53) : IsI r (k + l) := by
  obtain ⟨s, hs, hi⟩ := add_exact hx hy hb
  rw [res_some h hs]; exact hi
theorem res_sub {x y r : Nat} {k l : Int} (h : Res .sub x y r) (hx : IsI x k) (hy : IsI y l) (hb : (k - l).natAbs < 2 ^ 53) : IsI r (k - l) := by
  obtain ⟨s, hs, hi⟩ := sub_exact hx hy hb
  rw [res_some h hs]; exact hi
theorem sr_P {V : Nat → Nat} {z : Nat → Int} (hz : ∀ i, (z i).natAbs ≤ 32768) : ∀ {n a b : Nat}, n ≤ 2097152 → (∀ i, i < n → IsI (V i) (z i)) → Sr V n a b → IsI a (P z n).1 ∧ IsI b (P z n).2
  | 0, _, _, _, _, ⟨h1, h2⟩ => by subst h1; subst h2; exact ⟨zero_exact, zero_exact⟩
  | n + 1, _, _, hn, hV, ⟨c, d, h1, h2⟩ => by
    obtain ⟨hc, hd⟩ := sr_P hz (by omega) (fun i hi => hV i (by omega)) h1
    have hv := hV n (by omega)
    have hl := P_le z hz n
    have hzn := hz n
    rw [P]
    rcases h2 with ⟨q, h3, h4⟩ | ⟨q, h3, h4⟩ | ⟨q, h3, h4⟩ | ⟨q, h3, h4⟩
    · simp only [q]; subst h4; exact ⟨res_add h3 hc hv (by omega), hd⟩
    · simp only [q]; subst h3; exact ⟨hc, res_add h4 hd hv (by omega)⟩
    · simp only [q]; subst h4; exact ⟨res_sub h3 hc hv (by omega), hd⟩
    · simp only [q]; subst h3; exact ⟨hc, res_sub h4 hd hv (by omega)⟩

set_option maxRecDepth 100000 in
set_option maxHeartbeats 800000 in
theorem spin9 (a b : Nat) (w : World) :
    Calls Try.prog 9 #[.complex .f64 a b, .int .i64 1] w fun e w' => e = .returned (.complex .f64 (Op.negFloat .f64 b) a) ∧ w = w' := by
  have hn : (Op.unary UnOp.neg (Value.float FloatKind.f64 b)).run Try.prog w = .ok (.float .f64 (Op.negFloat .f64 b)) w := rfl
  go_enter Try.func9, Try.ntmps9
  go_wp2_with (go_at_call 13; refine (quarter 1 (by decide) _).mono ?_; rintro e w' ⟨rfl, rfl⟩)
  go_ret
  exact ⟨rfl, rfl⟩
end St
end Go.Proofs.Yteplgmedmnkmcaa
