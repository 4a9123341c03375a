import Derived.Test.YtbnicnhkakbglaaGreatDoorG01
import Derived.Laws.FloatArith
import Derived.Test.YtbnicnhkakbglaaGreatDoorProg
import Derived.Laws.Externs
import Derived.ProofKit

/- Both loops' runs; far shifts to the right: plain mathematics. -/
namespace Go.Proofs.YtbnicnhkakbglaaGreatDoor
namespace Dm

def B1 (p : De × Int) : Prop := Gd p.1 ∧ -330 ≤ p.1.dp ∧ p.1.dp ≤ 310 ∧ 0 ≤ p.2 ∧ p.2 ≤ 1057
theorem loop1 {a : De} (h : Gd a) (h1 : -330 ≤ a.dp) (h2 : a.dp ≤ 310) :
    ∃ J, c1 (iter f1 (a, 0) J) = false ∧ (∀ j, j < J → c1 (iter f1 (a, 0) j) = true) ∧ ∀ j, j ≤ J → B1 (iter f1 (a, 0) j) := by
  by_cases h0 : a.dp ≤ 0
  · refine ⟨0, decide_eq_false (by show ¬ 0 < a.dp; omega), fun j hj => by omega, fun j hj => ?_⟩
    rw [show j = 0 from by omega]
    exact ⟨h, h1, h2, Int.le_refl 0, (show (0 : Int) ≤ 1057 by decide)⟩
  · obtain ⟨J, j1, j2, j3⟩ := halts f1 c1 I1 (fun p => (2000 - p.2).toNat) step1 (a, 0) (i1_start h (by omega) h2)
    refine ⟨J, j1, j2, fun j hj => ?_⟩
    obtain ⟨g1, g2, g3, g4, g5, _⟩ := j3 j hj
    exact ⟨g1, by omega, g3, g4, g5⟩
def B2 (p : De × Int) : Prop := Gd p.1 ∧ -330 ≤ p.1.dp ∧ p.1.dp ≤ 0 ∧ -1102 ≤ p.2 ∧ p.2 ≤ 1057
theorem loop2 {p : De × Int} (h : Gd p.1) (h1 : -330 ≤ p.1.dp) (h2 : p.1.dp ≤ 0) (h3 : 0 ≤ p.2) (h4 : p.2 ≤ 1057) :
    ∃ J, c2 (iter f2 p J) = false ∧ (∀ j, j < J → c2 (iter f2 p j) = true) ∧ ∀ j, j ≤ J → B2 (iter f2 p j) := by
  obtain ⟨J, j1, j2, j3⟩ := halts f2 c2 I2 (fun p => (p.2 + 60000).toNat) step2 p (i2_start h h1 h2 h3 h4)
  refine ⟨J, j1, j2, fun j hj => ?_⟩
  have hb := i2_exp (j3 j hj)
  obtain ⟨_, _, _, g1, g2, g3, _⟩ := j3 j hj
  exact ⟨g1, g2, g3, hb.1, hb.2⟩
/-- Shifts of 60, again and again. -/
def sixties (a : De) (j : Nat) : De := iter (fun x => x.shr 60) a j
theorem sixties_good {a : De} (h : Gd a) (j : Nat) : Gd (sixties a j) ∧ (sixties a j).dp ≤ a.dp ∧ a.dp - 60 * j ≤ (sixties a j).dp := by
  induction j with
  | zero => exact ⟨h, Int.le_refl _, by show a.dp - 60 * ((0 : Nat) : Int) ≤ a.dp; omega⟩
  | succ j ih =>
    obtain ⟨h1, h2, h3⟩ := ih
    have := shr_dp h1 60
    refine ⟨h1.shr 60, ?_, ?_⟩
    · show ((sixties a j).shr 60).dp ≤ a.dp; omega
    · show a.dp - 60 * ((j + 1 : Nat) : Int) ≤ ((sixties a j).shr 60).dp; omega
/-- Shifted to the right, however far. -/
def shrN (a : De) (n : Nat) : De := (sixties a ((n - 1) / 60)).shr (n - 60 * ((n - 1) / 60))
theorem shrN_good {a : De} (h : Gd a) {n : Nat} (hn : 1 ≤ n) : Gd (shrN a n) ∧ (shrN a n).dp ≤ a.dp ∧ a.dp - n ≤ (shrN a n).dp := by
  obtain ⟨h1, h2, h3⟩ := sixties_good h ((n - 1) / 60)
  have := shr_dp h1 (n - 60 * ((n - 1) / 60))
  refine ⟨h1.shr _, ?_, ?_⟩
  · show ((sixties a _).shr _).dp ≤ a.dp; omega
  · show a.dp - n ≤ ((sixties a _).shr _).dp
    omega
end Dm
end Go.Proofs.YtbnicnhkakbglaaGreatDoor

/- Floats that are no NaN: products and quotients. -/
namespace Go.Proofs.YtbnicnhkakbglaaGreatDoor
namespace Fq
open Ieee

/-- No NaN. -/
def NN (x : Nat) : Prop := (FloatKind.f64.format.read x).isNaN = false
/-- A number that is no nought. -/
def Nz (x : Nat) : Prop := ∃ s m p, FloatKind.f64.format.read x = .number s m p ∧ m ≠ 0

theorem fw : FloatKind.f64.format.signWeight = 9223372036854775808 := by decide
theorem fb : FloatKind.f64.format.binade = 4503599627370496 := by decide
theorem fi : FloatKind.f64.format.infRung = 9218868437227405312 := by decide

theorem nn_word (s : Bool) (r : Nat) (h : r ≤ 9218868437227405312) : NN (FloatKind.f64.format.word s r) := by
  unfold NN Format.read Format.word
  simp only [fw, fb, fi]
  have e1 : (if s = true then 9223372036854775808 + r else r) % 9223372036854775808 = r := by cases s <;> simp <;> omega
  rw [e1]
  split
  · rfl
  · split
    · rfl
    · rw [if_pos (by omega)]
      rfl
theorem nn_write {d : Datum} (h : d.isNaN = false) : NN (FloatKind.f64.format.write d) := by
  cases d with
  | number s m p =>
    show NN (FloatKind.f64.format.nearest s m p)
    unfold Format.nearest
    split
    · exact nn_word s 0 (by decide)
    · exact nn_word s _ (by rw [fi]; exact Nat.min_le_right _ _)
  | infinity s => exact nn_word s _ (by rw [fi]; exact Nat.le_refl _)
  | nan s t => cases h
theorem nn_int (n : Int) : NN (floatOfInt .f64 n) := nn_write (d := .number (n < 0) n.natAbs 0) rfl
theorem nn_mul {x y : Nat} (hx : NN x) (hy : Nz y) : ∃ r, floatBits .mul .f64 x y = some r ∧ NN r := by
  obtain ⟨s, m, p, e, hm⟩ := hy
  unfold NN at hx
  show ∃ r, FloatKind.f64.format.mul x y = some r ∧ NN r
  unfold Format.mul
  rw [e]
  cases hd : FloatKind.f64.format.read x with
  | number t n q => exact ⟨_, rfl, nn_write rfl⟩
  | infinity t =>
    refine ⟨_, by simp only [Datum.product, if_neg hm]; rfl, nn_write rfl⟩
  | nan t k => rw [hd] at hx; cases hx
theorem nn_div {x y : Nat} (hx : NN x) (hy : Nz y) : ∃ r, floatBits .quo .f64 x y = some r ∧ NN r := by
  obtain ⟨s, m, p, e, hm⟩ := hy
  unfold NN at hx
  show ∃ r, FloatKind.f64.format.div x y = some r ∧ NN r
  unfold Format.div
  rw [e]
  cases hd : FloatKind.f64.format.read x with
  | number t n q => exact ⟨_, by simp only [Datum.quotient, if_neg hm]; rfl, nn_write rfl⟩
  | infinity t => exact ⟨_, rfl, nn_write rfl⟩
  | nan t k => rw [hd] at hx; cases hx
theorem nn_neg {x : Nat} (hx : NN x) : NN (x ^^^ 2 ^ 63) := by
  unfold NN Format.read at hx ⊢
  simp only [fw, fb, fi] at hx ⊢
  have e : (x ^^^ 2 ^ 63) % 9223372036854775808 = x % 9223372036854775808 := by
    rw [show (9223372036854775808 : Nat) = 2 ^ 63 from rfl, Nat.xor_mod_two_pow, Nat.mod_self, Nat.xor_zero]
  rw [e]
  split
  · rfl
  · rename_i h1
    rw [if_neg h1] at hx
    split
    · rfl
    · rename_i h2
      rw [if_neg h2] at hx
      split
      · rfl
      · rename_i h3
        rw [if_neg h3] at hx
        cases hx
end Fq
end Go.Proofs.YtbnicnhkakbglaaGreatDoor

/- Floats that are finite, by bounds. -/
namespace Go.Proofs.YtbnicnhkakbglaaGreatDoor
namespace Fq
open Ieee

/-- A number below 2 ^ (B + 1). -/
def Lo (B : Int) (x : Nat) : Prop := ∃ s m p, FloatKind.f64.format.read x = .number s m p ∧ p + (m.log2 : Int) ≤ B
/-- Finite, by its bits; infinite, by its bits. -/
def Fnt (x : Nat) : Prop := x % 9223372036854775808 < 9218868437227405312
def Ift (x : Nat) : Prop := x % 9223372036854775808 = 9218868437227405312
theorem fl : FloatKind.f64.format.leastPlace = -1074 := by decide
theorem ff : FloatKind.f64.format.fractionBits = 52 := by decide
theorem Lo.mono {A B : Int} {x : Nat} (h : Lo A x) (hAB : A ≤ B) : Lo B x := by
  obtain ⟨s, m, p, h1, h2⟩ := h
  exact ⟨s, m, p, h1, by omega⟩
theorem Lo.fin {B : Int} {x : Nat} (h : Lo B x) : Fnt x := by
  obtain ⟨s, m, p, h, _⟩ := h
  unfold Fnt
  unfold Format.read at h
  simp only [fw, fb, fi] at h
  split at h
  · omega
  · split at h
    · assumption
    · split at h <;> cases h
theorem log2_le {m k : Nat} (h : m < 2 ^ (k + 1)) : m.log2 ≤ k := by
  by_cases hm : m = 0
  · subst hm; simp
  · have := (Nat.log2_lt hm).2 h
    omega
theorem lo_rung (s : Bool) (r : Nat) (E : Nat) (h : r < (E + 1) * 4503599627370496) (hE : E < 2046) : Lo ((E : Int) - 1022) (FloatKind.f64.format.word s r) := by
  unfold Lo Format.read Format.word
  simp only [fw, fb, fi, fl]
  have e1 : (if s = true then 9223372036854775808 + r else r) % 9223372036854775808 = r := by cases s <;> simp <;> omega
  rw [e1]
  by_cases h1 : r < 4503599627370496
  · rw [if_pos h1]
    refine ⟨_, _, _, rfl, ?_⟩
    have := log2_le (m := r) (k := 51) (by omega)
    omega
  · rw [if_neg h1, if_pos (by omega)]
    refine ⟨_, _, _, rfl, ?_⟩
    have := log2_le (m := 4503599627370496 + r % 4503599627370496) (k := 52) (by omega)
    have : r / 4503599627370496 ≤ E := by omega
    omega
theorem cut_le (s : Bool) (n d : Nat) (h : n < 2 ^ (53 + d)) : Toward.even.cut s n d ≤ 2 ^ 53 := by
  unfold Toward.cut
  have hq : ∀ g, g = 1 <<< min d (n.log2 + 2) → n / g < 2 ^ 53 := by
    intro g hg
    rw [Nat.one_shiftLeft] at hg
    rw [hg, Nat.div_lt_iff_lt_mul (Nat.pow_pos (by decide)), ← Nat.pow_add]
    by_cases hd : d ≤ n.log2 + 2
    · rw [Nat.min_eq_left hd]; exact h
    · rw [Nat.min_eq_right (by omega)]
      by_cases hn : n = 0
      · subst hn; exact Nat.pow_pos (by decide)
      · have h1 := (Nat.log2_lt hn).1 (Nat.lt_succ_self _)
        exact Nat.lt_of_lt_of_le h1 (Nat.pow_le_pow_right (by decide) (by omega))
  have h1 := hq _ rfl
  dsimp only
  generalize n / 1 <<< min d (n.log2 + 2) = a at *
  generalize (decide (1 <<< min d (n.log2 + 2) < 2 * (n % 1 <<< min d (n.log2 + 2))) || 1 <<< min d (n.log2 + 2) == 2 * (n % 1 <<< min d (n.log2 + 2)) && a % 2 == 1) = b
  have hb : b.toNat ≤ 1 := by cases b <;> decide
  omega
theorem lo_nearest (s : Bool) (m : Nat) (p B : Int) (h : p + (m.log2 : Int) ≤ B) (hB : -900 ≤ B) (hB2 : B ≤ 900) : Lo (B + 2) (FloatKind.f64.format.nearest s m p) := by
  unfold Format.nearest
  by_cases hm : m = 0
  · rw [if_pos hm]
    exact (lo_rung s 0 0 (by decide) (by decide)).mono (by omega)
  · rw [if_neg hm]
    simp only [ff, fl, fb, fi]
    obtain ⟨l, hl⟩ : ∃ l, l = max (p + (m.log2 : Int) - (52 : Nat)) (-1074) := ⟨_, rfl⟩
    rw [← hl]
    have hl1 : -1074 ≤ l := by omega
    have hl2 : l ≤ B - 52 := by omega
    have hc : Toward.even.cut s (m <<< (p - l).toNat) (l - p).toNat ≤ 2 ^ 53 := by
      refine cut_le s _ _ ?_
      rw [Nat.shiftLeft_eq]
      have h1 := (Nat.log2_lt hm).1 (Nat.lt_succ_self _)
      refine Nat.lt_of_lt_of_le (Nat.mul_lt_mul_of_pos_right h1 (Nat.pow_pos (by decide))) ?_
      rw [← Nat.pow_add]
      exact Nat.pow_le_pow_right (by decide) (by omega)
    refine (lo_rung s _ (l + 1074 + 2).toNat ?_ (by omega)).mono (by omega)
    have e : ((l + 1074 + 2).toNat : Nat) = (l - -1074).toNat + 2 := by omega
    rw [e]
    generalize Toward.even.cut s (m <<< (p - l).toNat) (l - p).toNat = c at *
    generalize (l - -1074).toNat = k at *
    omega
theorem lo_write {d : Datum} {s m p} (hd : d = .number s m p) (B : Int) (h : p + (m.log2 : Int) ≤ B) (hB : -900 ≤ B) (hB2 : B ≤ 900) : Lo (B + 2) (FloatKind.f64.format.write d) := by
  subst hd
  exact lo_nearest s m p B h hB hB2
theorem lo_int (n : Int) (hn : n.natAbs < 2 ^ 64) : Lo 65 (floatOfInt .f64 n) := by
  refine lo_write (d := .number (n < 0) n.natAbs 0) rfl 63 ?_ (by omega) (by omega)
  have := log2_le (m := n.natAbs) (k := 63) hn
  omega
theorem log2_mul (m n : Nat) : (m * n).log2 ≤ m.log2 + n.log2 + 1 := by
  by_cases hm : m = 0
  · subst hm; simp
  by_cases hn : n = 0
  · subst hn; simp
  have h1 := (Nat.log2_lt hm).1 (Nat.lt_succ_self _)
  have h2 := (Nat.log2_lt hn).1 (Nat.lt_succ_self _)
  refine log2_le ?_
  calc m * n < 2 ^ (m.log2 + 1) * 2 ^ (n.log2 + 1) := Nat.mul_lt_mul_of_lt_of_lt h1 h2
    _ = 2 ^ (m.log2 + n.log2 + 1 + 1) := by rw [← Nat.pow_add]; congr 1; omega
theorem lo_mul {x y r : Nat} {A B : Int} (hx : Lo A x) (hy : Lo B y) (hA : -400 ≤ A) (hA2 : A ≤ 400) (hB : -400 ≤ B) (hB2 : B ≤ 400) (h : floatBits .mul .f64 x y = some r) : Lo (A + B + 3) r := by
  obtain ⟨s, m, p, e, hm⟩ := hx
  obtain ⟨t, n, q, e2, hn⟩ := hy
  have h' : FloatKind.f64.format.mul x y = some r := h
  unfold Format.mul at h'
  rw [e, e2] at h'
  injection h' with h'
  rw [← h']
  have := log2_mul m n
  exact (lo_write rfl (A + B + 1) (by omega) (by omega) (by omega)).mono (by omega)
theorem lo_neg {x : Nat} {B : Int} (hx : Lo B x) : Lo B (x ^^^ 2 ^ 63) := by
  obtain ⟨s, m, p, h, hB⟩ := hx
  unfold Lo Format.read at *
  simp only [fw, fb, fi, fl] at h ⊢
  have e : (x ^^^ 2 ^ 63) % 9223372036854775808 = x % 9223372036854775808 := by
    rw [show (9223372036854775808 : Nat) = 2 ^ 63 from rfl, Nat.xor_mod_two_pow, Nat.mod_self, Nat.xor_zero]
  rw [e]
  split at h
  · rename_i h1
    injection h with a b c
    rw [if_pos h1]
    exact ⟨_, _, _, rfl, by rw [b, c]; exact hB⟩
  · rename_i h1
    rw [if_neg h1]
    split at h
    · rename_i h2
      injection h with a b c
      rw [if_pos h2]
      exact ⟨_, _, _, rfl, by rw [b, c]; exact hB⟩
    · split at h <;> cases h
/-- A power of ten of the table. -/
def Pw (y : Nat) : Prop := ∃ s n q, FloatKind.f64.format.read y = .number s n q ∧ n ≠ 0 ∧ 0 ≤ q + (n.log2 : Int) ∧ q + (n.log2 : Int) ≤ 74
theorem Pw.lo {y : Nat} (h : Pw y) : Lo 74 y := by
  obtain ⟨s, n, q, h1, _, _, h2⟩ := h
  exact ⟨s, n, q, h1, h2⟩
theorem Pw.nz {y : Nat} (h : Pw y) : Nz y := by
  obtain ⟨s, n, q, h1, h2, _⟩ := h
  exact ⟨s, n, q, h1, h2⟩
theorem lo_div {x y r : Nat} {A : Int} (hx : Lo A x) (hy : Pw y) (hA : -400 ≤ A) (hA2 : A ≤ 400) (h : floatBits .quo .f64 x y = some r) : Lo (A + 3) r := by
  obtain ⟨s, m, p, e, hm⟩ := hx
  obtain ⟨t, n, q, e2, hn, hq, _⟩ := hy
  have h' : FloatKind.f64.format.div x y = some r := h
  unfold Format.div at h'
  rw [e, e2] at h'
  simp only [Datum.quotient, if_neg hn, ff] at h'
  injection h' with h'
  rw [← h']
  refine (lo_write rfl (A + 1) ?_ (by omega) (by omega)).mono (by omega)
  obtain ⟨M, hM⟩ : ∃ M, M = 52 + 2 + n.log2 - m.log2 := ⟨_, rfl⟩
  rw [← hM]
  have k : (2 * (m <<< M / n) + (m <<< M % n != 0).toNat).log2 ≤ m.log2 + 1 + M - n.log2 := by
    refine log2_le ?_
    have hb : (m <<< M % n != 0).toNat ≤ 1 := by cases (m <<< M % n != 0) <;> decide
    have hd : m <<< M / n < 2 ^ (m.log2 + 1 + M - n.log2) := by
      rw [Nat.div_lt_iff_lt_mul (by omega), Nat.shiftLeft_eq]
      have h1 : m < 2 ^ (m.log2 + 1) := by
        by_cases hm0 : m = 0
        · subst hm0; exact Nat.pow_pos (by decide)
        · exact (Nat.log2_lt hm0).1 (Nat.lt_succ_self _)
      have h2 : 2 ^ n.log2 ≤ n := Nat.log2_self_le hn
      calc m * 2 ^ M < 2 ^ (m.log2 + 1) * 2 ^ M := Nat.mul_lt_mul_of_pos_right h1 (Nat.pow_pos (by decide))
        _ = 2 ^ (m.log2 + 1 + M - n.log2) * 2 ^ n.log2 := by rw [← Nat.pow_add, ← Nat.pow_add]; congr 1; omega
        _ ≤ 2 ^ (m.log2 + 1 + M - n.log2) * n := Nat.mul_le_mul_left _ h2
    rw [Nat.pow_succ]
    omega
  omega
end Fq
end Go.Proofs.YtbnicnhkakbglaaGreatDoor

/- A float less itself. -/
namespace Go.Proofs.YtbnicnhkakbglaaGreatDoor
open Go.RowKit
namespace Vw
open Ieee Fq

theorem cmp_self (x : Int) : compare x x = .eq := by simp [compare, compareOfLessAndEq]
theorem read_fin {n : Nat} (h : Fnt n) : ∃ s m p, FloatKind.f64.format.read n = .number s m p := by
  unfold Fnt at h
  unfold Format.read
  simp only [fw, fb, fi, h, if_true]
  split <;> exact ⟨_, _, _, rfl⟩
theorem read_inf {n : Nat} (h : n % 9223372036854775808 = 9218868437227405312) : ∃ s, FloatKind.f64.format.read n = .infinity s := by
  unfold Format.read
  simp only [fw, fb, fi, h]
  exact ⟨_, rfl⟩
theorem read_nan {n : Nat} (h : 9218868437227405312 < n % 9223372036854775808) : ∃ s t, FloatKind.f64.format.read n = .nan s t := by
  unfold Format.read
  simp only [fw, fb, fi]
  rw [if_neg (by omega), if_neg (by omega), if_neg (by omega)]
  exact ⟨_, _, rfl⟩
theorem ord_nan {n m : Nat} (h : 9218868437227405312 < n % 9223372036854775808) : FloatKind.f64.format.order n m = none := by
  obtain ⟨s, t, e⟩ := read_nan h
  unfold Format.order
  rw [e]
  rfl
theorem sub_fin {n : Nat} (h : Fnt n) : floatBits .sub .f64 n n = some 0 := by
  obtain ⟨s, m, p, e⟩ := read_fin h
  show FloatKind.f64.format.sub n n = some 0
  unfold Format.sub
  rw [e]
  simp only [Datum.opposite, Datum.sum]
  have h0 : Ieee.signed s m (p - min p p).toNat + Ieee.signed (!s) m (p - min p p).toNat = 0 := by
    cases s <;> simp [Ieee.signed] <;> omega
  rw [h0, if_pos rfl]
  have e1 : (s && !s) = false := by cases s <;> rfl
  rw [e1]
  simp only [Option.map_some, Int.natAbs_zero]
  congr 1
theorem sub_inf {n : Nat} (h : n % 9223372036854775808 = 9218868437227405312) : floatBits .sub .f64 n n = none := by
  obtain ⟨s, e⟩ := read_inf h
  show FloatKind.f64.format.sub n n = none
  unfold Format.sub
  rw [e]
  simp only [Datum.opposite, Datum.sum]
  cases s <;> rfl

theorem nan_cut (t m : Nat) : FloatKind.f64.format.order ((t % 2) * 2 ^ 63 + 0x7ff0000000000000 + 1 + (t / 2) % (2 ^ 52 - 1)) m = none := ord_nan (by
  have e4 : ((t % 2) * 2 ^ 63 + 0x7ff0000000000000 + 1 + (t / 2) % (2 ^ 52 - 1)) % 9223372036854775808 = 0x7ff0000000000000 + 1 + (t / 2) % (2 ^ 52 - 1) := by
    have hq : (t / 2) % (2 ^ 52 - 1) < 2 ^ 52 - 1 := Nat.mod_lt _ (by decide)
    generalize (t / 2) % (2 ^ 52 - 1) = q at *
    omega
  rw [e4]
  omega)
theorem sub_draws {n : Nat} (h : n % 9223372036854775808 = 9218868437227405312) (w : World) :
    ∃ r, (binOp .sub 63 (.float .f64 n) (.float .f64 n)).run Tryz.prog w = .ok (.float .f64 r) w.drew ∧ FloatKind.f64.format.order r 0 = none := by
  have h := sub_inf h
  refine ⟨_, ?_, nan_cut (w.tape w.drawn (.nanBits .f64 n n)) 0⟩
  unfold floatBits at h
  simp only at h
  simp [binOp, Op.floatArith, h, Question.forced, Question.cut]
end Vw
end Go.Proofs.YtbnicnhkakbglaaGreatDoor
