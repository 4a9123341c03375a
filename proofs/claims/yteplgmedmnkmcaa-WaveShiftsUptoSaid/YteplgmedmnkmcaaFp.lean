/- Floats that hold whole numbers: their sums are exact as long as they stay small. -/
import Derived.Laws.FloatArith
namespace Go.Proofs.Yteplgmedmnkmcaa
namespace Fp
open Ieee

/-- The datum is the number k. -/
def IsD (d : Datum) (k : Int) : Prop := ∃ s m p, d = .number s m p ∧ -1074 ≤ p ∧ signed s m (p + 1074).toNat = k * 2 ^ 1074
/-- The float's bits are those of the number k (of a nought of either sign). -/
def IsI (x : Nat) (k : Int) : Prop := IsD (FloatKind.f64.format.read x) k

theorem fw : FloatKind.f64.format.signWeight = 2 ^ 63 := by decide
theorem fb : FloatKind.f64.format.binade = 2 ^ 52 := by decide
theorem fi : FloatKind.f64.format.infRung = 2047 * 2 ^ 52 := by decide
theorem fl : FloatKind.f64.format.leastPlace = -1074 := by decide
theorem ff : FloatKind.f64.format.fractionBits = 52 := by decide

theorem signed_eq (s : Bool) (m u : Nat) : signed s m u = signed s m 0 * 2 ^ u := by
  unfold signed
  cases s <;> simp [Nat.shiftLeft_eq, Int.neg_mul]
theorem signed_abs (s : Bool) (m u : Nat) : (signed s m u).natAbs = m * 2 ^ u := by
  unfold signed
  cases s <;> simp [Nat.shiftLeft_eq, Int.natAbs_mul, Int.natAbs_pow]

theorem read_word (s : Bool) (r : Nat) (h1 : 2 ^ 52 ≤ r) (h2 : r < 2047 * 2 ^ 52) :
    FloatKind.f64.format.read (FloatKind.f64.format.word s r) = .number s (2 ^ 52 + r % 2 ^ 52) (-1074 + (r / 2 ^ 52 - 1 : Nat)) := by
  unfold Format.read Format.word
  simp only [fw, fb, fi, fl]
  have e1 : (if s = true then 2 ^ 63 + r else r) % 2 ^ 63 = r := by cases s <;> simp <;> omega
  have e2 : ((if s = true then 2 ^ 63 + r else r) / 2 ^ 63 % 2 == 1) = s := by
    cases s
    · simp; omega
    · simp
      omega
  rw [e1, e2, if_neg (by omega), if_pos h2]
theorem read_zero (s : Bool) : FloatKind.f64.format.read (FloatKind.f64.format.word s 0) = .number s 0 (-1074) := by
  cases s <;> rfl

theorem cut_exact (s : Bool) (n d : Nat) (hd : d ≤ n.log2) (h : n % 2 ^ d = 0) : Toward.even.cut s n d = n / 2 ^ d := by
  unfold Toward.cut
  have e : min d (n.log2 + 2) = d := by omega
  simp only [e, Nat.shiftLeft_eq, Nat.one_mul, h]
  have hp : 0 < 2 ^ d := Nat.two_pow_pos d
  have : ¬ (2 ^ d < 2 * 0) := by omega
  simp [this]

theorem two_pow_log2 {m : Nat} (h : m ≠ 0) : 2 ^ m.log2 ≤ m ∧ m < 2 ^ (m.log2 + 1) := ⟨Nat.log2_self_le h, Nat.lt_log2_self⟩
theorem log2_unique {m L : Nat} (h1 : 2 ^ L ≤ m) (h2 : m < 2 ^ (L + 1)) : m.log2 = L := by
  have h0 : m ≠ 0 := by have := Nat.two_pow_pos L; omega
  obtain ⟨a, b⟩ := two_pow_log2 h0
  have c1 : L < m.log2 + 1 := (Nat.pow_lt_pow_iff_right (by decide)).1 (Nat.lt_of_le_of_lt h1 b)
  have c2 : m.log2 < L + 1 := (Nat.pow_lt_pow_iff_right (by decide)).1 (Nat.lt_of_le_of_lt a h2)
  omega

/-- What is kept of the digits, where nothing but noughts is dropped. -/
theorem kept_exact (s : Bool) (m u K q : Nat) (c : Nat) (hm : m ≠ 0) (hq : q ≤ 52) (hL : m.log2 + u = q + c) (h : m * 2 ^ u = K * 2 ^ c) :
    ∃ kept, Toward.even.cut s (m <<< (52 - m.log2)) (m.log2 - 52) = kept ∧ 2 ^ 52 ≤ kept ∧ kept < 2 ^ 53 ∧ (c ≥ 52 → kept * 2 ^ (q + c - 52) = K * 2 ^ c) := by
  obtain ⟨a, b⟩ := two_pow_log2 hm
  generalize hLL : m.log2 = L at *
  by_cases h52 : L ≤ 52
  · have hs : m <<< (52 - L) = m * 2 ^ (52 - L) := Nat.shiftLeft_eq _ _
    have hk1 : 2 ^ 52 ≤ m * 2 ^ (52 - L) := by
      have := Nat.mul_le_mul_right (2 ^ (52 - L)) a
      rw [← Nat.pow_add, show L + (52 - L) = 52 from by omega] at this
      exact this
    have hk2 : m * 2 ^ (52 - L) < 2 ^ 53 := by
      have := Nat.mul_lt_mul_of_pos_right b (Nat.two_pow_pos (52 - L))
      rw [← Nat.pow_add, show L + 1 + (52 - L) = 53 from by omega] at this
      exact this
    refine ⟨m * 2 ^ (52 - L), ?_, hk1, hk2, fun hc => ?_⟩
    · rw [hs, show L - 52 = 0 from by omega]
      rw [cut_exact s _ 0 (Nat.zero_le _) (by simp [Nat.mod_one])]
      simp
    · rw [Nat.mul_assoc, ← Nat.pow_add, show 52 - L + (q + c - 52) = u from by omega, h]
  · have hs : m <<< (52 - L) = m := by rw [show 52 - L = 0 from by omega]; rfl
    have hmK : m = K * 2 ^ (L - q) := by
      have e : K * 2 ^ c = K * 2 ^ (L - q) * 2 ^ u := by rw [Nat.mul_assoc, ← Nat.pow_add, show L - q + u = c from by omega]
      rw [e] at h
      exact Nat.eq_of_mul_eq_mul_right (Nat.two_pow_pos u) h
    have hd : m = K * 2 ^ (52 - q) * 2 ^ (L - 52) := by
      rw [Nat.mul_assoc, ← Nat.pow_add, show 52 - q + (L - 52) = L - q from by omega]; exact hmK
    have hdiv : m / 2 ^ (L - 52) = K * 2 ^ (52 - q) := by
      conv => lhs; rw [hd]
      exact Nat.mul_div_cancel _ (Nat.two_pow_pos _)
    refine ⟨K * 2 ^ (52 - q), ?_, ?_, ?_, fun hc => ?_⟩
    · rw [hs, cut_exact s m (L - 52) (by rw [hLL]; omega) (by rw [hd]; exact Nat.mul_mod_left _ _), hdiv]
    · have e : 2 ^ 52 * 2 ^ (L - 52) ≤ K * 2 ^ (52 - q) * 2 ^ (L - 52) := by
        rw [← hd, ← Nat.pow_add, show 52 + (L - 52) = L from by omega]; exact a
      exact Nat.le_of_mul_le_mul_right e (Nat.two_pow_pos _)
    · have e : K * 2 ^ (52 - q) * 2 ^ (L - 52) < 2 ^ 53 * 2 ^ (L - 52) := by
        rw [← hd, ← Nat.pow_add, show 53 + (L - 52) = L + 1 from by omega]; exact b
      exact Nat.lt_of_mul_lt_mul_right e
    · rw [Nat.mul_assoc, ← Nat.pow_add, show 52 - q + (q + c - 52) = c from by omega]

theorem rung_facts (Q kept : Nat) (h1 : 4503599627370496 ≤ kept) (h2 : kept < 9007199254740992) (hQ : Q ≤ 1074) :
    Q * 4503599627370496 + kept ≤ 9218868437227405312 ∧ 4503599627370496 ≤ Q * 4503599627370496 + kept ∧ Q * 4503599627370496 + kept < 9218868437227405312 ∧
    4503599627370496 + (Q * 4503599627370496 + kept) % 4503599627370496 = kept ∧ (Q * 4503599627370496 + kept) / 4503599627370496 = Q + 1 := by
  refine ⟨by omega, by omega, by omega, by omega, by omega⟩

/-- A whole number below 2^53 is written exactly. -/
theorem nearest_exact (s : Bool) (m : Nat) (p : Int) (K c : Nat) (hc : c = 1074) (hK : K < 2 ^ 53) (hp : -1074 ≤ p) (h : m * 2 ^ (p + 1074).toNat = K * 2 ^ c) :
    ∃ m' p', FloatKind.f64.format.read (FloatKind.f64.format.nearest s m p) = .number s m' p' ∧ -1074 ≤ p' ∧ m' * 2 ^ (p' + 1074).toNat = K * 2 ^ c := by
  unfold Format.nearest
  by_cases hm : m = 0
  · subst hm
    rw [if_pos rfl, read_zero]
    exact ⟨0, -1074, rfl, by decide, by rw [← h]; simp⟩
  · rw [if_neg hm]
    obtain ⟨u, hu⟩ : ∃ u : Nat, (p + 1074).toNat = u := ⟨_, rfl⟩
    have hpu : p = (u : Int) - 1074 := by omega
    rw [hu] at h
    have hK0 : K ≠ 0 := by
      rintro rfl
      have : 0 < m * 2 ^ u := Nat.mul_pos (by omega) (Nat.two_pow_pos u)
      omega
    obtain ⟨a, b⟩ := two_pow_log2 hm
    obtain ⟨a', b'⟩ := two_pow_log2 hK0
    have hq : K.log2 ≤ 52 := by
      have : K.log2 < 53 := (Nat.pow_lt_pow_iff_right (by decide)).1 (Nat.lt_of_le_of_lt a' hK)
      omega
    have hL : m.log2 + u = K.log2 + c := by
      have l1 : (m * 2 ^ u).log2 = m.log2 + u := log2_unique (by rw [Nat.pow_add]; exact Nat.mul_le_mul_right _ a) (by rw [show m.log2 + u + 1 = (m.log2 + 1) + u from by omega, Nat.pow_add]; exact Nat.mul_lt_mul_of_pos_right b (Nat.two_pow_pos u))
      have l2 : (K * 2 ^ c).log2 = K.log2 + c := log2_unique (by rw [Nat.pow_add]; exact Nat.mul_le_mul_right _ a') (by rw [show K.log2 + c + 1 = (K.log2 + 1) + c from by omega, Nat.pow_add]; exact Nat.mul_lt_mul_of_pos_right b' (Nat.two_pow_pos c))
      rw [← l1, ← l2, h]
    obtain ⟨kept, hk, k1, k2, k3⟩ := kept_exact s m u K K.log2 c hm hq hL h
    have hlast : max (p + (m.log2 : Int) - (FloatKind.f64.format.fractionBits : Int)) FloatKind.f64.format.leastPlace = (K.log2 : Int) - 52 := by
      rw [ff, fl]; omega
    simp only [hlast]
    rw [show (p - ((K.log2 : Int) - 52)).toNat = 52 - m.log2 from by omega, show ((K.log2 : Int) - 52 - p).toNat = m.log2 - 52 from by omega, hk, fb, fi, fl]
    rw [show ((K.log2 : Int) - 52 - -1074).toNat = K.log2 + 1022 from by omega]
    obtain ⟨r1, r2, r3, r4, r5⟩ := rung_facts (K.log2 + 1022) kept (by simpa using k1) (by simpa using k2) (by omega)
    have hp52 : (2 : Nat) ^ 52 = 4503599627370496 := by decide
    have hp47 : 2047 * (2 : Nat) ^ 52 = 9218868437227405312 := by decide
    generalize hR : (K.log2 + 1022) * 2 ^ 52 + kept = R
    rw [hp52] at hR
    rw [hR] at r1 r2 r3 r4 r5
    rw [Nat.min_eq_left (by rw [hp47]; exact r1), read_word s R (by rw [hp52]; exact r2) (by rw [hp47]; exact r3)]
    refine ⟨_, _, rfl, by omega, ?_⟩
    rw [hp52, r4, r5]
    rw [show (-1074 + ((K.log2 + 1022 + 1 - 1 : Nat) : Int) + 1074).toNat = K.log2 + c - 52 from by omega]
    exact k3 (by omega)

theorem signed_neg_iff (s : Bool) (m u : Nat) : signed s m u = (if s then -1 else 1) * ((m * 2 ^ u : Nat) : Int) := by
  unfold signed
  cases s <;> simp [Nat.shiftLeft_eq]

/-- A datum that is the number k is written so that it is read as k again. -/
theorem write_exact {d : Datum} {k : Int} (h : IsD d k) (hk : k.natAbs < 2 ^ 53) : IsI (FloatKind.f64.format.write d) k := by
  obtain ⟨s, m, p, rfl, hp, hv⟩ := h
  obtain ⟨c, hc⟩ : ∃ c : Nat, c = 1074 := ⟨_, rfl⟩
  rw [← hc] at hv
  have ha : m * 2 ^ (p + 1074).toNat = k.natAbs * 2 ^ c := by
    rw [← signed_abs s m, hv, Int.natAbs_mul, Int.natAbs_pow]; rfl
  obtain ⟨m', p', hr, hp', hv'⟩ := nearest_exact s m p k.natAbs c hc hk hp ha
  refine ⟨s, m', p', hr, hp', ?_⟩
  rw [signed_neg_iff, hv', ← ha, ← signed_neg_iff, hv, hc]

theorem sum_exact {d e : Datum} {k l : Int} (h : IsD d k) (h' : IsD e l) : ∃ r, d.sum e = some r ∧ IsD r (k + l) := by
  obtain ⟨s, m, i, rfl, hi, hv⟩ := h
  obtain ⟨t, n, j, rfl, hj, hv'⟩ := h'
  refine ⟨_, rfl, _, _, _, rfl, by omega, ?_⟩
  obtain ⟨c, hc⟩ : ∃ c : Nat, c = 1074 := ⟨_, rfl⟩
  rw [← hc] at hv hv' ⊢
  generalize hb : min i j = b
  have e1 : signed s m (i - b).toNat * 2 ^ (b + 1074).toNat = k * 2 ^ c := by
    rw [signed_eq, Int.mul_assoc, ← Int.pow_add, show (i - b).toNat + (b + 1074).toNat = (i + 1074).toNat from by omega, ← signed_eq, hv]
  have e2 : signed t n (j - b).toNat * 2 ^ (b + 1074).toNat = l * 2 ^ c := by
    rw [signed_eq, Int.mul_assoc, ← Int.pow_add, show (j - b).toNat + (b + 1074).toNat = (j + 1074).toNat from by omega, ← signed_eq, hv']
  generalize signed s m (i - b).toNat = x at *
  generalize signed t n (j - b).toNat = y at *
  rw [Int.add_mul, ← e1, ← e2, ← Int.add_mul]
  generalize x + y = z
  rw [signed_neg_iff]
  by_cases hz : z = 0
  · subst hz; simp
  · rw [if_neg hz]
    by_cases hn : z < 0
    · simp only [hn, decide_true, if_true, Int.natCast_mul, Int.natCast_pow]
      rw [show ((z.natAbs : Nat) : Int) = -z from by omega]
      simp [Int.neg_mul]
    · simp only [hn, decide_false, Int.natCast_mul, Int.natCast_pow]
      rw [show ((z.natAbs : Nat) : Int) = z from by omega]
      simp

theorem opp_exact {d : Datum} {k : Int} (h : IsD d k) : IsD d.opposite (-k) := by
  obtain ⟨s, m, i, rfl, hi, hv⟩ := h
  refine ⟨!s, m, i, rfl, hi, ?_⟩
  rw [Int.neg_mul, ← hv]
  unfold signed
  cases s <;> simp

theorem add_exact {x y : Nat} {k l : Int} (h : IsI x k) (h' : IsI y l) (hb : (k + l).natAbs < 2 ^ 53) : ∃ r, floatBits .add .f64 x y = some r ∧ IsI r (k + l) := by
  obtain ⟨r, hr, hd⟩ := sum_exact h h'
  exact ⟨_, by show FloatKind.f64.format.add x y = _; unfold Format.add; rw [hr]; rfl, write_exact hd hb⟩
theorem sub_exact {x y : Nat} {k l : Int} (h : IsI x k) (h' : IsI y l) (hb : (k - l).natAbs < 2 ^ 53) : ∃ r, floatBits .sub .f64 x y = some r ∧ IsI r (k - l) := by
  obtain ⟨r, hr, hd⟩ := sum_exact h (opp_exact h')
  exact ⟨_, by show FloatKind.f64.format.sub x y = _; unfold Format.sub; rw [hr]; rfl, write_exact hd hb⟩
theorem ofInt_exact (n : Int) (hb : n.natAbs < 2 ^ 53) : IsI (floatOfInt .f64 n) n := by
  refine write_exact (d := .number (n < 0) n.natAbs 0) ⟨_, _, _, rfl, by decide, ?_⟩ hb
  rw [signed_neg_iff]
  obtain ⟨c, hc⟩ : ∃ c : Nat, c = 1074 := ⟨_, rfl⟩
  rw [show ((0 : Int) + 1074).toNat = 1074 from rfl, ← hc]
  by_cases hn : n < 0
  · simp only [hn, decide_true, if_true, Int.natCast_mul, Int.natCast_pow]
    rw [show ((n.natAbs : Nat) : Int) = -n from by omega]
    simp [Int.neg_mul]
  · simp only [hn, decide_false, Int.natCast_mul, Int.natCast_pow]
    rw [show ((n.natAbs : Nat) : Int) = n from by omega]
    simp
theorem zero_exact : IsI 0 0 := ⟨false, 0, -1074, read_zero false, by decide, by rw [Int.zero_mul]; simp [signed]⟩

theorem order_eq {x y : Nat} {k : Int} (h : IsI x k) (h' : IsI y k) : FloatKind.f64.format.order x y = some .eq := by
  obtain ⟨s, m, i, hx, hi, hv⟩ := h
  obtain ⟨t, n, j, hy, hj, hv'⟩ := h'
  unfold Format.order
  rw [hx, hy]
  show some (compare (signed s m (i - min i j).toNat) (signed t n (j - min i j).toNat)) = _
  obtain ⟨c, hc⟩ : ∃ c : Nat, c = 1074 := ⟨_, rfl⟩
  rw [← hc] at hv hv'
  generalize hb : min i j = b
  have e1 : signed s m (i - b).toNat * 2 ^ (b + 1074).toNat = k * 2 ^ c := by
    rw [signed_eq, Int.mul_assoc, ← Int.pow_add, show (i - b).toNat + (b + 1074).toNat = (i + 1074).toNat from by omega, ← signed_eq, hv]
  have e2 : signed t n (j - b).toNat * 2 ^ (b + 1074).toNat = k * 2 ^ c := by
    rw [signed_eq, Int.mul_assoc, ← Int.pow_add, show (j - b).toNat + (b + 1074).toNat = (j + 1074).toNat from by omega, ← signed_eq, hv']
  have e3 : signed s m (i - b).toNat = signed t n (j - b).toNat := Int.eq_of_mul_eq_mul_right (by have : (0 : Int) < 2 ^ (b + 1074).toNat := Int.pow_pos (by decide); omega) (e1.trans e2.symm)
  rw [e3]
  simp

theorem xor_mod (x : Nat) : (x ^^^ 2 ^ 63) % 2 ^ 63 = x % 2 ^ 63 := by
  rw [Nat.xor_mod_two_pow, Nat.mod_self, Nat.xor_zero]
theorem xor_one (y : Nat) : (y ^^^ 1) % 2 = 1 - y % 2 := by
  have h := Nat.xor_mod_two_pow (a := y) (b := 1) (n := 1)
  rw [Nat.pow_one] at h
  rw [h]
  rcases Nat.mod_two_eq_zero_or_one y with e | e <;> rw [e] <;> rfl
theorem xor_div (x : Nat) : (x ^^^ 2 ^ 63) / 2 ^ 63 % 2 = 1 - x / 2 ^ 63 % 2 := by
  rw [Nat.xor_div_two_pow, Nat.div_self (Nat.two_pow_pos 63), xor_one]
theorem read_neg (x : Nat) : FloatKind.f64.format.read (Op.negFloat .f64 x) = (FloatKind.f64.format.read x).opposite := by
  have e : Op.negFloat .f64 x = x ^^^ 2 ^ 63 := rfl
  rw [e]
  unfold Format.read
  simp only [fw, xor_mod, xor_div]
  have e2 : (1 - x / 2 ^ 63 % 2 == 1) = !(x / 2 ^ 63 % 2 == 1) := by
    rcases Nat.mod_two_eq_zero_or_one (x / 2 ^ 63) with h | h <;> rw [h] <;> rfl
  rw [e2]
  split
  · rfl
  · split
    · rfl
    · split <;> rfl
theorem neg_exact {x : Nat} {k : Int} (h : IsI x k) : IsI (Op.negFloat .f64 x) (-k) := by
  show IsD _ _
  rw [read_neg]
  exact opp_exact h
end Fp
end Go.Proofs.Yteplgmedmnkmcaa
