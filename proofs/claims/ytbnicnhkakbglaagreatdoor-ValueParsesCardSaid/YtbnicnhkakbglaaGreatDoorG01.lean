import Derived.Test.YtbnicnhkakbglaaGreatDoorG00

/- Digits compared from the left: plain mathematics. -/
namespace Go.Proofs.YtbnicnhkakbglaaGreatDoor
namespace Dm

theorem top_full (f : Nat) : top f (dlen f) = f := by
  unfold top
  exact Nat.mul_div_cancel _ (p10 _)
theorem top_eq {n f : Nat} (r : Nat) (h : ∀ j, j < r → sdg n j = sdg f j) : top n r = top f r := by
  induction r with
  | zero => rw [top_zero, top_zero]
  | succ r ih => rw [top_succ, top_succ, ih (fun j hj => h j (by omega)), h r (by omega)]
theorem less_top {n f : Nat} {l5 : Nat} (hl : dlen f = l5) (r : Nat) (h : top n r < top f r) : n * 10 ^ l5 < f * 10 ^ dlen n := by
  unfold top at h
  rw [hl] at h
  have g1 : n * 10 ^ r < f * 10 ^ r / 10 ^ l5 * 10 ^ dlen n := (Nat.div_lt_iff_lt_mul (p10 _)).1 h
  have g2 : f * 10 ^ r / 10 ^ l5 * 10 ^ l5 ≤ f * 10 ^ r := Nat.div_mul_le_self _ _
  have g3 : n * 10 ^ r * 10 ^ l5 < f * 10 ^ r / 10 ^ l5 * 10 ^ dlen n * 10 ^ l5 := Nat.mul_lt_mul_of_pos_right g1 (p10 _)
  have g4 : f * 10 ^ r / 10 ^ l5 * 10 ^ dlen n * 10 ^ l5 ≤ f * 10 ^ r * 10 ^ dlen n := by
    rw [Nat.mul_right_comm]
    exact Nat.mul_le_mul_right _ g2
  have g5 : n * 10 ^ l5 * 10 ^ r < f * 10 ^ dlen n * 10 ^ r := by
    rw [Nat.mul_right_comm n, Nat.mul_right_comm f]
    exact Nat.lt_of_lt_of_le g3 g4
  exact Nat.lt_of_mul_lt_mul_right g5
theorem not_less {n f l5 : Nat} (hl : dlen f = l5) (h : ∀ j, j < l5 → sdg n j = sdg f j) : ¬ n * 10 ^ l5 < f * 10 ^ dlen n := by
  have e := top_eq l5 h
  have e2 : top f l5 = f := by rw [← hl]; exact top_full f
  rw [e2] at e
  unfold top at e
  intro hlt
  have : n * 10 ^ l5 / 10 ^ dlen n < f := (Nat.div_lt_iff_lt_mul (p10 _)).2 hlt
  omega
theorem not_less_top {n f l5 : Nat} (hl : dlen f = l5) (r : Nat) (hr : r ≤ l5) (h : top f r < top n r) : ¬ n * 10 ^ l5 < f * 10 ^ dlen n := by
  intro hlt
  have e : top n l5 < f := (Nat.div_lt_iff_lt_mul (p10 _)).2 hlt
  have mono : ∀ d, top f (r + d) < top n (r + d) := by
    intro d
    induction d with
    | zero => exact h
    | succ d ih =>
      rw [show r + (d + 1) = (r + d) + 1 from rfl, top_succ, top_succ]
      have := sdg_lt f (r + d)
      omega
  have := mono (l5 - r)
  rw [show r + (l5 - r) = l5 from by omega] at this
  have e2 : top f l5 = f := by rw [← hl]; exact top_full f
  omega
theorem less_short {n f l5 i : Nat} (hl : dlen f = l5) (hi : i < l5) (hn : dlen n ≤ i) (h : ∀ j, j < i → sdg n j = sdg f j) (h5 : sdg f (l5 - 1) ≠ 0) : n * 10 ^ l5 < f * 10 ^ dlen n := by
  have le : ∀ d, top n (i + d) ≤ top f (i + d) := by
    intro d
    induction d with
    | zero => exact Nat.le_of_eq (top_eq i h)
    | succ d ih =>
      rw [show i + (d + 1) = (i + d) + 1 from rfl, top_succ, top_succ, sdg_past n (i + d) (by omega)]
      omega
  refine less_top hl l5 ?_
  have e := le (l5 - 1 - i)
  rw [show i + (l5 - 1 - i) = l5 - 1 from by omega] at e
  have s1 := top_succ n (l5 - 1)
  have s2 := top_succ f (l5 - 1)
  rw [show l5 - 1 + 1 = l5 from by omega] at s1 s2
  rw [s1, s2, sdg_past n (l5 - 1) (by omega)]
  omega
end Dm
end Go.Proofs.YtbnicnhkakbglaaGreatDoor

/- How far a decimal is shifted until it lies between a half and one: plain mathematics. -/
namespace Go.Proofs.YtbnicnhkakbglaaGreatDoor
namespace Dm

theorem lastNz_zero {x j i : Nat} (h1 : lastNz x j ≤ i) (h2 : i < j) : sdg x i = 0 := by
  induction j with
  | zero => omega
  | succ j ih =>
    unfold lastNz at h1
    split at h1
    · omega
    · rename_i h
      by_cases e : i = j
      · subst e; simpa using h
      · exact ih h1 (by omega)
theorem top_zeros {x r : Nat} : ∀ d : Nat, (∀ i, r ≤ i → i < r + d → sdg x i = 0) → top x (r + d) = top x r * 10 ^ d := by
  intro d
  induction d with
  | zero => intro _; simp
  | succ d ih =>
    intro h
    rw [← Nat.add_assoc, top_succ, ih (fun i h1 h2 => h i h1 (by omega)), h (r + d) (by omega) (by omega), Nat.pow_succ, ← Nat.mul_assoc]
    omega
theorem keep_le {x : Nat} (hx : x ≠ 0) : keep x * 10 ^ dlen x ≤ x * 10 ^ dlen (keep x) := by
  rw [keep_len hx]
  exact Nat.div_mul_le_self _ _
theorem keep_dlen (x : Nat) (hx : x ≠ 0) : dlen (keep x) ≤ 800 := by rw [keep_len hx]; exact lastNz_le _ _
theorem keep_ge {x : Nat} (hx : x ≠ 0) : 9 * x * 10 ^ dlen (keep x) ≤ 10 * keep x * 10 ^ dlen x := by
  rw [keep_len hx]
  have hr := lastNz_le x 800
  have hT : top x 800 = keep x * 10 ^ (800 - lastNz x 800) := by
    have := top_zeros (x := x) (r := lastNz x 800) (800 - lastNz x 800) (fun i h1 h2 => lastNz_zero h1 (by omega))
    rwa [show lastNz x 800 + (800 - lastNz x 800) = 800 from by omega] at this
  have h1 : x * 10 ^ 800 < (top x 800 + 1) * 10 ^ dlen x := by
    have := Nat.lt_div_mul_add (a := x * 10 ^ 800) (b := 10 ^ dlen x) (p10 _)
    rw [Nat.add_mul, Nat.one_mul]
    exact this
  have h2 : 10 ≤ top x 800 := Nat.le_trans (Nat.le_trans (by decide : 10 ≤ 10 ^ 1) (Nat.pow_le_pow_right (by decide) (by decide : 1 ≤ 799))) (top_first hx 799)
  have h3 : 9 * (x * 10 ^ 800) ≤ 10 * top x 800 * 10 ^ dlen x := by
    have h4 : 9 * ((top x 800 + 1) * 10 ^ dlen x) ≤ 10 * top x 800 * 10 ^ dlen x := by
      rw [← Nat.mul_assoc]
      exact Nat.mul_le_mul_right _ (by generalize top x 800 = T at *; omega)
    exact Nat.le_trans (Nat.mul_le_mul_left 9 (Nat.le_of_lt h1)) h4
  rw [hT] at h3
  have e1 : (10 : Nat) ^ 800 = 10 ^ lastNz x 800 * 10 ^ (800 - lastNz x 800) := by rw [← Nat.pow_add]; congr 1; omega
  rw [e1] at h3
  refine Nat.le_of_mul_le_mul_right (c := 10 ^ (800 - lastNz x 800)) ?_ (p10 _)
  calc 9 * x * 10 ^ lastNz x 800 * 10 ^ (800 - lastNz x 800) = 9 * (x * (10 ^ lastNz x 800 * 10 ^ (800 - lastNz x 800))) := by simp only [Nat.mul_assoc]
    _ ≤ _ := h3
    _ = _ := by rw [← Nat.mul_assoc 10, Nat.mul_right_comm]

theorem keep_ge2 {x : Nat} (hx : x ≠ 0) : x * 10 ^ dlen (keep x) * (10 ^ 799 - 1) ≤ keep x * 10 ^ dlen x * 10 ^ 799 := by
  rw [keep_len hx]
  have hr := lastNz_le x 800
  have hT : top x 800 = keep x * 10 ^ (800 - lastNz x 800) := by
    have := top_zeros (x := x) (r := lastNz x 800) (800 - lastNz x 800) (fun i h1 h2 => lastNz_zero h1 (by omega))
    rwa [show lastNz x 800 + (800 - lastNz x 800) = 800 from by omega] at this
  have h1 : x * 10 ^ 800 < (top x 800 + 1) * 10 ^ dlen x := by
    have := Nat.lt_div_mul_add (a := x * 10 ^ 800) (b := 10 ^ dlen x) (p10 _)
    rw [Nat.add_mul, Nat.one_mul]
    exact this
  have h2 : 10 ^ 799 ≤ top x 800 := top_first hx 799
  have e1 : (10 : Nat) ^ 800 = 10 ^ lastNz x 800 * 10 ^ (800 - lastNz x 800) := by rw [← Nat.pow_add]; congr 1; omega
  have hP1 := p10 799
  rw [hT] at h1 h2
  rw [e1] at h1
  obtain ⟨P, hP⟩ : ∃ P, P = 10 ^ 799 := ⟨_, rfl⟩
  rw [← hP] at h2 hP1 ⊢
  clear hP hT e1
  have hZ := p10 (800 - lastNz x 800)
  generalize 10 ^ (800 - lastNz x 800) = Z at *
  generalize keep x = K at *
  generalize 10 ^ lastNz x 800 = Y at *
  generalize 10 ^ dlen x = D at *
  refine Nat.le_of_mul_le_mul_right (c := Z) ?_ hZ
  have h3 : (K * Z + 1) * (P - 1) ≤ K * Z * P := by
    have : (K * Z + 1) * (P - 1) = K * Z * (P - 1) + (P - 1) := by rw [Nat.add_mul, Nat.one_mul]
    rw [this]
    have e2 : K * Z * P = K * Z * (P - 1) + K * Z := by rw [← Nat.mul_succ, Nat.succ_eq_add_one, Nat.sub_add_cancel hP1]
    rw [e2]
    omega
  calc x * Y * (P - 1) * Z = x * (Y * Z) * (P - 1) := by ac_rfl
    _ ≤ (K * Z + 1) * D * (P - 1) := Nat.mul_le_mul_right _ (Nat.le_of_lt h1)
    _ = (K * Z + 1) * (P - 1) * D := by ac_rfl
    _ ≤ K * Z * P * D := Nat.mul_le_mul_right _ h3
    _ = K * D * P * Z := by ac_rfl

/-- Not nought, of at most 800 digits. -/
def Gd (a : De) : Prop := a.n ≠ 0 ∧ dlen a.n ≤ 800
theorem mul2_ne {n : Nat} (h : n ≠ 0) (k : Nat) : n * 2 ^ k ≠ 0 := Nat.mul_ne_zero h (by have := Nat.pow_pos (n := k) (show 0 < 2 by decide); omega)
theorem mul5_ne {n : Nat} (h : n ≠ 0) (k : Nat) : n * 5 ^ k ≠ 0 := Nat.mul_ne_zero h (by have := Nat.pow_pos (n := k) (show 0 < 5 by decide); omega)
theorem Gd.shl {a : De} (h : Gd a) (k : Nat) : Gd (a.shl k) := ⟨keep_ne (mul2_ne h.1 k), keep_dlen _ (mul2_ne h.1 k)⟩
theorem Gd.shr {a : De} (h : Gd a) (k : Nat) : Gd (a.shr k) := ⟨keep_ne (mul5_ne h.1 k), keep_dlen _ (mul5_ne h.1 k)⟩
theorem dlen_mul5 {n : Nat} (h : n ≠ 0) (k : Nat) : dlen n ≤ dlen (n * 5 ^ k) ∧ dlen (n * 5 ^ k) ≤ dlen n + k := by
  refine ⟨dlen_mono (Nat.le_mul_of_pos_right _ (Nat.pow_pos (by decide))), ?_⟩
  have h1 : n * 5 ^ k ≤ n * 10 ^ k := Nat.mul_le_mul_left _ (Nat.pow_le_pow_left (by decide) _)
  have := dlen_mono h1
  rwa [dlen_mul10 h] at this
theorem dlen_mul2 {n : Nat} (h : n ≠ 0) (k : Nat) : dlen n ≤ dlen (n * 2 ^ k) ∧ dlen (n * 2 ^ k) ≤ dlen n + k := by
  refine ⟨dlen_mono (Nat.le_mul_of_pos_right _ (Nat.pow_pos (by decide))), ?_⟩
  have h1 : n * 2 ^ k ≤ n * 10 ^ k := Nat.mul_le_mul_left _ (Nat.pow_le_pow_left (by decide) _)
  have := dlen_mono h1
  rwa [dlen_mul10 h] at this
theorem shr_dp {a : De} (h : Gd a) (k : Nat) : (a.shr k).dp ≤ a.dp ∧ a.dp - k ≤ (a.shr k).dp := by
  have := dlen_mul5 h.1 k
  show a.dp + ((dlen (a.n * 5 ^ k) : Int) - (dlen a.n : Int) - (k : Int)) ≤ a.dp ∧ a.dp - k ≤ a.dp + ((dlen (a.n * 5 ^ k) : Int) - (dlen a.n : Int) - (k : Int))
  omega
theorem shl_dp {a : De} (h : Gd a) (k : Nat) : a.dp ≤ (a.shl k).dp ∧ (a.shl k).dp ≤ a.dp + k := by
  have := dlen_mul2 h.1 k
  show a.dp ≤ a.dp + ((dlen (a.n * 2 ^ k) : Int) - (dlen a.n : Int)) ∧ a.dp + ((dlen (a.n * 2 ^ k) : Int) - (dlen a.n : Int)) ≤ a.dp + k
  omega
/-- How far at once. -/
def pt (m : Nat) : Nat := [1, 3, 6, 9, 13, 16, 19, 23, 26].getD m 27
theorem pt_bound (m : Nat) : 1 ≤ pt m ∧ pt m ≤ 27 := by
  unfold pt
  match m with
  | 0 | 1 | 2 | 3 | 4 | 5 | 6 | 7 | 8 => decide
  | k + 9 => simp
theorem pt_pow (m : Nat) (h : 1 ≤ m) : 2 ^ pt m ≤ 10 ^ m := by
  unfold pt
  match m, h with
  | 1, _ | 2, _ | 3, _ | 4, _ | 5, _ | 6, _ | 7, _ | 8, _ => decide
  | k + 9, _ =>
    have : (10 : Nat) ^ 9 ≤ 10 ^ (k + 9) := Nat.pow_le_pow_right (by decide) (by omega)
    have e : ([1, 3, 6, 9, 13, 16, 19, 23, 26].getD (k + 9) 27) = 27 := by simp
    rw [e]
    have : (2 : Nat) ^ 27 ≤ 10 ^ 9 := by decide
    omega
/-- A round's step again and again. -/
def iter {α : Type} (f : α → α) (a : α) : Nat → α
  | 0 => a
  | j + 1 => f (iter f a j)
theorem iter_comm {α : Type} (f : α → α) (a : α) (j : Nat) : iter f (f a) j = iter f a (j + 1) := by
  induction j with
  | zero => rfl
  | succ j ih => show f (iter f (f a) j) = f (iter f a (j + 1)); rw [ih]
theorem halts {α : Type} (f : α → α) (c : α → Bool) (I : α → Prop) (m : α → Nat) (h : ∀ a, I a → c a = true → I (f a) ∧ m (f a) < m a) (a : α) (ha : I a) :
    ∃ J, c (iter f a J) = false ∧ (∀ j, j < J → c (iter f a j) = true) ∧ ∀ j, j ≤ J → I (iter f a j) := by
  induction hm : m a using Nat.strongRecOn generalizing a with
  | ind k ih =>
    cases hc : c a with
    | false => exact ⟨0, hc, fun j hj => by omega, fun j hj => by rw [show j = 0 from by omega]; exact ha⟩
    | true =>
      obtain ⟨h1, h2⟩ := h a ha hc
      obtain ⟨J, j1, j2, j3⟩ := ih (m (f a)) (by omega) (f a) h1 rfl
      refine ⟨J + 1, by rw [← iter_comm]; exact j1, fun j hj => ?_, fun j hj => ?_⟩
      · cases j with
        | zero => exact hc
        | succ j => rw [← iter_comm]; exact j2 j (by omega)
      · cases j with
        | zero => exact ha
        | succ j => rw [← iter_comm]; exact j3 j (by omega)
end Dm
end Go.Proofs.YtbnicnhkakbglaaGreatDoor

/- The two loops of shifts come to an end: plain mathematics. -/
namespace Go.Proofs.YtbnicnhkakbglaaGreatDoor
namespace Dm

theorem dlen_le_of_lt {n m : Nat} (h : n < 10 ^ m) : dlen n ≤ m := by
  by_cases hn : n = 0
  · rw [hn, dlen_zero]; exact Nat.zero_le _
  · have h1 := dlen_le hn
    have h2 := (Nat.pow_lt_pow_iff_right (a := 10) (by decide)).1 (Nat.lt_of_le_of_lt h1 h)
    have := dlen_one hn
    omega
theorem shr_top_dp {a : De} (h : Gd a) {e k : Nat} (hk : 0 ≤ a.dp) (hk' : 0 ≤ (a.shr k).dp) (hb : 2 ^ e * (a.n * 10 ^ a.dp.toNat) ≤ 10 ^ 310 * 10 ^ dlen a.n) :
    2 ^ (e + k) * ((a.shr k).n * 10 ^ (a.shr k).dp.toNat) ≤ 10 ^ 310 * 10 ^ dlen (a.shr k).n := by
  obtain ⟨P, hP⟩ : ∃ P, P = 10 ^ 310 := ⟨_, rfl⟩
  rw [← hP] at hb ⊢
  clear hP
  have hX := mul5_ne h.1 k
  have h1 : (a.shr k).n * 10 ^ dlen (a.n * 5 ^ k) ≤ a.n * 5 ^ k * 10 ^ dlen (a.shr k).n := keep_le hX
  have hdp : (a.shr k).dp = a.dp + ((dlen (a.n * 5 ^ k) : Int) - (dlen a.n : Int) - (k : Int)) := rfl
  have hexp : (a.shr k).dp.toNat + (dlen a.n + k) = a.dp.toNat + dlen (a.n * 5 ^ k) := by omega
  generalize (a.shr k).dp.toNat = d' at *
  generalize (a.shr k).n = n' at *
  generalize dlen n' = L' at *
  generalize a.dp.toNat = d at *
  generalize dlen (a.n * 5 ^ k) = LX at *
  generalize dlen a.n = L at *
  generalize a.n = n at *
  have hten : (2 : Nat) ^ k * 5 ^ k = 10 ^ k := by rw [← Nat.mul_pow]
  refine Nat.le_of_mul_le_mul_right (c := 10 ^ LX * 10 ^ (L + k)) ?_ (Nat.mul_pos (p10 _) (p10 _))
  calc 2 ^ (e + k) * (n' * 10 ^ d') * (10 ^ LX * 10 ^ (L + k)) = 2 ^ (e + k) * (n' * 10 ^ LX) * (10 ^ d' * 10 ^ (L + k)) := by ac_rfl
    _ = 2 ^ (e + k) * (n' * 10 ^ LX) * (10 ^ d * 10 ^ LX) := by rw [← Nat.pow_add 10 d', hexp, Nat.pow_add 10 d]
    _ ≤ 2 ^ (e + k) * (n * 5 ^ k * 10 ^ L') * (10 ^ d * 10 ^ LX) := Nat.mul_le_mul_right _ (Nat.mul_le_mul_left _ h1)
    _ = (2 ^ e * (n * 10 ^ d)) * ((2 ^ k * 5 ^ k) * 10 ^ L' * 10 ^ LX) := by rw [Nat.pow_add]; ac_rfl
    _ ≤ (P * 10 ^ L) * ((2 ^ k * 5 ^ k) * 10 ^ L' * 10 ^ LX) := Nat.mul_le_mul_right _ hb
    _ = P * 10 ^ L' * (10 ^ LX * 10 ^ (L + k)) := by rw [hten, Nat.pow_add 10 L]; ac_rfl
theorem big310 : (10 : Nat) ^ 310 < 2 ^ 1030 := by decide +kernel
theorem exp_bound {a : De} (h : Gd a) {e : Nat} (hk : 0 < a.dp) (hb : 2 ^ e * (a.n * 10 ^ a.dp.toNat) ≤ 10 ^ 310 * 10 ^ dlen a.n) : e < 1030 := by
  have hB := big310
  obtain ⟨P, hP⟩ : ∃ P, P = 10 ^ 310 := ⟨_, rfl⟩
  rw [← hP] at hb hB
  clear hP
  have h1 : 10 ^ dlen a.n ≤ a.n * 10 ^ a.dp.toNat := by
    have h2 := dlen_le h.1
    have h3 := dlen_one h.1
    have e1 : 10 ^ dlen a.n = 10 ^ (dlen a.n - 1) * 10 := by rw [← Nat.pow_succ]; congr 1; omega
    rw [e1]
    refine Nat.mul_le_mul h2 ?_
    have : (10 : Nat) ^ 1 ≤ 10 ^ a.dp.toNat := Nat.pow_le_pow_right (by decide) (by omega)
    exact this
  have h2 : 2 ^ e * 10 ^ dlen a.n ≤ P * 10 ^ dlen a.n := Nat.le_trans (Nat.mul_le_mul_left _ h1) hb
  have h3 : 2 ^ e ≤ P := Nat.le_of_mul_le_mul_right h2 (p10 _)
  exact (Nat.pow_lt_pow_iff_right (a := 2) (by decide)).1 (Nat.lt_of_le_of_lt h3 hB)
def f1 (p : De × Int) : De × Int := (p.1.shr (pt p.1.dp.toNat), p.2 + (pt p.1.dp.toNat : Nat))
def c1 (p : De × Int) : Bool := decide (0 < p.1.dp)
def I1 (p : De × Int) : Prop := Gd p.1 ∧ -26 ≤ p.1.dp ∧ p.1.dp ≤ 310 ∧ 0 ≤ p.2 ∧ p.2 ≤ 1057 ∧ (0 ≤ p.1.dp → 2 ^ p.2.toNat * (p.1.n * 10 ^ p.1.dp.toNat) ≤ 10 ^ 310 * 10 ^ dlen p.1.n)
theorem step1 (p : De × Int) (h : I1 p) (hc : c1 p = true) : I1 (f1 p) ∧ (2000 - (f1 p).2).toNat < (2000 - p.2).toNat := by
  obtain ⟨h1, h2, h3, h4, h5, h6⟩ := h
  have hd : 0 < p.1.dp := of_decide_eq_true hc
  have hb := h6 (by omega)
  have he := exp_bound h1 hd hb
  have hk := pt_bound p.1.dp.toNat
  have hs := shr_dp h1 (pt p.1.dp.toNat)
  refine ⟨⟨h1.shr _, ?_, ?_, ?_, ?_, fun h0 => ?_⟩, ?_⟩
  · show -26 ≤ (p.1.shr _).dp; omega
  · show (p.1.shr _).dp ≤ 310; omega
  · show 0 ≤ p.2 + _; omega
  · show p.2 + _ ≤ 1057; omega
  · have := shr_top_dp h1 (k := pt p.1.dp.toNat) (by omega) h0 hb
    have e1 : (p.2 + (pt p.1.dp.toNat : Nat)).toNat = p.2.toNat + pt p.1.dp.toNat := by omega
    rw [← e1] at this
    generalize (10 : Nat) ^ 310 = T at this ⊢
    exact this
  · show (2000 - (p.2 + _)).toNat < _; omega
def c2 (p : De × Int) : Bool := decide (p.1.dp < 0) || (decide (p.1.dp = 0) && decide (sdg p.1.n 0 < 5))
def f2 (p : De × Int) : De × Int := (p.1.shl (pt (-p.1.dp).toNat), p.2 - (pt (-p.1.dp).toNat : Nat))
/-- What loses at most so little. -/
def PP : Nat := 10 ^ 799
theorem pp_def : PP = 10 ^ 799 := by unfold PP; exact Eq.refl _
theorem pmono {a k : Nat} (h : a ≤ k) : 10 ^ a ≤ 10 ^ k := Nat.pow_le_pow_right (by decide) h
theorem pbig (k : Nat) (h : 4 ≤ k) : 4000 ≤ 10 ^ k := Nat.le_trans (by decide : 4000 ≤ 10 ^ 4) (pmono h)
theorem pp_big : 4000 ≤ PP := by rw [pp_def]; exact pbig 799 (by decide)
def I2 (p : De × Int) : Prop := ∃ j S : Nat, ∃ e0 : Int, Gd p.1 ∧ -330 ≤ p.1.dp ∧ p.1.dp ≤ 0 ∧ 2 ^ S * 10 ^ dlen p.1.n * (PP - j) ≤ p.1.n * 10 ^ (p.1.dp + 331).toNat * PP ∧ j ≤ S ∧ S ≤ 1128 ∧ 0 ≤ e0 ∧ e0 ≤ 1057 ∧ p.2 = e0 - S
theorem big331 : (2 : Nat) * 10 ^ 331 < 2 ^ 1102 := by decide +kernel
theorem rounds_bound {a : De} {j S : Nat} (h2 : a.dp ≤ 0) (hj : j ≤ 1128) (hb : 2 ^ S * 10 ^ dlen a.n * (PP - j) ≤ a.n * 10 ^ (a.dp + 331).toNat * PP) : S < 1102 := by
  have hB := big331
  have hp := pp_big
  obtain ⟨P, hP⟩ : ∃ P, P = 10 ^ 331 := ⟨_, rfl⟩
  rw [← hP] at hB
  have h3 : 10 ^ (a.dp + 331).toNat ≤ P := by rw [hP]; exact pmono (k := 331) (by omega)
  clear hP
  have h4 := Nat.le_of_lt (lt_dlen a.n)
  have hL := p10 (dlen a.n)
  generalize 10 ^ (a.dp + 331).toNat = D at *
  generalize a.n = n at *
  generalize 10 ^ dlen n = L at *
  generalize PP = Q at *
  have h5 : 2 ^ S * L * Q ≤ 2 * (2 ^ S * L * (Q - j)) := by
    have e : 2 * (2 ^ S * L * (Q - j)) = 2 ^ S * L * (2 * (Q - j)) := by ac_rfl
    rw [e]
    exact Nat.mul_le_mul_left _ (by omega)
  have h6 : n * D * Q ≤ L * P * Q := Nat.mul_le_mul_right _ (Nat.mul_le_mul h4 h3)
  have h7 : 2 ^ S * (L * Q) ≤ 2 * P * (L * Q) := by
    have e1 : 2 ^ S * (L * Q) = 2 ^ S * L * Q := by ac_rfl
    have e2 : 2 * P * (L * Q) = 2 * (L * P * Q) := by ac_rfl
    rw [e1, e2]
    omega
  have h8 : 2 ^ S ≤ 2 * P := Nat.le_of_mul_le_mul_right h7 (Nat.mul_pos hL (by omega))
  exact (Nat.pow_lt_pow_iff_right (a := 2) (by decide)).1 (Nat.lt_of_le_of_lt h8 hB)
theorem shl_grow {a : De} (h : Gd a) {j S k : Nat} (hj : j ≤ 1128) (hd : -330 ≤ a.dp) (hb : 2 ^ S * 10 ^ dlen a.n * (PP - j) ≤ a.n * 10 ^ (a.dp + 331).toNat * PP) :
    2 ^ (S + k) * 10 ^ dlen (a.shl k).n * (PP - (j + 1)) ≤ (a.shl k).n * 10 ^ ((a.shl k).dp + 331).toNat * PP := by
  have hX := mul2_ne h.1 k
  have h1 : a.n * 2 ^ k * 10 ^ dlen (a.shl k).n * (PP - 1) ≤ (a.shl k).n * 10 ^ dlen (a.n * 2 ^ k) * PP := by
    have h9 := keep_ge2 hX
    rw [← pp_def] at h9
    exact h9
  have hdp : (a.shl k).dp = a.dp + ((dlen (a.n * 2 ^ k) : Int) - (dlen a.n : Int)) := rfl
  have hge := (dlen_mul2 h.1 k).1
  have hexp : ((a.shl k).dp + 331).toNat + dlen a.n = (a.dp + 331).toNat + dlen (a.n * 2 ^ k) := by omega
  have hp := pp_big
  generalize ((a.shl k).dp + 331).toNat = d' at *
  generalize (a.shl k).n = n' at *
  generalize dlen n' = L' at *
  generalize (a.dp + 331).toNat = d at *
  generalize dlen (a.n * 2 ^ k) = LX at *
  generalize dlen a.n = L at *
  generalize a.n = n at *
  generalize PP = Q at *
  refine Nat.le_of_mul_le_mul_right (c := 10 ^ L * Q) ?_ (Nat.mul_pos (p10 _) (by omega))
  have q1 : (Q - (j + 1)) * Q ≤ (Q - j) * (Q - 1) := by
    obtain ⟨R, rfl⟩ : ∃ R, Q = R + (j + 1) := ⟨Q - (j + 1), by omega⟩
    rw [show R + (j + 1) - (j + 1) = R from by omega, show R + (j + 1) - j = R + 1 from by omega, show R + (j + 1) - 1 = R + j from by omega]
    rw [Nat.mul_add, Nat.add_mul, Nat.one_mul, Nat.mul_add, Nat.mul_add, Nat.mul_one]
    omega
  have q2 : 10 ^ d' * 10 ^ L = 10 ^ d * 10 ^ LX := by rw [← Nat.pow_add, hexp, Nat.pow_add]
  calc 2 ^ (S + k) * 10 ^ L' * (Q - (j + 1)) * (10 ^ L * Q) = 2 ^ (S + k) * 10 ^ L' * 10 ^ L * ((Q - (j + 1)) * Q) := by ac_rfl
    _ ≤ 2 ^ (S + k) * 10 ^ L' * 10 ^ L * ((Q - j) * (Q - 1)) := Nat.mul_le_mul_left _ q1
    _ = (2 ^ S * 10 ^ L * (Q - j)) * (2 ^ k * 10 ^ L' * (Q - 1)) := by rw [Nat.pow_add]; ac_rfl
    _ ≤ (n * 10 ^ d * Q) * (2 ^ k * 10 ^ L' * (Q - 1)) := Nat.mul_le_mul_right _ hb
    _ = (n * 2 ^ k * 10 ^ L' * (Q - 1)) * (10 ^ d * Q) := by ac_rfl
    _ ≤ (n' * 10 ^ LX * Q) * (10 ^ d * Q) := Nat.mul_le_mul_right _ h1
    _ = n' * (10 ^ d * 10 ^ LX) * Q * Q := by ac_rfl
    _ = n' * 10 ^ d' * Q * (10 ^ L * Q) := by rw [← q2]; ac_rfl
theorem shl_below {p : De × Int} (h : Gd p.1) (hd : p.1.dp ≤ 0) (hc : c2 p = true) : (p.1.shl (pt (-p.1.dp).toNat)).dp ≤ 0 := by
  have hdp : (p.1.shl (pt (-p.1.dp).toNat)).dp = p.1.dp + ((dlen (p.1.n * 2 ^ pt (-p.1.dp).toNat) : Int) - (dlen p.1.n : Int)) := rfl
  have hlt := lt_dlen p.1.n
  have key : dlen (p.1.n * 2 ^ pt (-p.1.dp).toNat) ≤ dlen p.1.n + (-p.1.dp).toNat := by
    refine dlen_le_of_lt ?_
    by_cases h0 : p.1.dp = 0
    · have hs : sdg p.1.n 0 < 5 := by
        unfold c2 at hc
        rw [h0] at hc
        simpa using hc
      have h1 := dlen_one h.1
      rw [sdg_right p.1.n 0 h1, Nat.sub_zero] at hs
      have e : 10 ^ dlen p.1.n = 10 ^ (dlen p.1.n - 1) * 10 := by rw [← Nat.pow_succ]; congr 1; omega
      have hp := p10 (dlen p.1.n - 1)
      have l1 : p.1.n / 10 ^ (dlen p.1.n - 1) < 10 := by rw [Nat.div_lt_iff_lt_mul hp, Nat.mul_comm, ← e]; exact hlt
      rw [Nat.mod_eq_of_lt l1, Nat.div_lt_iff_lt_mul hp] at hs
      rw [h0]
      show p.1.n * 2 ^ 1 < 10 ^ (dlen p.1.n + 0)
      rw [Nat.add_zero, e]
      omega
    · have h1 := pt_pow (-p.1.dp).toNat (by omega)
      rw [Nat.pow_add]
      have h2 : p.1.n * 2 ^ pt (-p.1.dp).toNat ≤ p.1.n * 10 ^ (-p.1.dp).toNat := Nat.mul_le_mul_left _ h1
      have h3 : p.1.n * 10 ^ (-p.1.dp).toNat < 10 ^ dlen p.1.n * 10 ^ (-p.1.dp).toNat := Nat.mul_lt_mul_of_pos_right hlt (p10 _)
      omega
  omega
theorem step2 (p : De × Int) (h : I2 p) (hc : c2 p = true) : I2 (f2 p) ∧ ((f2 p).2 + 60000).toNat < (p.2 + 60000).toNat := by
  obtain ⟨j, S, e0, h1, h2, h3, h4, h5, h6, h7, h8, h9⟩ := h
  have hS := rounds_bound h3 (by omega) h4
  have hk := pt_bound (-p.1.dp).toNat
  have hs := shl_dp h1 (pt (-p.1.dp).toNat)
  refine ⟨⟨j + 1, S + pt (-p.1.dp).toNat, e0, h1.shl _, ?_, shl_below h1 h3 hc, shl_grow h1 (by omega) h2 h4, by omega, by omega, h7, h8, ?_⟩, ?_⟩
  · show -330 ≤ (p.1.shl _).dp; omega
  · show p.2 - _ = e0 - ((S + pt (-p.1.dp).toNat : Nat) : Int); omega
  · show (p.2 - _ + 60000).toNat < _; omega
theorem i2_exp {p : De × Int} (h : I2 p) : -1102 ≤ p.2 ∧ p.2 ≤ 1057 := by
  obtain ⟨j, S, e0, h1, h2, h3, h4, h5, h6, h7, h8, h9⟩ := h
  have := rounds_bound h3 (by omega) h4
  omega
theorem i1_start {a : De} (h : Gd a) (h1 : -26 ≤ a.dp) (h2 : a.dp ≤ 310) : I1 (a, 0) := by
  refine ⟨h, h1, h2, Int.le_refl 0, (show (0 : Int) ≤ 1057 by decide), fun h0 => ?_⟩
  have key := pmono (a := a.dp.toNat) (k := 310) (by omega)
  generalize (10 : Nat) ^ 310 = T at key ⊢
  show 2 ^ 0 * (a.n * 10 ^ a.dp.toNat) ≤ T * 10 ^ dlen a.n
  rw [Nat.pow_zero, Nat.one_mul, Nat.mul_comm]
  exact Nat.mul_le_mul key (Nat.le_of_lt (lt_dlen _))
theorem i2_start {p : De × Int} (h : Gd p.1) (h1 : -330 ≤ p.1.dp) (h2 : p.1.dp ≤ 0) (h3 : 0 ≤ p.2) (h4 : p.2 ≤ 1057) : I2 p := by
  refine ⟨0, 0, p.2, h, h1, h2, ?_, Nat.le_refl _, by omega, h3, h4, by simp⟩
  rw [Nat.pow_zero, Nat.one_mul, Nat.sub_zero]
  refine Nat.mul_le_mul_right _ ?_
  have a := dlen_le h.1
  have b := dlen_one h.1
  have e : 10 ^ dlen p.1.n = 10 ^ (dlen p.1.n - 1) * 10 := by rw [← Nat.pow_succ]; congr 1; omega
  rw [e]
  refine Nat.mul_le_mul a ?_
  have : (10 : Nat) ^ 1 ≤ 10 ^ (p.1.dp + 331).toNat := Nat.pow_le_pow_right (by decide) (by omega)
  exact this
end Dm
end Go.Proofs.YtbnicnhkakbglaaGreatDoor

/- What is left behind a right shift's last digit: plain mathematics. -/
namespace Go.Proofs.YtbnicnhkakbglaaGreatDoor
namespace Dm

theorem top_big (n d : Nat) : top n (dlen n + d) = n * 10 ^ d := by
  unfold top
  rw [Nat.pow_add, ← Nat.mul_assoc, Nat.mul_right_comm, Nat.mul_div_cancel _ (p10 _)]
theorem rest_key {n k R : Nat} (hR : 1 ≤ R) (h : dlen (n * 5 ^ k) + (R - 1) = dlen n + k) (w : Nat) : rest n k R w + top (n * 5 ^ k) w * 10 * 2 ^ k = top n (R + w) := by
  unfold rest
  cases w with
  | zero => rw [if_pos rfl, top_zero]; simp
  | succ w =>
    rw [if_neg (by omega), show R + (w + 1) - 1 = R + w from by omega, show R + (w + 1) = (R + w) + 1 from by omega, top_succ n (R + w)]
    have t := shr_top h (w + 1)
    rw [show R - 1 + (w + 1) = R + w from by omega] at t
    have m := Nat.div_add_mod (top n (R + w)) (2 ^ k)
    rw [t] at m
    have c : top (n * 5 ^ k) (w + 1) * 10 * 2 ^ k = 2 ^ k * top (n * 5 ^ k) (w + 1) * 10 := by
      rw [Nat.mul_comm (2 ^ k), Nat.mul_assoc, Nat.mul_comm 10, ← Nat.mul_assoc]
    rw [c]
    omega
theorem rest_zero {n k R : Nat} (hR : 1 ≤ R) (h : dlen (n * 5 ^ k) + (R - 1) = dlen n + k) (d : Nat) : rest n k R (dlen (n * 5 ^ k) + d) = 0 := by
  have key := rest_key hR h (dlen (n * 5 ^ k) + d)
  have e1 := top_big (n * 5 ^ k) d
  have e2 := top_big n (k + 1 + d)
  rw [e1, show R + (dlen (n * 5 ^ k) + d) = dlen n + (k + 1 + d) from by omega, e2] at key
  have hten : (2 : Nat) ^ k * 5 ^ k = 10 ^ k := by rw [← Nat.mul_pow]
  have e3 : n * 5 ^ k * 10 ^ d * 10 * 2 ^ k = n * 10 ^ (k + 1 + d) := by
    rw [Nat.pow_add, Nat.pow_succ, ← hten]
    ac_rfl
  rw [e3] at key
  omega
theorem rest_lt {n k R : Nat} (hR : 1 ≤ R) (_ : dlen (n * 5 ^ k) + (R - 1) = dlen n + k) (hk : top n (R - 1) < 2 ^ k) (w : Nat) : rest n k R w < 10 * 2 ^ k := by
  have f2 : 0 < 2 ^ k := Nat.pow_pos (by decide)
  unfold rest
  cases w with
  | zero =>
    rw [if_pos rfl]
    have e := top_succ n (R - 1)
    rw [show R - 1 + 1 = R from by omega] at e
    have := sdg_lt n (R - 1)
    omega
  | succ w =>
    rw [if_neg (by omega)]
    have h1 := Nat.mod_lt (top n (R + (w + 1) - 1)) f2
    have h2 := sdg_lt n (R + (w + 1) - 1)
    omega
theorem keep_past {X m : Nat} (hm : m ≤ 800) (hz : ∀ i, m ≤ i → i < 800 → sdg X i = 0) : lastNz X 800 = lastNz X m := lastNz_past hm fun i h1 h2 => hz i h1 h2
/-- Where the first part ends. -/
theorem first_part {n k : Nat} (hn : n ≠ 0) (hk : k ≤ 60) : ∃ R, 1 ≤ R ∧ R ≤ 20 ∧ top n (R - 1) < 2 ^ k ∧ 2 ^ k ≤ top n R := by
  have h20 : 2 ^ k ≤ top n 20 := by
    have h1 := top_first hn 19
    have h2 : (2 : Nat) ^ k ≤ 2 ^ 60 := Nat.pow_le_pow_right (by decide) hk
    have h3 : (2 : Nat) ^ 60 ≤ 10 ^ 19 := by decide
    exact Nat.le_trans h2 (Nat.le_trans h3 h1)
  have key : ∀ r, 2 ^ k ≤ top n r → ∃ R, 1 ≤ R ∧ R ≤ r ∧ top n (R - 1) < 2 ^ k ∧ 2 ^ k ≤ top n R := by
    intro r
    induction r with
    | zero =>
      intro h
      rw [top_zero] at h
      have : 0 < 2 ^ k := Nat.pow_pos (by decide)
      omega
    | succ r ih =>
      intro h
      by_cases h' : 2 ^ k ≤ top n r
      · obtain ⟨R, a, b, c⟩ := ih h'
        exact ⟨R, a, by omega, c⟩
      · exact ⟨r + 1, by omega, Nat.le_refl _, by rw [Nat.add_sub_cancel]; omega, h⟩
  exact key 20 h20
theorem top_mono {n r : Nat} : top n r ≤ top n (r + 1) := by rw [top_succ]; omega
theorem top_le {n : Nat} (d r : Nat) : top n r ≤ top n (r + d) := by
  induction d with
  | zero => exact Nat.le_refl _
  | succ d ih => exact Nat.le_trans ih top_mono
end Dm
end Go.Proofs.YtbnicnhkakbglaaGreatDoor
