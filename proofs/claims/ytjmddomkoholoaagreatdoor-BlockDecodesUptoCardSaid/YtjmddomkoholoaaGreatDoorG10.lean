import Derived.Test.YtjmddomkoholoaaGreatDoorG07
import Derived.Test.YtjmddomkoholoaaGreatDoorG08
import Derived.Test.YtjmddomkoholoaaGreatDoorG09
import Derived.Laws.FloatArith
import Derived.Laws.Externs

/- Values in memory. -/
namespace Go.Proofs.YtjmddomkoholoaaGreatDoor
open Go.RowKit
namespace Vs
open Cm Wr Cv

/-- A value's cells, and the value as one. -/
def vc (v : Vl) : List Value := [.int .i64 v.1, .int .u64 (v.2.1 : Nat), .string (str v.2.2)]
def va (v : Vl) : Value := .agg #[.int .i64 v.1, .int .u64 (v.2.1 : Nat), .string (str v.2.2)]
def vcs (T : List Vl) : List Value := T.flatMap vc
theorem vcs_snoc (T : List Vl) (v : Vl) : vcs (T ++ [v]) = vcs T ++ vc v := by simp [vcs]
theorem vcs_len (T : List Vl) : (vcs T).length = T.length * 3 := by
  induction T with
  | nil => rfl
  | cons v r ih => simp only [vcs, List.flatMap_cons, List.length_append, List.length_cons] at *; rw [ih]; simp [vc]; omega
theorem vcs_get (T : List Vl) (i j : Nat) (hi : i < T.length) (hj : j < 3) : (vcs T)[i * 3 + j]? = (vc (T.getD i z0))[j]? := by
  induction T generalizing i with
  | nil => simp at hi
  | cons v r ih =>
    have e : vcs (v :: r) = vc v ++ vcs r := rfl
    have hl : (vc v).length = 3 := rfl
    rw [e]
    cases i with
    | zero => rw [List.getElem?_append_left (by omega)]; simp
    | succ i =>
      rw [List.getElem?_append_right (by omega), hl, show (i + 1) * 3 + j - 3 = i * 3 + j from by omega, ih i (by simpa using hi)]
      simp [List.getD_eq_getElem?_getD]
theorem vcs_one (T : List Vl) : ∀ u ∈ vcs T, u.oneCell' = true := by
  intro u hu
  simp only [vcs, List.mem_flatMap] at hu
  obtain ⟨v, _, hv⟩ := hu
  simp only [vc, List.mem_cons, List.not_mem_nil, or_false] at hv
  rcases hv with rfl | rfl | rfl <;> rfl
theorem str_nil : str [] = ⟨#[]⟩ := by simp [str, strOfNums]
theorem str_size (t : List Nat) : (str t).size = t.length := by
  show (str t).data.size = _
  rw [← Array.length_toList]
  unfold str
  rw [strOfNums_data]
  simp

/-- The three cells of the value at the place i. -/
def At (w : World) (b o : Nat) (v : Vl) : Prop := w.cell? ⟨b, o, none⟩ = some (.int .i64 v.1) ∧ w.cell? ⟨b, o + 1, none⟩ = some (.int .u64 (v.2.1 : Nat)) ∧ w.cell? ⟨b, o + 2, none⟩ = some (.string (str v.2.2))
/-- A slice of these values. -/
def Vi (w : World) (v : Value) (T : List Vl) : Prop :=
  (∀ x ∈ T, Wv x) ∧ ((∃ a c, v = .slice a 0 c ∧ T = []) ∨
    ∃ b off c, v = .slice (some ⟨b, off, none⟩) T.length c ∧ T.length ≤ c ∧ b < w.heap.size ∧ ∀ i, i < T.length → At w b (off + i * 3) (T.getD i z0))
theorem At.of_block {w w' : World} {b o : Nat} {v : Vl} (h : At w b o v) (e : w'.heap[b]? = w.heap[b]?) : At w' b o v :=
  ⟨(World.cell?_of_block e).trans h.1, (World.cell?_of_block e).trans h.2.1, (World.cell?_of_block e).trans h.2.2⟩
theorem Vi.forms {w : World} {v : Value} {T : List Vl} (h : Vi w v T) : ∃ a c, v = .slice a T.length c := by
  rcases h.2 with ⟨a, c, rfl, rfl⟩ | ⟨b, off, c, rfl, _⟩
  · exact ⟨a, c, rfl⟩
  · exact ⟨_, _, rfl⟩
theorem Vi.below {w w' : World} {v : Value} {T : List Vl} (h : Vi w v T) (b : Below w.heap.size w w') : Vi w' v T := by
  obtain ⟨h0, h⟩ := h
  refine ⟨h0, ?_⟩
  rcases h with h | ⟨q, off, c, h1, h2, h3, h4⟩
  · exact .inl h
  · exact .inr ⟨q, off, c, h1, h2, Nat.lt_of_lt_of_le h3 b.size, fun i hi => (h4 i hi).of_block (b.block q h3)⟩
theorem Vi.drewN {w : World} {v : Value} {T : List Vl} (h : Vi w v T) (n : Nat) : Vi (w.drewN n) v T := h
theorem Vi.cases {w : World} {v : Value} {T : List Vl} (h : Vi w v T) : (∃ a c, v = .slice a 0 c ∧ T = []) ∨
    (0 < T.length ∧ ∃ b off c, v = .slice (some ⟨b, off, none⟩) T.length c ∧ T.length ≤ c ∧ b < w.heap.size ∧ ∀ i, i < T.length → At w b (off + i * 3) (T.getD i z0)) := by
  rcases h.2 with h1 | ⟨b, off, c, h1, h2, h3, h4⟩
  · exact .inl h1
  · by_cases h0 : T.length = 0
    · obtain rfl := List.length_eq_zero_iff.1 h0
      exact .inl ⟨_, _, h1, rfl⟩
    · exact .inr ⟨by omega, b, off, c, h1, h2, h3, h4⟩
theorem info35 : (Tryz.prog.info? 35).map (fun i => (i.zero, i.size, i.bytes)) = some (some (.agg #[.int .i64 0, .int .u64 0, .string ⟨#[]⟩]), 3, 32) := by kernel_rfl
/-- A slice of its own. -/
theorem vi_own {w : World} {B : Nat} {v : Value} {T : List Vl} (h : w.ownsRow B 35 3 v T.length (vcs T)) (hw : ∀ x ∈ T, Wv x) : Vi w v T := by
  refine ⟨hw, ?_⟩
  obtain ⟨hl, ⟨rfl, h0⟩ | ⟨g, c, cur, rfl, hg, hh, hnc, hcm, hsz, htk⟩⟩ := h
  · exact .inl ⟨none, 0, rfl, List.length_eq_zero_iff.1 h0⟩
  · have hgl : g < w.heap.size := by rw [Array.getElem?_eq_some_iff] at hh; exact hh.1
    have key : ∀ i j u, i < T.length → j < 3 → (vc (T.getD i z0))[j]? = some u → w.cell? ⟨g, 0 + i * 3 + j, none⟩ = some u := by
      intro i j u hi hj hu
      have ho : w.ownsRow B 35 3 (.slice (some ⟨g, 0, none⟩) T.length c) T.length (vcs T) := ⟨hl, .inr ⟨g, c, cur, rfl, hg, hh, hnc, hcm, hsz, htk⟩⟩
      have := ho.cells rfl (i * 3 + j) u (by rw [vcs_get T i j hi hj]; exact hu)
      rw [show 0 + i * 3 + j = 0 + (i * 3 + j) from by omega]
      unfold Addr.add at this
      split at this
      · rename_i e; rw [e] at *; exact this
      · exact this
    exact .inr ⟨g, 0, c, rfl, hnc, hgl, fun i hi => ⟨key i 0 _ hi (by decide) rfl, key i 1 _ hi (by decide) rfl, key i 2 _ hi (by decide) rfl⟩⟩
end Vs
end Go.Proofs.YtjmddomkoholoaaGreatDoor

/- What is formed: both sides. -/
namespace Go.Proofs.YtjmddomkoholoaaGreatDoor
open Go.RowKit
namespace Fm
open Cm Wr Cv Vs Ieee

theorem fw : FloatKind.f64.format.signWeight = 9223372036854775808 := by decide
theorem fbn : FloatKind.f64.format.binade = 4503599627370496 := by decide
theorem fi : FloatKind.f64.format.infRung = 9218868437227405312 := by decide
theorem fin_iff (n : Nat) : fin n = true ↔ n % 9223372036854775808 < 9218868437227405312 := by
  unfold fin
  rw [decide_eq_true_iff]
  omega
theorem cmp_self (x : Int) : compare x x = .eq := by simp [compare, compareOfLessAndEq]
theorem cmp_selfN (x : Nat) : compare x x = .eq := by simp [compare, compareOfLessAndEq]
theorem cmp_le (x y : Int) (h : x ≤ y) : (some (compare x y) == some Ordering.gt) = false := by
  simp only [compare, compareOfLessAndEq]
  split
  · rfl
  · rw [if_pos (by omega)]; rfl
/-- A float is finite, infinite or none. -/
theorem read_fin {n : Nat} (h : fin n = true) : ∃ s m p, FloatKind.f64.format.read n = .number s m p := by
  rw [fin_iff] at h
  unfold Format.read
  simp only [fw, fbn, fi, h, if_true]
  split <;> exact ⟨_, _, _, rfl⟩
theorem read_inf {n : Nat} (h : n % 9223372036854775808 = 9218868437227405312) : ∃ s, FloatKind.f64.format.read n = .infinity s := by
  unfold Format.read
  simp only [fw, fbn, fi, h]
  exact ⟨_, rfl⟩
theorem read_nan {n : Nat} (h : 9218868437227405312 < n % 9223372036854775808) : ∃ s t, FloatKind.f64.format.read n = .nan s t := by
  unfold Format.read
  simp only [fw, fbn, fi]
  rw [if_neg (by omega), if_neg (by omega), if_neg (by omega)]
  exact ⟨_, _, rfl⟩
theorem ord_fin {n : Nat} (h : fin n = true) : FloatKind.f64.format.order n n = some .eq := by
  obtain ⟨s, m, p, e⟩ := read_fin h
  unfold Format.order
  rw [e]
  simp only [Datum.order]
  rw [cmp_self]
theorem ord_inf {n : Nat} (h : n % 9223372036854775808 = 9218868437227405312) : FloatKind.f64.format.order n n = some .eq := by
  obtain ⟨s, e⟩ := read_inf h
  unfold Format.order
  rw [e]
  simp only [Datum.order]
  rw [cmp_selfN]
theorem ord_nan {n m : Nat} (h : 9218868437227405312 < n % 9223372036854775808) : FloatKind.f64.format.order n m = none := by
  obtain ⟨s, t, e⟩ := read_nan h
  unfold Format.order
  rw [e]
  rfl
theorem abs_inf : FloatKind.f64.format.order 9218868437227405312 9218868437227405311 = some .gt := by decide +kernel
theorem abs_fin {n : Nat} (h : fin n = true) : (FloatKind.f64.format.order (n % 9223372036854775808) 9218868437227405311 == some .gt) = false := by
  rw [fin_iff] at h
  generalize hr : n % 9223372036854775808 = r at *
  have e2 : FloatKind.f64.format.read 9218868437227405311 = .number false 9007199254740991 (FloatKind.f64.format.leastPlace + 2045) := by decide +kernel
  have hr63 : r % 9223372036854775808 = r := Nat.mod_eq_of_lt (by omega)
  have hs : (r / 9223372036854775808 % 2 == 1) = false := by rw [Nat.div_eq_of_lt (by omega)]; rfl
  have key : ∀ (m k : Nat) (p : Int), m ≤ 9007199254740991 → k ≤ 2045 → (Datum.order (.number false m (p + (k : Nat))) (.number false 9007199254740991 (p + 2045)) == some .gt) = false := by
    intro m k p hm hk
    simp only [Datum.order]
    rw [show min (p + (k : Int)) (p + 2045) = p + (k : Int) from by omega, show (p + (k : Int) - (p + (k : Int))).toNat = 0 from by omega, show (p + 2045 - (p + (k : Int))).toNat = 2045 - k from by omega]
    simp only [Ieee.signed, Bool.false_eq_true, if_false, Nat.shiftLeft_eq]
    refine cmp_le _ _ ?_
    have h1 : 9007199254740991 * 1 ≤ 9007199254740991 * 2 ^ (2045 - k) := Nat.mul_le_mul_left _ (Nat.two_pow_pos _)
    rw [Nat.pow_zero, Nat.mul_one]
    omega
  unfold Format.order
  rw [e2]
  unfold Format.read
  simp only [fw, fbn, fi, hr63, hs]
  split
  · have := key r 0 FloatKind.f64.format.leastPlace (by omega) (by omega)
    simpa using this
  · exact key (4503599627370496 + r % 4503599627370496) (r / 4503599627370496 - 1) FloatKind.f64.format.leastPlace (by omega) (by omega)
theorem sub_fin {n : Nat} (h : fin n = true) : floatBits .sub .f64 n n = some 0 := by
  obtain ⟨s, m, p, e⟩ := read_fin h
  show FloatKind.f64.format.sub n n = some 0
  unfold Format.sub
  rw [e]
  simp only [Datum.opposite, Datum.sum]
  have h0 : Ieee.signed s m (p - min p p).toNat + Ieee.signed (!s) m (p - min p p).toNat = 0 := by
    cases s <;> simp [Ieee.signed] <;> omega
  rw [h0, if_pos rfl]
  have e1 : (s && !s) = false := by cases s <;> rfl
  rw [e1]
  simp only [Option.map_some, Int.natAbs_zero]
  congr 1
theorem sub_inf {n : Nat} (h : n % 9223372036854775808 = 9218868437227405312) : floatBits .sub .f64 n n = none := by
  obtain ⟨s, e⟩ := read_inf h
  show FloatKind.f64.format.sub n n = none
  unfold Format.sub
  rw [e]
  simp only [Datum.opposite, Datum.sum]
  cases s <;> rfl

theorem lt_of {v : Vl} (h : Wv v) : v.2.1 < 18446744073709551616 := h.2.2.1
theorem and63 (n : Nat) (_h : n < 18446744073709551616) : bits .andNot .u64 (n : Int) 9223372036854775808 = ((n % 9223372036854775808 : Nat) : Int) := by
  show IntKind.u64.wrap ((BitVec.ofInt 64 (n : Int) &&& ~~~ BitVec.ofInt 64 ((9223372036854775808 : Nat) : Int)).toNat : Int) = _
  have e : (BitVec.ofInt 64 (n : Int) &&& ~~~ BitVec.ofInt 64 ((9223372036854775808 : Nat) : Int)).toNat = n % 2 ^ 63 := by
    apply Nat.eq_of_testBit_eq
    intro i
    rw [Nat.testBit_mod_two_pow, ← BitVec.getLsbD, BitVec.getLsbD_and, BitVec.getLsbD_not]
    have e1 : (BitVec.ofInt 64 ((9223372036854775808 : Nat) : Int)) = BitVec.twoPow 64 63 := by decide
    rw [e1, BitVec.getLsbD_twoPow, BitVec.ofInt_natCast, BitVec.getLsbD_ofNat]
    by_cases h1 : i < 63
    · simp [h1, show i < 64 from by omega, show ¬ 63 = i from by omega]
    · by_cases h2 : i = 63
      · subst h2; simp
      · simp [show ¬ i < 63 from h1, show ¬ i < 64 from by omega]
  rw [e, IntKind.wrap_u64]
  omega
theorem run30 (b : Int) (w : World) : (callFunc 118 #[.int .u64 b]).run Tryz.prog w = .ok (.value (.float .f64 b.toNat)) w := by
  rw [run_callFunc_extern Tryz.func118 (by kernel_rfl) (by kernel_rfl) (by kernel_rfl) (e := Extern.MathFloatBits.float64frombits) (by kernel_rfl)]; rfl
theorem run101 (b : Nat) (w : World) : (callFunc 181 #[.float .f64 b]).run Tryz.prog w = .ok (.value (.int .u64 (b : Nat))) w := by
  rw [run_callFunc_extern Tryz.func181 (by kernel_rfl) (by kernel_rfl) (by kernel_rfl) (e := Extern.MathFloatBits.float64bits) (by kernel_rfl)]; rfl
set_option maxRecDepth 100000 in
theorem nan82 (w : World) (n : Nat) : Calls Tryz.prog 173 #[.float .f64 n] w fun e w' => e = .returned (.bool (FloatKind.f64.format.order n n != some .eq)) ∧ w' = w := by
  go_enter Tryz.func173, Tryz.ntmps173
  go_wp2_with fail
  go_ret
  exact ⟨rfl, rfl⟩
set_option maxRecDepth 100000 in
theorem abs97 (w : World) (n : Nat) (h : n < 18446744073709551616) : Calls Tryz.prog 180 #[.float .f64 n] w fun e w' => e = .returned (.float .f64 (n % 9223372036854775808)) ∧ w' = w := by
  have h1 := and63 n h
  go_enter Tryz.func180, Tryz.ntmps180
  go_wp2_with (first | rw [run30] | rw [run101])
  go_ret
  exact ⟨rfl, rfl⟩
set_option maxRecDepth 100000 in
theorem inf83 (w : World) (n : Nat) (h : n < 18446744073709551616) : Calls Tryz.prog 174 #[.float .f64 n, .int .i64 0] w fun e w' => e = .returned (.bool (FloatKind.f64.format.order (n % 9223372036854775808) 9218868437227405311 == some .gt)) ∧ w' = w := by
  go_enter Tryz.func174, Tryz.ntmps174
  go_wp2_with (go_at_call 180; refine (abs97 _ n h).mono ?_; rintro e w' ⟨rfl, rfl⟩)
  go_ret
  exact ⟨rfl, rfl⟩
set_option maxRecDepth 100000 in
theorem finite62 (w : World) (n : Nat) (h : n < 18446744073709551616) : Calls Tryz.prog 157 #[.float .f64 n] w fun e w' => e = .returned (.bool (fin n)) ∧ w' = w := by
  have F82 := Lib.hid (fun w => nan82 w n)
  have F83 := Lib.hid (fun w => inf83 w n h)
  by_cases hf : fin n = true
  · rw [ord_fin hf] at F82
    rw [abs_fin hf] at F83
    rw [hf]
    go_enter Tryz.func157, Tryz.ntmps157
    go_wp2_with (first | (go_at_call 173; refine (F82.out _).mono ?_; rintro e w' ⟨rfl, rfl⟩) | (go_at_call 174; refine (F83.out _).mono ?_; rintro e w' ⟨rfl, rfl⟩))
    go_ret
    exact ⟨rfl, rfl⟩
  · rw [show fin n = false from by simpa using hf]
    rw [fin_iff] at hf
    by_cases hi : n % 9223372036854775808 = 9218868437227405312
    · rw [ord_inf hi] at F82
      rw [hi, abs_inf] at F83
      clear hf hi
      go_enter Tryz.func157, Tryz.ntmps157
      go_wp2_with (first | (go_at_call 173; refine (F82.out _).mono ?_; rintro e w' ⟨rfl, rfl⟩) | (go_at_call 174; refine (F83.out _).mono ?_; rintro e w' ⟨rfl, rfl⟩))
      go_ret
      exact ⟨rfl, rfl⟩
    · rw [ord_nan (by omega)] at F82
      clear hf hi
      go_enter Tryz.func157, Tryz.ntmps157
      go_wp2_with (first | (go_at_call 173; refine (F82.out _).mono ?_; rintro e w' ⟨rfl, rfl⟩) | (go_at_call 174; refine (F83.out _).mono ?_; rintro e w' ⟨rfl, rfl⟩))
      go_ret
      exact ⟨rfl, rfl⟩
theorem empty_ne (t : List Nat) (h : t ≠ []) : ¬ (str t).toList = [] := fun e => h (by
  rw [ByteArray.toList_eq] at e
  have h2 := str_size t
  have : (str t).data.size = 0 := by rw [← Array.length_toList, e]; rfl
  have h3 : (str t).size = 0 := this
  exact List.length_eq_zero_iff.1 (by omega))
theorem ret_bool {a b : Bool} (h : a = b) : Ending.returned (.bool a) = .returned (.bool b) := by rw [h]
theorem isE {S : ByteArray} (h : ¬ S.toList = []) : S.toList.isEmpty = false := by
  cases hl : S.toList with
  | nil => exact absurd hl h
  | cons a r => rfl
set_option maxRecDepth 100000 in
theorem formed40 (w : World) (v : Vl) (hv : Wv v) : Calls Tryz.prog 128 #[va v] w fun e w' => e = .returned (.bool (formed v)) ∧ Below w.heap.size w w' := by
  obtain ⟨k, n, t⟩ := v
  obtain ⟨h1, h2, h3, h4⟩ := hv
  simp only at h1 h2 h3 h4
  have F62 := Lib.hid (fun w => finite62 w n h3)
  obtain ⟨F, hF⟩ : ∃ F, F = formed (k, n, t) := ⟨_, rfl⟩
  rw [← hF]
  unfold va
  unfold formed at hF
  simp only at hF ⊢
  generalize fin n = ff at *
  clear h4
  by_cases ht : t = []
  · subst ht
    rw [str_nil]
    simp only [decide_true, Bool.true_and, List.length_nil] at hF
    by_cases k1 : k = 1
    · subst k1
      rw [if_pos rfl] at hF
      subst hF
      go_enter Tryz.func128, Tryz.ntmps128
      go_wp2_with (first | rw [run30] | (go_at_call 157; refine (F62.out _).mono ?_; rintro e w' ⟨rfl, rfl⟩))
      go_ret
      exact ⟨rfl, (Below.refl _ _).alloc (Nat.le_refl _) _⟩
    · rw [if_neg k1] at hF
      by_cases k2 : k = 2
      · subst k2
        rw [if_pos rfl] at hF
        subst hF
        go_enter Tryz.func128, Tryz.ntmps128
        go_wp2_with fail
        go_ret
        exact ⟨rfl, (Below.refl _ _).alloc (Nat.le_refl _) _⟩
      · rw [if_neg k2] at hF
        by_cases k3 : k = 3
        · subst k3
          rw [if_pos rfl] at hF
          by_cases hn : n ≤ 1
          · rw [decide_eq_true hn] at hF
            subst hF
            go_enter Tryz.func128, Tryz.ntmps128
            go_wp2_with fail
            go_ret
            exact ⟨ret_bool (decide_eq_true (by omega)), (Below.refl _ _).alloc (Nat.le_refl _) _⟩
          · rw [decide_eq_false hn] at hF
            subst hF
            go_enter Tryz.func128, Tryz.ntmps128
            go_wp2_with fail
            go_ret
            exact ⟨ret_bool (decide_eq_false (by omega)), (Below.refl _ _).alloc (Nat.le_refl _) _⟩
        · rw [if_neg k3] at hF
          by_cases k4 : k = 4
          · subst k4
            rw [if_pos rfl] at hF
            by_cases hn : n = 0
            · subst hn
              subst hF
              go_enter Tryz.func128, Tryz.ntmps128
              go_wp2_with fail
              go_ret
              exact ⟨rfl, (Below.refl _ _).alloc (Nat.le_refl _) _⟩
            · rw [decide_eq_false hn] at hF
              subst hF
              go_enter Tryz.func128, Tryz.ntmps128
              go_wp2_with fail
              go_ret
              exact ⟨rfl, (Below.refl _ _).alloc (Nat.le_refl _) _⟩
          · rw [if_neg k4] at hF
            subst hF
            go_enter Tryz.func128, Tryz.ntmps128
            go_wp2_with fail
            go_ret
            exact ⟨rfl, (Below.refl _ _).alloc (Nat.le_refl _) _⟩
  · have e2 := empty_ne t ht
    have e3 := isE e2
    have es := str_size t
    rw [decide_eq_false ht] at hF
    simp only [Bool.false_and] at hF
    generalize str t = S at *
    generalize t.length = L at *
    clear ht
    by_cases k1 : k = 1
    · subst k1
      rw [if_pos rfl] at hF
      subst hF
      go_enter Tryz.func128, Tryz.ntmps128
      go_wp2_with fail
      go_ret
      exact ⟨rfl, (Below.refl _ _).alloc (Nat.le_refl _) _⟩
    · rw [if_neg k1] at hF
      by_cases k2 : k = 2
      · subst k2
        rw [if_pos rfl] at hF
        subst hF
        go_enter Tryz.func128, Tryz.ntmps128
        go_wp2_with fail
        go_ret
        exact ⟨rfl, (Below.refl _ _).alloc (Nat.le_refl _) _⟩
      · rw [if_neg k2] at hF
        by_cases k3 : k = 3
        · subst k3
          rw [if_pos rfl] at hF
          subst hF
          go_enter Tryz.func128, Tryz.ntmps128
          go_wp2_with fail
          go_ret
          exact ⟨rfl, (Below.refl _ _).alloc (Nat.le_refl _) _⟩
        · rw [if_neg k3] at hF
          by_cases k4 : k = 4
          · subst k4
            rw [if_pos rfl] at hF
            by_cases hn : n = 0
            · subst hn
              simp only [decide_true, Bool.true_and] at hF
              by_cases hL : L ≤ 65536
              · rw [decide_eq_true hL] at hF
                subst hF
                go_enter Tryz.func128, Tryz.ntmps128
                go_wp2_with fail
                go_ret
                exact ⟨ret_bool (decide_eq_true (by omega)), (Below.refl _ _).alloc (Nat.le_refl _) _⟩
              · rw [decide_eq_false hL] at hF
                subst hF
                go_enter Tryz.func128, Tryz.ntmps128
                go_wp2_with fail
                go_ret
                exact ⟨ret_bool (decide_eq_false (by omega)), (Below.refl _ _).alloc (Nat.le_refl _) _⟩
            · rw [decide_eq_false hn] at hF
              subst hF
              go_enter Tryz.func128, Tryz.ntmps128
              go_wp2_with fail
              go_ret
              exact ⟨rfl, (Below.refl _ _).alloc (Nat.le_refl _) _⟩
          · rw [if_neg k4] at hF
            subst hF
            go_enter Tryz.func128, Tryz.ntmps128
            go_wp2_with fail
            go_ret
            exact ⟨rfl, (Below.refl _ _).alloc (Nat.le_refl _) _⟩
end Fm
end Go.Proofs.YtjmddomkoholoaaGreatDoor

/- What is formed: the document's side. -/
namespace Go.Proofs.YtjmddomkoholoaaGreatDoor
open Go.RowKit
namespace Fm
open Cm Wr Cv Vs Ieee

theorem nan_cut (t m : Nat) : FloatKind.f64.format.order ((t % 2) * 2 ^ 63 + 0x7ff0000000000000 + 1 + (t / 2) % (2 ^ 52 - 1)) m = none := ord_nan (by
  have e4 : ((t % 2) * 2 ^ 63 + 0x7ff0000000000000 + 1 + (t / 2) % (2 ^ 52 - 1)) % 9223372036854775808 = 0x7ff0000000000000 + 1 + (t / 2) % (2 ^ 52 - 1) := by
    have hq : (t / 2) % (2 ^ 52 - 1) < 2 ^ 52 - 1 := Nat.mod_lt _ (by decide)
    generalize (t / 2) % (2 ^ 52 - 1) = q at *
    omega
  rw [e4]
  omega)
theorem sub_draws {n : Nat} (h : n % 9223372036854775808 = 9218868437227405312) (w : World) :
    ∃ r, (binOp .sub 150 (.float .f64 n) (.float .f64 n)).run Tryz.prog w = .ok (.float .f64 r) w.drew ∧ FloatKind.f64.format.order r 0 = none := by
  have h := sub_inf h
  refine ⟨_, ?_, nan_cut (w.tape w.drawn (.nanBits .f64 n n)) 0⟩
  unfold floatBits at h
  simp only at h
  simp [binOp, Op.floatArith, h, Question.forced, Question.cut]
set_option maxRecDepth 100000 in
theorem refformed14 (w : World) (v : Vl) (hv : Wv v) : Calls Tryz.prog 60 #[va v] w fun e w' => e = .returned (.bool (formed v)) ∧ Below w.heap.size w w' := by
  obtain ⟨k, n, t⟩ := v
  obtain ⟨h1, h2, h3, h4⟩ := hv
  simp only at h1 h2 h3 h4
  obtain ⟨F, hF⟩ : ∃ F, F = formed (k, n, t) := ⟨_, rfl⟩
  rw [← hF]
  unfold va
  unfold formed at hF
  simp only at hF ⊢
  clear h4
  by_cases ht : t = []
  · subst ht
    rw [str_nil]
    simp only [decide_true, Bool.true_and, List.length_nil] at hF
    by_cases k1 : k = 1
    · subst k1
      rw [if_pos rfl] at hF
      by_cases hf : fin n = true
      · rw [hf] at hF
        subst hF
        have o1 := ord_fin hf
        have o2 := fun w : World => run_float_arith (P := Tryz.prog) w .sub 150 .f64 n n 0 (sub_fin hf)
        have o3 : FloatKind.f64.format.order 0 0 = some .eq := by decide +kernel
        clear hf
        go_enter Tryz.func60, Tryz.ntmps60
        go_wp2_with (first | rw [run30] | rw [o2])
        go_ret
        exact ⟨rfl, (Below.refl _ _).alloc (Nat.le_refl _) _⟩
      · rw [show fin n = false from by simpa using hf] at hF
        subst hF
        rw [fin_iff] at hf
        by_cases hi : n % 9223372036854775808 = 9218868437227405312
        · have o1 := ord_inf hi
          obtain ⟨r, o2, o3⟩ := sub_draws hi (w.alloc (.cells #[.int .i64 1, .int .u64 (n : Nat), .string ⟨#[]⟩] 35))
          clear hf hi
          go_enter Tryz.func60, Tryz.ntmps60
          go_wp2_with (first | rw [run30] | rw [o2])
          go_ret
          exact ⟨rfl, ((Below.refl _ _).alloc (Nat.le_refl _) _).drew⟩
        · have o1 := ord_nan (m := n) (show 9218868437227405312 < n % 9223372036854775808 from by omega)
          clear hf hi
          go_enter Tryz.func60, Tryz.ntmps60
          go_wp2_with (first | rw [run30])
          go_ret
          exact ⟨rfl, (Below.refl _ _).alloc (Nat.le_refl _) _⟩
    · rw [if_neg k1] at hF
      by_cases k2 : k = 2
      · subst k2
        rw [if_pos rfl] at hF
        subst hF
        go_enter Tryz.func60, Tryz.ntmps60
        go_wp2_with fail
        go_ret
        exact ⟨rfl, (Below.refl _ _).alloc (Nat.le_refl _) _⟩
      · rw [if_neg k2] at hF
        by_cases k3 : k = 3
        · subst k3
          rw [if_pos rfl] at hF
          by_cases hn : n ≤ 1
          · rw [decide_eq_true hn] at hF
            subst hF
            go_enter Tryz.func60, Tryz.ntmps60
            go_wp2_with fail
            go_ret
            exact ⟨ret_bool (decide_eq_true (by omega)), (Below.refl _ _).alloc (Nat.le_refl _) _⟩
          · rw [decide_eq_false hn] at hF
            subst hF
            go_enter Tryz.func60, Tryz.ntmps60
            go_wp2_with fail
            go_ret
            exact ⟨ret_bool (decide_eq_false (by omega)), (Below.refl _ _).alloc (Nat.le_refl _) _⟩
        · rw [if_neg k3] at hF
          by_cases k4 : k = 4
          · subst k4
            rw [if_pos rfl] at hF
            by_cases hn : n = 0
            · subst hn
              subst hF
              go_enter Tryz.func60, Tryz.ntmps60
              go_wp2_with fail
              go_ret
              exact ⟨rfl, (Below.refl _ _).alloc (Nat.le_refl _) _⟩
            · rw [decide_eq_false hn] at hF
              subst hF
              go_enter Tryz.func60, Tryz.ntmps60
              go_wp2_with fail
              go_ret
              exact ⟨rfl, (Below.refl _ _).alloc (Nat.le_refl _) _⟩
          · rw [if_neg k4] at hF
            subst hF
            go_enter Tryz.func60, Tryz.ntmps60
            go_wp2_with fail
            go_ret
            exact ⟨rfl, (Below.refl _ _).alloc (Nat.le_refl _) _⟩
  · have e2 := empty_ne t ht
    have e3 := isE e2
    have es := str_size t
    rw [decide_eq_false ht] at hF
    simp only [Bool.false_and] at hF
    generalize str t = S at *
    generalize t.length = L at *
    clear ht
    by_cases k1 : k = 1
    · subst k1
      rw [if_pos rfl] at hF
      subst hF
      go_enter Tryz.func60, Tryz.ntmps60
      go_wp2_with (first | rw [run30])
      go_ret
      exact ⟨rfl, (Below.refl _ _).alloc (Nat.le_refl _) _⟩
    · rw [if_neg k1] at hF
      by_cases k2 : k = 2
      · subst k2
        rw [if_pos rfl] at hF
        subst hF
        go_enter Tryz.func60, Tryz.ntmps60
        go_wp2_with fail
        go_ret
        exact ⟨rfl, (Below.refl _ _).alloc (Nat.le_refl _) _⟩
      · rw [if_neg k2] at hF
        by_cases k3 : k = 3
        · subst k3
          rw [if_pos rfl] at hF
          subst hF
          go_enter Tryz.func60, Tryz.ntmps60
          go_wp2_with fail
          go_ret
          exact ⟨rfl, (Below.refl _ _).alloc (Nat.le_refl _) _⟩
        · rw [if_neg k3] at hF
          by_cases k4 : k = 4
          · subst k4
            rw [if_pos rfl] at hF
            by_cases hn : n = 0
            · subst hn
              simp only [decide_true, Bool.true_and] at hF
              by_cases hL : L ≤ 65536
              · rw [decide_eq_true hL] at hF
                subst hF
                go_enter Tryz.func60, Tryz.ntmps60
                go_wp2_with fail
                go_ret
                exact ⟨ret_bool (decide_eq_true (by omega)), (Below.refl _ _).alloc (Nat.le_refl _) _⟩
              · rw [decide_eq_false hL] at hF
                subst hF
                go_enter Tryz.func60, Tryz.ntmps60
                go_wp2_with fail
                go_ret
                exact ⟨ret_bool (decide_eq_false (by omega)), (Below.refl _ _).alloc (Nat.le_refl _) _⟩
            · rw [decide_eq_false hn] at hF
              subst hF
              go_enter Tryz.func60, Tryz.ntmps60
              go_wp2_with fail
              go_ret
              exact ⟨rfl, (Below.refl _ _).alloc (Nat.le_refl _) _⟩
          · rw [if_neg k4] at hF
            subst hF
            go_enter Tryz.func60, Tryz.ntmps60
            go_wp2_with fail
            go_ret
            exact ⟨rfl, (Below.refl _ _).alloc (Nat.le_refl _) _⟩
end Fm
end Go.Proofs.YtjmddomkoholoaaGreatDoor

/- What is formed, and of one kind: rows of values. -/
namespace Go.Proofs.YtjmddomkoholoaaGreatDoor
open Go.RowKit
namespace Fo
open Cm Wr Cv Vs Fm

theorem all_of {T : List Vl} {f : Vl → Bool} {n : Nat} (hn : n = T.length) (h : ∀ j, j < n → f (T.getD j z0) = true) : T.all f = true := by
  rw [List.all_eq_true]
  intro v hv
  obtain ⟨i, hi, rfl⟩ := List.getElem_of_mem hv
  have := h i (by omega)
  rwa [List.getD_eq_getElem?_getD, List.getElem?_eq_getElem hi] at this
theorem not_all {T : List Vl} {f : Vl → Bool} {j : Nat} (hj : j < T.length) (h : f (T.getD j z0) = false) : T.all f = false := by
  cases e : T.all f with
  | false => rfl
  | true =>
    rw [List.all_eq_true] at e
    have := e _ (List.getElem_mem hj)
    rw [List.getD_eq_getElem?_getD, List.getElem?_eq_getElem hj] at h
    simp only [Option.getD_some] at h
    rw [h] at this; cases this
theorem ret_bool {a b : Bool} (h : a = b) : Ending.returned (.bool a) = .returned (.bool b) := by rw [h]

set_option maxRecDepth 100000 in
set_option maxHeartbeats 1000000 in
theorem formed21 (w : World) (v : Value) (T : List Vl) (h : Vi w v T) (hl : T.length ≤ 1000000000) :
    Calls Tryz.prog 86 #[v] w fun e w' => e = .returned (.bool (T.all formed)) ∧ Below w.heap.size w w' := by
  have HW := Lib.hid h.1
  rcases h.cases with ⟨a, c, rfl, rfl⟩ | ⟨hL0, b, off, c, rfl, hc1, hc2, hc3⟩
  · clear h
    go_enter Tryz.func86, Tryz.ntmps86
    go_wp2_with fail
    refine wp_loop_rounds 1 ?_
    rw [rounds_succ]
    go_wp2_with fail
    go_ret
    exact ⟨rfl, Below.refl _ _⟩
  · obtain ⟨n, hn⟩ : ∃ n, n = T.length := ⟨_, rfl⟩
    rw [← hn] at hc1 hc3 hl ⊢
    have HC := Lib.hid hc3
    have HN := Lib.hid hn
    obtain ⟨A, hA⟩ : ∃ A, A = T.all formed := ⟨_, rfl⟩
    rw [← hA]
    have HA := Lib.hid hA
    clear h hc3 hn hL0 hA
    go_enter Tryz.func86, Tryz.ntmps86
    go_wp2_with fail
    go_loopw [7] (fun i wr => ∃ k, k ≤ n ∧ i = .int .i64 (k : Nat) ∧ (∀ j, j < k → formed (T.getD j z0) = true) ∧ Below w.heap.size w wr) (fun i _ => n - (intOf i).toNat)
    case atStart => exact ⟨0, Nat.zero_le _, rfl, fun j hj => by omega, Below.refl _ _⟩
    case round =>
      obtain ⟨k, hk, rfl, hall, hb⟩ := hrel
      have HALL := Lib.hid hall
      have HB := Lib.hid hb
      clear hall
      by_cases hkn : k < n
      · obtain ⟨e1, e2, e3⟩ := (HC.out k hkn).of_block (hb.block b hc2)
        have hwv := getD_wv HW.out k
        have F40 := Lib.hid (fun x => formed40 x (T.getD k z0) hwv)
        obtain ⟨V, hV⟩ : ∃ V, V = T.getD k z0 := ⟨_, rfl⟩
        rw [← hV] at e1 e2 e3 F40
        have HV := Lib.hid hV
        clear hV hb hwv
        by_cases hf : formed V = true
        · rw [hf] at F40
          have HF := Lib.hid hf
          unfold va at F40
          obtain ⟨kk, nn, tt⟩ := V
          simp only at e1 e2 e3 F40
          clear hf
          go_wp2_with (go_at_call 128; refine (F40.out _).mono ?_; rintro e w2 ⟨rfl, b2⟩)
          go_roundw
          case rel =>
            refine ⟨k + 1, by omega, by go_num, fun j hj => ?_, ?_⟩
            · by_cases e : j = k
              · subst e; rw [← HV.out]; exact HF.out
              · exact HALL.out j (by omega)
            · exact (HB.out.alloc HB.out.size _).trans (b2.mono (by have := HB.out.size; simp; omega))
          case measure => simp [intOf]; omega
        · have hf' : formed V = false := by simpa using hf
          rw [hf'] at F40
          have HF := Lib.hid hf'
          unfold va at F40
          obtain ⟨kk, nn, tt⟩ := V
          simp only at e1 e2 e3 F40
          clear hf hf'
          go_wp2_with (go_at_call 128; refine (F40.out _).mono ?_; rintro e w2 ⟨rfl, b2⟩)
          go_ret
          refine ⟨ret_bool ?_, (HB.out.alloc HB.out.size _).trans (b2.mono (by have := HB.out.size; simp; omega))⟩
          rw [HA.out]
          exact (not_all (by rw [← HN.out]; exact hkn) (by rw [← HV.out]; exact HF.out)).symm
      · obtain rfl : k = n := by omega
        go_wp2_with fail
        go_ret
        exact ⟨ret_bool (by rw [HA.out]; exact (all_of HN.out HALL.out).symm), HB.out⟩
end Fo
end Go.Proofs.YtjmddomkoholoaaGreatDoor
