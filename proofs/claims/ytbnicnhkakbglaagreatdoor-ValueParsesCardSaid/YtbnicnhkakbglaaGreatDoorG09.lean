import Derived.Test.YtbnicnhkakbglaaGreatDoorG08
import Derived.Test.YtbnicnhkakbglaaGreatDoorRows
import Derived.WalkKit
import Derived.ProofKit
import Derived.OpenShut
import Derived.Handy
import Derived.BigQuiet
import Derived.Deep.QuietTactic
import Derived.WalkLawsBesides
import Derived.Lib.Hide
import Derived.LoopTactic
import Derived.IntWalk
import Derived.Laws.BitsAllLaws
import Derived.Deep.DeepCutAuto
import Derived.Laws.FloatArith
import Derived.Laws.Externs

/- The form of a float, by places in the text. -/
namespace Go.Proofs.YtbnicnhkakbglaaGreatDoor
open Go.RowKit
namespace Vd
open Sa Sb Fm Rm

/-- What is left of a text from a place on. -/
def sub (s : ByteArray) (p : Nat) : ByteArray := ba ((bl s).drop p)
theorem sub_zero (s : ByteArray) : sub s 0 = s := by unfold sub; rw [List.drop_zero, ba_bl]
theorem sub_sub (s : ByteArray) (p q : Nat) : sub (sub s p) q = sub s (p + q) := by unfold sub; rw [bl_ba, List.drop_drop]
theorem sub_size (s : ByteArray) (p : Nat) : (sub s p).size = s.size - p := by unfold sub; rw [ba_size, List.length_drop, bl_len]
theorem sub_nat (s : ByteArray) (p : Nat) : nat (sub s p) = (nat s).drop p := nat_drop s p
theorem sub_by8 (s : ByteArray) (p k : Nat) : by8 (sub s p) k = by8 s (p + k) := by rw [← nat_get, sub_nat, nat_app, nat_get]
theorem sub_end (s : ByteArray) (p : Nat) (h : s.size ≤ p) : sub s p = ⟨#[]⟩ := by
  unfold sub; rw [List.drop_eq_nil_of_le (by rw [bl_len]; exact h)]; rfl
theorem sub_ne (s : ByteArray) (p : Nat) (h : p < s.size) : sub s p ≠ ⟨#[]⟩ := by
  intro e
  have h1 := sub_size s p
  rw [e] at h1
  have h2 : (⟨#[]⟩ : ByteArray).size = 0 := rfl
  omega
def run (s : ByteArray) (p : Nat) : Nat := p + lead ((nat s).drop p)
theorem run_ge (s : ByteArray) (p : Nat) : p ≤ run s p := Nat.le_add_right _ _
theorem run_le (s : ByteArray) (p : Nat) (hp : p ≤ s.size) : run s p ≤ s.size := (ds_of s p hp).le
def pS (s : ByteArray) : Nat := if 0 < s.size ∧ by8 s 0 = 45 then 1 else 0
theorem pS_le (s : ByteArray) : pS s ≤ s.size := by unfold pS; split <;> omega
def pX (s : ByteArray) (p : Nat) : Nat := if p < s.size ∧ (by8 s p = 43 ∨ by8 s p = 45) then p + 1 else p
theorem pX_le (s : ByteArray) (p : Nat) (hp : p ≤ s.size) : pX s p ≤ s.size := by unfold pX; split <;> omega
def go1 (s : ByteArray) (p : Nat) : Option Nat := if run s p = p then none else some (run s p)
def dotp (s : ByteArray) (e : Nat) : Option Nat := if e < s.size ∧ by8 s e = 46 then go1 s (e + 1) else some e
def expq (s : ByteArray) (a : Nat) : Option Nat := if a < s.size ∧ (by8 s a = 101 ∨ by8 s a = 69) then go1 s (pX s (a + 1)) else some a
def d1 (s : ByteArray) : Option Nat := (go1 s (pS s)).bind (dotp s)
def d2 (s : ByteArray) : Option Nat := (d1 s).bind (expq s)
def ff (s : ByteArray) : Bool := decide (d2 s = some s.size)
theorem head_drop (s : ByteArray) (p : Nat) : ((nat s).drop p).head? = if p < s.size then some (by8 s p) else none := by
  rw [List.head?_drop]
  split
  · rename_i h
    have h2 : p < (nat s).length := by rw [nat_len]; exact h
    rw [← nat_get, List.getD_eq_getElem?_getD, List.getElem?_eq_getElem h2]
    rfl
  · rename_i h
    exact List.getElem?_eq_none (by rw [nat_len]; omega)
theorem go1_some1 (s : ByteArray) (p q : Nat) (h : go1 s p = some q) : some1 ((nat s).drop p) = some ((nat s).drop q) := by
  unfold go1 run at h
  unfold some1
  split at h
  · cases h
  · injection h with h
    rw [if_neg (by omega), List.drop_drop, h]
theorem ff_text {s : ByteArray} (h : ff s = true) : ∃ sg mn ex, FloatText (nat s) sg mn ex := by
  refine fform_text ?_
  have h := of_decide_eq_true h
  unfold d2 d1 at h
  obtain ⟨a1, h1, h2⟩ := Option.bind_eq_some_iff.1 h
  obtain ⟨a0, h3, h4⟩ := Option.bind_eq_some_iff.1 h1
  have e0 : sgl (nat s) = (nat s).drop (pS s) := by
    have hh := head_drop s 0
    rw [List.drop_zero] at hh
    unfold sgl pS
    rw [hh]
    by_cases c : 0 < s.size
    · rw [if_pos c]
      by_cases k : by8 s 0 = 45
      · rw [if_pos (by rw [k]), if_pos ⟨c, k⟩, List.drop_one]
      · rw [if_neg (by intro e; injection e with e; exact k e), if_neg (fun x => k x.2), List.drop_zero]
    · rw [if_neg c, if_neg (by intro e; cases e), if_neg (fun x => c x.1), List.drop_zero]
  refine ⟨(nat s).drop a0, (nat s).drop a1, ?_, ?_, ?_⟩
  · rw [e0]; exact go1_some1 s _ _ h3
  · unfold pnt
    rw [head_drop]
    unfold dotp at h4
    by_cases c : a0 < s.size ∧ by8 s a0 = 46
    · rw [if_pos c] at h4
      rw [if_pos c.1, if_pos (by rw [c.2]), List.tail_drop]
      exact go1_some1 s _ _ h4
    · rw [if_neg c] at h4
      injection h4 with h4
      rw [if_neg, h4]
      intro e
      split at e
      · rename_i h; injection e with e; exact c ⟨h, e⟩
      · cases e
  · unfold exq
    rw [head_drop]
    unfold expq at h2
    have hend : (nat s).drop s.size = [] := List.drop_eq_nil_of_le (by rw [nat_len]; exact Nat.le_refl _)
    by_cases c : a1 < s.size ∧ (by8 s a1 = 101 ∨ by8 s a1 = 69)
    · rw [if_pos c] at h2
      rw [if_pos c.1, if_pos (by rcases c.2 with h | h; exact .inr (by rw [h]); exact .inl (by rw [h])), List.tail_drop]
      have e1 : sgx ((nat s).drop (a1 + 1)) = (nat s).drop (pX s (a1 + 1)) := by
        unfold sgx pX
        rw [head_drop]
        by_cases k : a1 + 1 < s.size ∧ (by8 s (a1 + 1) = 43 ∨ by8 s (a1 + 1) = 45)
        · rw [if_pos k, if_pos k.1, if_pos (by rcases k.2 with h | h; exact .inl (by rw [h]); exact .inr (by rw [h])), List.tail_drop]
        · rw [if_neg k, if_neg]
          rintro (e | e) <;> split at e
          · rename_i h; injection e with e; exact k ⟨h, .inl e⟩
          · cases e
          · rename_i h; injection e with e; exact k ⟨h, .inr e⟩
          · cases e
      rw [e1, go1_some1 s _ _ h2, hend]
    · rw [if_neg c] at h2
      injection h2 with h2
      rw [if_neg, h2, hend]
      rintro (e | e) <;> split at e
      · rename_i h; injection e with e; exact c ⟨h, .inr e⟩
      · cases e
      · rename_i h; injection e with e; exact c ⟨h, .inl e⟩
      · cases e
end Vd
end Go.Proofs.YtbnicnhkakbglaaGreatDoor

/- Strings in quotes, plain mathematics. -/
namespace Go.Proofs.YtbnicnhkakbglaaGreatDoor
namespace Uq

/-- What a quoted text stands for, inside its quotes. -/
def unq : List UInt8 → Option (List UInt8)
  | [] => some []
  | [c] => if c.toNat = 34 ∨ c.toNat = 10 ∨ c.toNat = 92 then none else some [c]
  | c :: d :: r =>
    if c.toNat = 34 ∨ c.toNat = 10 then none
    else if c.toNat = 92 then
      if d.toNat = 34 ∨ d.toNat = 92 then (unq r).map (d :: ·)
      else if d.toNat = 110 then (unq r).map (10 :: ·) else none
    else (unq (d :: r)).map (c :: ·)
theorem unq_bad (c : UInt8) (r : List UInt8) (h : c.toNat = 34 ∨ c.toNat = 10) : unq (c :: r) = none := by
  cases r with
  | nil => unfold unq; rw [if_pos]; rcases h with h | h; exact .inl h; exact .inr (.inl h)
  | cons d r => unfold unq; rw [if_pos h]
theorem unq_plain (c : UInt8) (r : List UInt8) (h1 : c.toNat ≠ 34) (h2 : c.toNat ≠ 10) (h3 : c.toNat ≠ 92) : unq (c :: r) = (unq r).map (c :: ·) := by
  cases r with
  | nil =>
    show unq [c] = some [c]
    unfold unq
    rw [if_neg (by rintro (h | h | h) <;> contradiction)]
  | cons d r => rw [unq, if_neg (by rintro (h | h) <;> contradiction), if_neg h3]
theorem unq_end (c : UInt8) (h : c.toNat = 92) : unq [c] = none := by rw [unq, if_pos (.inr (.inr h))]
theorem unq_esc (c d : UInt8) (r : List UInt8) (h : c.toNat = 92) (hd : d.toNat = 34 ∨ d.toNat = 92) : unq (c :: d :: r) = (unq r).map (d :: ·) := by
  rw [unq, if_neg (by omega), if_pos h, if_pos hd]
theorem unq_n (c d : UInt8) (r : List UInt8) (h : c.toNat = 92) (hd : d.toNat = 110) : unq (c :: d :: r) = (unq r).map (10 :: ·) := by
  rw [unq, if_neg (by omega), if_pos h, if_neg (by omega), if_pos hd]
theorem unq_no (c d : UInt8) (r : List UInt8) (h : c.toNat = 92) (h1 : d.toNat ≠ 34) (h2 : d.toNat ≠ 92) (h3 : d.toNat ≠ 110) : unq (c :: d :: r) = none := by
  rw [unq, if_neg (by omega), if_pos h, if_neg (by omega), if_neg h3]
theorem drop_get (l : List UInt8) (i : Nat) (h : i < l.length) : l.drop i = l[i] :: l.drop (i + 1) := List.drop_eq_getElem_cons h
/-- How far the reading has come: what has been read, and what is to come. -/
def At (l : List UInt8) (i : Nat) (pre : List UInt8) : Prop := unq l = (unq (l.drop i)).map (pre ++ ·) ∧ pre.length ≤ i ∧ i ≤ l.length
theorem at_zero (l : List UInt8) : At l 0 [] := ⟨by rw [List.drop_zero]; cases unq l <;> simp, Nat.le_refl _, Nat.zero_le _⟩
theorem at_end {l : List UInt8} {i : Nat} {pre : List UInt8} (h : At l i pre) (hi : l.length ≤ i) : unq l = some pre := by
  rw [h.1, List.drop_eq_nil_of_le hi]
  simp [unq]
theorem at_bad {l : List UInt8} {i : Nat} {pre : List UInt8} (h : At l i pre) (hi : i < l.length) (hc : (l[i]).toNat = 34 ∨ (l[i]).toNat = 10) : unq l = none := by
  rw [h.1, drop_get l i hi, unq_bad _ _ hc]; rfl
theorem at_plain {l : List UInt8} {i : Nat} {pre : List UInt8} (h : At l i pre) (hi : i < l.length) (h1 : (l[i]).toNat ≠ 34) (h2 : (l[i]).toNat ≠ 10) (h3 : (l[i]).toNat ≠ 92) : At l (i + 1) (pre ++ [l[i]]) := by
  refine ⟨?_, by have := h.2.1; simp; omega, hi⟩
  rw [h.1, drop_get l i hi, unq_plain _ _ h1 h2 h3]
  cases unq (l.drop (i + 1)) <;> simp
theorem at_last {l : List UInt8} {i : Nat} {pre : List UInt8} (h : At l i pre) (hi : i < l.length) (hc : (l[i]).toNat = 92) (hl : l.length = i + 1) : unq l = none := by
  rw [h.1, drop_get l i hi, List.drop_eq_nil_of_le (by omega), unq_end _ hc]; rfl
theorem at_esc {l : List UInt8} {i : Nat} {pre : List UInt8} (h : At l i pre) (hi : i + 1 < l.length) (hc : (l[i]).toNat = 92) (hd : (l[i + 1]).toNat = 34 ∨ (l[i + 1]).toNat = 92) : At l (i + 2) (pre ++ [l[i + 1]]) := by
  refine ⟨?_, by have := h.2.1; simp; omega, hi⟩
  rw [h.1, drop_get l i (by omega), drop_get l (i + 1) hi, unq_esc _ _ _ hc hd]
  cases unq (l.drop (i + 1 + 1)) <;> simp
theorem at_n {l : List UInt8} {i : Nat} {pre : List UInt8} (h : At l i pre) (hi : i + 1 < l.length) (hc : (l[i]).toNat = 92) (hd : (l[i + 1]).toNat = 110) : At l (i + 2) (pre ++ [10]) := by
  refine ⟨?_, by have := h.2.1; simp; omega, hi⟩
  rw [h.1, drop_get l i (by omega), drop_get l (i + 1) hi, unq_n _ _ _ hc hd]
  cases unq (l.drop (i + 1 + 1)) <;> simp
theorem at_no {l : List UInt8} {i : Nat} {pre : List UInt8} (h : At l i pre) (hi : i + 1 < l.length) (hc : (l[i]).toNat = 92) (h1 : (l[i + 1]).toNat ≠ 34) (h2 : (l[i + 1]).toNat ≠ 92) (h3 : (l[i + 1]).toNat ≠ 110) : unq l = none := by
  rw [h.1, drop_get l i (by omega), drop_get l (i + 1) hi, unq_no _ _ _ hc h1 h2 h3]; rfl
/-- A text in quotes. -/
def uq (l : List UInt8) : Option (List UInt8) :=
  if l.length < 2 ∨ (l.head?.map (·.toNat)) ≠ some 34 ∨ (l.getLast?.map (·.toNat)) ≠ some 34 then none else unq ((l.drop 1).take (l.length - 2))
end Uq
end Go.Proofs.YtbnicnhkakbglaaGreatDoor

/- Small functions on the way to a float: bool2, unmin, round, log2Pow10, Len64, Mul64. -/
namespace Go.Proofs.YtbnicnhkakbglaaGreatDoor
open Go.RowKit
namespace Us

def b2 (b : Bool) : Nat := if b then 1 else 0
set_option maxRecDepth 100000 in
theorem bool97 (b : Bool) (w : World) : Calls Tryz.prog 191 #[.bool b] w fun e w' => e = .returned (.int .u64 (b2 b : Nat)) ∧ w' = w := by
  cases b
  · go_enter Tryz.func191, Tryz.ntmps191
    go_wp2_with fail
    go_ret
    exact ⟨rfl, rfl⟩
  · go_enter Tryz.func191, Tryz.ntmps191
    go_wp2_with fail
    go_ret
    exact ⟨rfl, rfl⟩
set_option maxRecDepth 100000 in
theorem bool84 (b : Bool) (w : World) : Calls Tryz.prog 174 #[.bool b] w fun e w' => e = .returned (.int .i64 (b2 b : Nat)) ∧ w' = w := by
  cases b
  · go_enter Tryz.func174, Tryz.ntmps174
    go_wp2_with fail
    go_ret
    exact ⟨rfl, rfl⟩
  · go_enter Tryz.func174, Tryz.ntmps174
    go_wp2_with fail
    go_ret
    exact ⟨rfl, rfl⟩
set_option maxRecDepth 100000 in
theorem unmin130 (w : World) : Calls Tryz.prog 232 #[.int .u64 9007199254740992] w fun e w' => e = .returned (.int .u64 36028797018963966) ∧ w' = w := by
  go_enter Tryz.func232, Tryz.ntmps232
  go_wp2_with fail
  go_ret
  exact ⟨rfl, rfl⟩
/-- Rounded to the even neighbour. -/
def rnd (u : Nat) : Nat := (u + 1 + u / 4 % 2) / 4
set_option maxRecDepth 100000 in
theorem round132 (u : Nat) (hu : u < 9223372036854775808) (w : World) : Calls Tryz.prog 234 #[.int .u64 (u : Nat)] w fun e w' => e = .returned (.int .u64 (rnd u : Nat)) ∧ w' = w := by
  have h1 : bits .and .u64 ((u : Int) / 4) 1 = ((u / 4 % 2 : Nat) : Int) := by
    have h := u64_and_nat (u / 4) 1 (by omega) (by omega)
    rw [nat_mask1] at h
    rw [show (u : Int) / 4 = ((u / 4 : Nat) : Int) from by omega]
    exact h
  obtain ⟨B, hB⟩ : ∃ B, B = u / 4 % 2 := ⟨_, rfl⟩
  have hB2 : B ≤ 1 := by omega
  have HR : Hid (rnd u = (u + 1 + B) / 4) := Lib.hid (by rw [hB]; rfl)
  rw [← hB] at h1
  clear hB
  go_enter Tryz.func234, Tryz.ntmps234
  go_wp2_with fail
  go_ret
  exact ⟨by rw [HR.out]; congr 1, rfl⟩
def lg (p : Int) : Int := p * 108853 / 32768
set_option maxRecDepth 100000 in
theorem log127 (p : Int) (h1 : -1000 ≤ p) (h2 : p ≤ 1000) (w : World) : Calls Tryz.prog 229 #[.int .i64 p] w fun e w' => e = .returned (.int .i64 (lg p)) ∧ w' = w := by
  go_enter Tryz.func229, Tryz.ntmps229
  go_wp2_with fail
  go_ret
  exact ⟨rfl, rfl⟩

theorem mul_hi (x y : Nat) :
    x / 4294967296 * (y / 4294967296) + (x / 4294967296 * (y % 4294967296) + x % 4294967296 * (y % 4294967296) / 4294967296) / 4294967296 +
      ((x / 4294967296 * (y % 4294967296) + x % 4294967296 * (y % 4294967296) / 4294967296) % 4294967296 + x % 4294967296 * (y / 4294967296)) / 4294967296 = x * y / 18446744073709551616 := by
  obtain ⟨x0, hx0⟩ : ∃ a, a = x % 4294967296 := ⟨_, rfl⟩
  obtain ⟨x1, hx1⟩ : ∃ a, a = x / 4294967296 := ⟨_, rfl⟩
  obtain ⟨y0, hy0⟩ : ∃ a, a = y % 4294967296 := ⟨_, rfl⟩
  obtain ⟨y1, hy1⟩ : ∃ a, a = y / 4294967296 := ⟨_, rfl⟩
  have ex : x = x1 * 4294967296 + x0 := by omega
  have ey : y = y1 * 4294967296 + y0 := by omega
  rw [← hx0, ← hx1, ← hy0, ← hy1]
  have e : x * y = x1 * y1 * 18446744073709551616 + (x1 * y0 + x0 * y1) * 4294967296 + x0 * y0 := by
    rw [ex, ey, Nat.add_mul, Nat.mul_add, Nat.mul_add, Nat.add_mul]
    have a1 : x1 * 4294967296 * (y1 * 4294967296) = x1 * y1 * 18446744073709551616 := by
      rw [Nat.mul_mul_mul_comm]
    have a2 : x1 * 4294967296 * y0 = x1 * y0 * 4294967296 := Nat.mul_right_comm _ _ _
    have a3 : x0 * (y1 * 4294967296) = x0 * y1 * 4294967296 := (Nat.mul_assoc _ _ _).symm
    rw [a1, a2, a3]
    omega
  rw [e]
  generalize x1 * y1 = p
  generalize x1 * y0 = q
  generalize x0 * y1 = r
  generalize x0 * y0 = s
  omega

set_option maxRecDepth 100000 in
set_option maxHeartbeats 1000000 in
theorem mul152 (x y : Nat) (hx : x < 18446744073709551616) (hy : y < 18446744073709551616) (w : World) :
    Calls Tryz.prog 257 #[.int .u64 (x : Nat), .int .u64 (y : Nat)] w fun e w' => e = .returned (.tuple #[.int .u64 (x * y / 18446744073709551616 : Nat), .int .u64 (x * y % 18446744073709551616 : Nat)]) ∧ w' = w := by
  have a1 : bits .and .u64 (x : Int) 4294967295 = ((x % 4294967296 : Nat) : Int) := by
    have h := u64_and_nat x 4294967295 hx (by omega)
    rw [show (4294967295 : Nat) = 2 ^ 32 - 1 from rfl, Nat.and_two_pow_sub_one_eq_mod] at h
    exact h
  have a2 : bits .and .u64 (y : Int) 4294967295 = ((y % 4294967296 : Nat) : Int) := by
    have h := u64_and_nat y 4294967295 hy (by omega)
    rw [show (4294967295 : Nat) = 2 ^ 32 - 1 from rfl, Nat.and_two_pow_sub_one_eq_mod] at h
    exact h
  have HM := mul_hi x y
  obtain ⟨X0, hX0⟩ : ∃ a, a = x % 4294967296 := ⟨_, rfl⟩
  obtain ⟨X1, hX1⟩ : ∃ a, a = x / 4294967296 := ⟨_, rfl⟩
  obtain ⟨Y0, hY0⟩ : ∃ a, a = y % 4294967296 := ⟨_, rfl⟩
  obtain ⟨Y1, hY1⟩ : ∃ a, a = y / 4294967296 := ⟨_, rfl⟩
  rw [← hX0, ← hX1, ← hY0, ← hY1] at HM
  rw [← hX0] at a1
  rw [← hY0] at a2
  have dx : (x : Int) / 4294967296 = (X1 : Int) := by omega
  have dy : (y : Int) / 4294967296 = (Y1 : Int) := by omega
  have bX0 : X0 ≤ 4294967295 := by omega
  have bX1 : X1 ≤ 4294967295 := by omega
  have bY0 : Y0 ≤ 4294967295 := by omega
  have bY1 : Y1 ≤ 4294967295 := by omega
  have big : ∀ a b : Nat, a ≤ 4294967295 → b ≤ 4294967295 → a * b ≤ 18446744065119617025 := fun a b ha hb => Nat.mul_le_mul ha hb
  have bP := big X1 Y1 bX1 bY1
  have bQ := big X1 Y0 bX1 bY0
  have bR := big X0 Y1 bX0 bY1
  have bS := big X0 Y0 bX0 bY0
  have eP : (X1 : Int) * (Y1 : Int) = ((X1 * Y1 : Nat) : Int) := by push_cast; rfl
  have eQ : (X1 : Int) * (Y0 : Int) = ((X1 * Y0 : Nat) : Int) := by push_cast; rfl
  have eR : (X0 : Int) * (Y1 : Int) = ((X0 * Y1 : Nat) : Int) := by push_cast; rfl
  have eS : (X0 : Int) * (Y0 : Int) = ((X0 * Y0 : Nat) : Int) := by push_cast; rfl
  obtain ⟨P, hP⟩ : ∃ a, a = X1 * Y1 := ⟨_, rfl⟩
  obtain ⟨Q, hQ⟩ : ∃ a, a = X1 * Y0 := ⟨_, rfl⟩
  obtain ⟨R, hR⟩ : ∃ a, a = X0 * Y1 := ⟨_, rfl⟩
  obtain ⟨S, hS⟩ : ∃ a, a = X0 * Y0 := ⟨_, rfl⟩
  rw [← hP] at bP eP HM
  rw [← hQ] at bQ eQ HM
  rw [← hR] at bR eR HM
  rw [← hS] at bS eS HM
  obtain ⟨T, hT⟩ : ∃ a, a = Q + S / 4294967296 := ⟨_, rfl⟩
  have bT : T < 18446744073709551616 := by omega
  have eT : (Q : Int) + (S : Int) / 4294967296 = (T : Int) := by omega
  rw [← hT] at HM
  have a3 : bits .and .u64 (T : Int) 4294967295 = ((T % 4294967296 : Nat) : Int) := by
    have h := u64_and_nat T 4294967295 bT (by omega)
    rw [show (4294967295 : Nat) = 2 ^ 32 - 1 from rfl, Nat.and_two_pow_sub_one_eq_mod] at h
    exact h
  obtain ⟨T0, hT0⟩ : ∃ a, a = T % 4294967296 := ⟨_, rfl⟩
  rw [← hT0] at a3 HM
  have bT0 : T0 ≤ 4294967295 := by omega
  obtain ⟨V, hV⟩ : ∃ a, a = T0 + R := ⟨_, rfl⟩
  have bV : V < 18446744073709551616 := by omega
  have eV : (T0 : Int) + (R : Int) = (V : Int) := by omega
  rw [← hV] at HM
  have elo : IntKind.u64.wrap ((x : Int) * (y : Int)) = ((x * y % 18446744073709551616 : Nat) : Int) := by
    have h : (x : Int) * (y : Int) = ((x * y : Nat) : Int) := by push_cast; rfl
    rw [IntKind.wrap_u64, h]
    generalize x * y = z
    omega
  obtain ⟨LO, hLO⟩ : ∃ a, a = x * y % 18446744073709551616 := ⟨_, rfl⟩
  obtain ⟨HI, hHI⟩ : ∃ a, a = x * y / 18446744073709551616 := ⟨_, rfl⟩
  have bHI : HI < 18446744073709551616 := by
    rw [hHI, Nat.div_lt_iff_lt_mul (by decide)]
    have : x * y ≤ 18446744073709551615 * 18446744073709551615 := Nat.mul_le_mul (by omega) (by omega)
    omega
  rw [← hLO] at elo ⊢
  rw [← hHI] at HM ⊢
  have HMI : Hid ((P : Int) + (T : Int) / 4294967296 + (V : Int) / 4294967296 = (HI : Int)) := Lib.hid (by omega)
  have hPT : P + T / 4294967296 < 18446744073709551616 := by omega
  clear hX0 hX1 hY0 hY1 hP hQ hR hS hT hT0 hV hLO hHI big HM
  go_enter Tryz.func257, Tryz.ntmps257
  go_wp2_with fail
  go_ret2
  exact ⟨by rw [← HMI.out]; rfl, rfl⟩

/-- How many bits. -/
def Lg (x b : Nat) : Prop := b ≤ 64 ∧ x < 2 ^ b ∧ (x ≠ 0 → 1 ≤ b ∧ 2 ^ (b - 1) ≤ x)
end Us
end Go.Proofs.YtbnicnhkakbglaaGreatDoor

/- pack64. -/
namespace Go.Proofs.YtbnicnhkakbglaaGreatDoor
open Go.RowKit
namespace Us

theorem run98 (b : Int) (w : World) : (callFunc 192 #[.int .u64 b]).run Tryz.prog w = .ok (.value (.float .f64 b.toNat)) w := by
  rw [run_callFunc_extern Tryz.func192 (by kernel_rfl) (by kernel_rfl) (by kernel_rfl) (e := Extern.MathFloatBits.float64frombits) (by kernel_rfl)]; rfl
theorem and_pow (x i : Nat) : x &&& 2 ^ i = x / 2 ^ i % 2 * 2 ^ i := by
  apply Nat.eq_of_testBit_eq
  intro j
  rw [Nat.testBit_and, Nat.testBit_two_pow]
  have h2 : x / 2 ^ i % 2 = 0 ∨ x / 2 ^ i % 2 = 1 := by omega
  by_cases e : i = j
  · subst e
    rw [decide_eq_true rfl, Bool.and_true, Nat.testBit_eq_decide_div_mod_eq]
    rcases h2 with h | h <;> rw [h] <;> simp
  · rw [decide_eq_false e, Bool.and_false]
    rcases h2 with h | h <;> rw [h]
    · simp
    · rw [Nat.one_mul, Nat.testBit_two_pow, decide_eq_false e]
theorem and_bit (s r : Nat) (_hs : s ≤ 1) (hr : r < 9007199254740992) : (s * 9223372036854775808 + r) &&& 4503599627370496 = r / 4503599627370496 * 4503599627370496 := by
  rw [show (4503599627370496 : Nat) = 2 ^ 52 from rfl, and_pow]
  have h : (s * 9223372036854775808 + r) / 2 ^ 52 % 2 = r / 2 ^ 52 := by omega
  rw [h]
theorem not_bit (h l : Nat) (hl : l < 2 ^ 52) (hh : 2 ^ 53 * h + (2 ^ 52 + l) < 2 ^ 64) : (2 ^ 53 * h + (2 ^ 52 + l)) &&& (2 ^ 64 - (2 ^ 52 + 1)) = 2 ^ 53 * h + l := by
  apply Nat.eq_of_testBit_eq
  intro j
  rw [Nat.testBit_and, Nat.testBit_two_pow_sub_succ (by decide), Nat.testBit_two_pow]
  rw [Nat.testBit_two_pow_mul_add h (show 2 ^ 52 + l < 2 ^ 53 by omega), Nat.testBit_two_pow_mul_add h (show l < 2 ^ 53 by omega)]
  by_cases h53 : j < 53
  · rw [if_pos h53, if_pos h53, decide_eq_true (show j < 64 by omega), Bool.true_and]
    by_cases h52 : j = 52
    · subst h52
      rw [decide_eq_true rfl, Bool.not_true, Bool.and_false]
      exact (Nat.testBit_lt_two_pow hl).symm
    · rw [decide_eq_false (fun e => h52 e.symm), Bool.not_false, Bool.and_true, Nat.testBit_two_pow_add_gt (by omega)]
  · rw [if_neg h53, if_neg h53]
    by_cases h64 : j < 64
    · rw [decide_eq_true h64, decide_eq_false (show ¬ 52 = j by omega)]
      simp
    · rw [decide_eq_false h64, Bool.false_and, Bool.and_false]
      have hb : h < 2 ^ 11 := by omega
      exact (Nat.testBit_lt_two_pow (Nat.lt_of_lt_of_le hb (Nat.pow_le_pow_right (by decide) (by omega)))).symm
/-- The float of a number of 53 bits and an exponent. -/
def pk (s r : Nat) (e : Int) : Nat :=
  if r < 4503599627370496 then s * 9223372036854775808 + r
  else if 972 ≤ e then s * 9223372036854775808 + 9218868437227405312
  else s * 9223372036854775808 + (1075 + e).toNat * 4503599627370496 + (r - 4503599627370496)
def pkErr (r : Nat) (e : Int) : Bool := decide (4503599627370496 ≤ r) && decide (972 ≤ e)
def errOf (b : Bool) : Value := if b then .iface 137 (.int .i64 1) else .nilIface

set_option maxRecDepth 100000 in
set_option maxHeartbeats 1000000 in
theorem pack134 (s r : Nat) (e : Int) (hs : s ≤ 1) (hr : r < 9007199254740992) (he1 : -1074 ≤ e) (he2 : e ≤ 2000) (w : World) :
    Calls Tryz.prog 236 #[.int .u64 ((s * 9223372036854775808 + r : Nat) : Int), .int .i64 e] w fun x w' => x = .returned (.tuple #[.float .f64 (pk s r e), errOf (pkErr r e)]) ∧ w' = w := by
  have r98 := run98
  have ha : bits .and .u64 ((s * 9223372036854775808 + r : Nat) : Int) 4503599627370496 = ((r / 4503599627370496 * 4503599627370496 : Nat) : Int) := by
    have h := u64_and_nat (s * 9223372036854775808 + r) 4503599627370496 (by omega) (by omega)
    rw [and_bit s r hs hr] at h
    exact h
  obtain ⟨X, hX⟩ : ∃ X, X = s * 9223372036854775808 + r := ⟨_, rfl⟩
  rw [← hX] at ha ⊢
  have bX : X < 18446744073709551616 := by omega
  by_cases h52 : r < 4503599627370496
  · rw [show r / 4503599627370496 * 4503599627370496 = 0 from by omega] at ha
    have HP : Hid (pk s r e = X ∧ pkErr r e = false) := Lib.hid ⟨by unfold pk; rw [if_pos h52, hX], by unfold pkErr; rw [decide_eq_false (by omega)]; rfl⟩
    clear hX
    go_enter Tryz.func236, Tryz.ntmps236
    go_wp2_with fail
    go_ret2
    exact ⟨by rw [HP.out.1, HP.out.2]; rfl, rfl⟩
  · rw [show r / 4503599627370496 * 4503599627370496 = 4503599627370496 from by omega] at ha
    by_cases h97 : 972 ≤ e
    · have HP : Hid (pk s r e = s * 9223372036854775808 + 9218868437227405312 ∧ pkErr r e = true) := Lib.hid ⟨by unfold pk; rw [if_neg h52, if_pos h97], by unfold pkErr; rw [decide_eq_true (by omega), decide_eq_true h97]; rfl⟩
      have a2 : bits .and .u64 (X : Int) 9223372036854775808 = ((s * 9223372036854775808 : Nat) : Int) := by
        have h := u64_and_nat X 9223372036854775808 bX (by omega)
        rw [show (9223372036854775808 : Nat) = 2 ^ 63 from rfl, and_pow] at h
        have h3 : X / 2 ^ 63 % 2 = s := by omega
        rw [h3] at h
        have h2 : s = 0 ∨ s = 1 := by omega
        rcases h2 with rfl | rfl <;> exact h
      have a3 : bits .or .u64 ((s * 9223372036854775808 : Nat) : Int) 9218868437227405312 = ((s * 9223372036854775808 + 9218868437227405312 : Nat) : Int) := by
        have h2 : s = 0 ∨ s = 1 := by omega
        rcases h2 with rfl | rfl
        · exact (u64_or_nat (0 * 9223372036854775808) 9218868437227405312 (by decide) (by decide)).trans (congrArg (fun z : Nat => (z : Int)) (by decide +kernel))
        · exact (u64_or_nat (1 * 9223372036854775808) 9218868437227405312 (by decide) (by decide)).trans (congrArg (fun z : Nat => (z : Int)) (by decide +kernel))
      obtain ⟨A, hA⟩ : ∃ A, A = s * 9223372036854775808 := ⟨_, rfl⟩
      obtain ⟨B, hB⟩ : ∃ B, B = s * 9223372036854775808 + 9218868437227405312 := ⟨_, rfl⟩
      rw [← hA] at a2 a3
      rw [← hA] at hB
      rw [← hA, ← hB] at HP
      rw [← hB] at a3
      have bB : B < 18446744073709551616 := by omega
      clear hX hA hB
      go_enter Tryz.func236, Tryz.ntmps236
      go_wp2_with fail
      go_ret2
      exact ⟨by rw [HP.out.1, HP.out.2]; rfl, rfl⟩
    · have HP : Hid (pk s r e = s * 9223372036854775808 + (1075 + e).toNat * 4503599627370496 + (r - 4503599627370496) ∧ pkErr r e = false) := Lib.hid ⟨by unfold pk; rw [if_neg h52, if_neg h97], by unfold pkErr; rw [decide_eq_false h97, Bool.and_false]⟩
      have a2 : bits .andNot .u64 (X : Int) 4503599627370496 = ((s * 9223372036854775808 + (r - 4503599627370496) : Nat) : Int) := by
        have h := u64_andNot_nat X 4503599627370496 bX (by omega)
        have e : X = 2 ^ 53 * (s * 2 ^ 10) + (2 ^ 52 + (r - 4503599627370496)) := by omega
        rw [show (18446744073709551615 - 4503599627370496 : Nat) = 2 ^ 64 - (2 ^ 52 + 1) from rfl] at h
        refine h.trans (congrArg (fun z : Nat => (z : Int)) ?_)
        rw [e, not_bit _ _ (by omega) (by omega)]
        omega
      obtain ⟨k, hk⟩ : ∃ k : Nat, k = (1075 + e).toNat := ⟨_, rfl⟩
      have hki : 1075 + e = (k : Int) := by omega
      have hk2 : k ≤ 2046 := by omega
      have a3 : bits .or .u64 ((s * 9223372036854775808 + (r - 4503599627370496) : Nat) : Int) ((k * 4503599627370496 : Nat) : Int) = ((s * 9223372036854775808 + k * 4503599627370496 + (r - 4503599627370496) : Nat) : Int) := by
        refine (u64_or_nat _ _ (by omega) (by omega)).trans (congrArg (fun z : Nat => (z : Int)) ?_)
        have f1 := nat_join 63 (s * 9223372036854775808) (r - 4503599627370496) (by omega) (by omega)
        have f2 := nat_join 52 (k * 4503599627370496) (r - 4503599627370496) (by omega) (by omega)
        have f3 := nat_join 63 (s * 9223372036854775808) (k * 4503599627370496 + (r - 4503599627370496)) (by omega) (by omega)
        rw [← f1, Nat.or_assoc, Nat.or_comm (r - 4503599627370496), f2, f3]
        omega
      rw [← hk] at HP
      obtain ⟨A, hA⟩ : ∃ A, A = s * 9223372036854775808 + (r - 4503599627370496) := ⟨_, rfl⟩
      obtain ⟨B, hB⟩ : ∃ B, B = s * 9223372036854775808 + k * 4503599627370496 + (r - 4503599627370496) := ⟨_, rfl⟩
      rw [← hA] at a2 a3
      rw [← hB] at a3 HP
      have bB : B < 18446744073709551616 := by omega
      have bA : A < 18446744073709551616 := by omega
      have a4 : ((k * 4503599627370496 : Nat) : Int) = (k : Int) * 4503599627370496 := by omega
      rw [a4] at a3
      clear hX hA hB hk a4
      go_enter Tryz.func236, Tryz.ntmps236
      go_wp2_with fail
      go_ret2
      exact ⟨by rw [HP.out.1, HP.out.2]; rfl, rfl⟩
end Us
end Go.Proofs.YtbnicnhkakbglaaGreatDoor
