/- Escapes; names. -/
import Derived.Test.YtalanjhpacjmmaaGreatSb
import Derived.Test.YtalanjhpacjmmaaGreatShelf
import Derived.RegionTactic
import Derived.Deep.RegionHeld
namespace Go.Proofs.YtalanjhpacjmmaaGreat
set_option maxRecDepth 100000
open Go.RowKit
namespace Sc
open Jb Sa Sb

set_option maxRecDepth 100000 in
theorem isEscaped29 (w : World) (c : Nat) : Calls Tryz.prog 101 #[.int .u8 (c : Nat)] w fun e w' => e = .returned (.bool (spn c)) ∧ w' = w := by
  obtain ⟨A, hA⟩ : ∃ A, A = spn c := ⟨_, rfl⟩
  rw [← hA]
  have HA := Lib.hid hA
  clear hA
  by_cases h1 : c = 44 ∨ c = 61 ∨ c = 32 ∨ c = 35 ∨ c = 92
  · have e : A = true := by rw [HA.out]; unfold spn; rcases h1 with h | h | h | h | h <;> rw [h] <;> rfl
    subst e
    clear HA
    rcases h1 with rfl | rfl | rfl | rfl | rfl <;>
    · go_enter Tryz.func101, Tryz.ntmps101
      go_wp2_with fail
      go_ret
      trivial
  · have e : A = false := by
      rw [HA.out]; unfold spn
      have : ∀ k, c ≠ k → (c == k) = false := fun k h => by simp [h]
      rw [this 44 (fun h => h1 (.inl h)), this 61 (fun h => h1 (.inr (.inl h))), this 32 (fun h => h1 (.inr (.inr (.inl h)))), this 35 (fun h => h1 (.inr (.inr (.inr (.inl h))))), this 92 (fun h => h1 (.inr (.inr (.inr (.inr h)))))]
      rfl
    have q1 : ((c : Int) == 44) = false := by simp; omega
    have q2 : ((c : Int) == 61) = false := by simp; omega
    have q3 : ((c : Int) == 32) = false := by simp; omega
    have q4 : ((c : Int) == 35) = false := by simp; omega
    have q5 : ((c : Int) == 92) = false := by simp; omega
    subst e
    clear HA h1
    go_enter Tryz.func101, Tryz.ntmps101
    go_wp2_with fail
    go_ret
    trivial
set_option maxRecDepth 100000 in
theorem special25 (w : World) (c : Nat) : Calls Tryz.prog 106 #[.int .u8 (c : Nat)] w fun e w' => e = .returned (.bool (spn c)) ∧ w' = w := by
  obtain ⟨A, hA⟩ : ∃ A, A = spn c := ⟨_, rfl⟩
  rw [← hA]
  have HA := Lib.hid hA
  clear hA
  by_cases h1 : c = 44 ∨ c = 61 ∨ c = 32 ∨ c = 35 ∨ c = 92
  · have e : A = true := by rw [HA.out]; unfold spn; rcases h1 with h | h | h | h | h <;> rw [h] <;> rfl
    subst e
    clear HA
    rcases h1 with rfl | rfl | rfl | rfl | rfl <;>
    · go_enter Tryz.func106, Tryz.ntmps106
      go_wp2_with fail
      go_ret
      trivial
  · have e : A = false := by
      rw [HA.out]; unfold spn
      have : ∀ k, c ≠ k → (c == k) = false := fun k h => by simp [h]
      rw [this 44 (fun h => h1 (.inl h)), this 61 (fun h => h1 (.inr (.inl h))), this 32 (fun h => h1 (.inr (.inr (.inl h)))), this 35 (fun h => h1 (.inr (.inr (.inr (.inl h))))), this 92 (fun h => h1 (.inr (.inr (.inr (.inr h)))))]
      rfl
    have q1 : ((c : Int) == 44) = false := by simp; omega
    have q2 : ((c : Int) == 61) = false := by simp; omega
    have q3 : ((c : Int) == 32) = false := by simp; omega
    have q4 : ((c : Int) == 35) = false := by simp; omega
    have q5 : ((c : Int) == 92) = false := by simp; omega
    subst e
    clear HA h1
    go_enter Tryz.func106, Tryz.ntmps106
    go_wp2_with fail
    go_ret
    trivial
set_option maxRecDepth 100000 in
/-- The program's test of names. -/
theorem isName23 (w : World) (s : ByteArray) (hs : s.size ≤ 140737488355328) : Calls Tryz.prog 100 #[.string s] w fun e w' => e = .returned (.bool (isNm s)) ∧ w' = w := by
  obtain ⟨A, hA⟩ : ∃ A, A = isNm s := ⟨_, rfl⟩
  rw [← hA]
  have hq := fun (y : World) (k : Nat) (hk : k < s.size) => idx y s k hk
  have HQ := Lib.hid hq
  have HA := Lib.hid hA
  obtain ⟨n, hn⟩ : ∃ n, n = s.size := ⟨_, rfl⟩
  have hlen : ∀ (ty : TypeId) (y : World), (Builtin.len_ #[9] ty #[.string s]).run Tryz.prog y = .ok (.int .i64 (n : Nat)) y := fun ty y => by rw [hn]; exact run_len_string y 9 ty s Tryz.underlying9
  rw [← hn] at hs
  have HN := Lib.hid hn
  clear hA hq hn
  by_cases h0 : n = 0
  · have e1 : A = false := by rw [HA.out, isNm]; apply decide_eq_false; rintro ⟨a, -⟩; have := HN.out; omega
    obtain rfl := nil_of (HN.out.symm.trans h0)
    subst h0 e1
    go_enter Tryz.func100, Tryz.ntmps100
    go_wp2_with fail
    go_ret
    trivial
  obtain ⟨es, es2⟩ := nil_no (f := s) (by
    intro e
    have h := HN.out
    rw [e] at h
    exact h0 h)
  have d1 : decide ((n : Int) < 1) = false := decide_eq_false (by omega)
  by_cases h1 : 64 < n
  · have e1 : A = false := by rw [HA.out, isNm]; apply decide_eq_false; rintro ⟨-, a, -⟩; have := HN.out; omega
    have d2 : decide ((n : Int) > 64) = true := decide_eq_true (by omega)
    subst e1
    clear h0 h1
    go_enter Tryz.func100, Tryz.ntmps100
    go_wp2_with fail
    go_ret
    trivial
  have d2 : decide ((n : Int) > 64) = false := decide_eq_false (by omega)
  have HN0 := Lib.hid h0
  have HN1 := Lib.hid h1
  clear h0 h1
  go_enter Tryz.func100, Tryz.ntmps100
  go_wp2_with fail
  go_loopw [3, 13] (fun _ i wr => ∃ k, k ≤ n ∧ i = .int .i64 (k : Nat) ∧ (∀ j, j < k → good s j = true) ∧ wr = w) (fun _ i _ => n - (intOf i).toNat)
  case atStart => exact ⟨0, Nat.zero_le _, rfl, fun j hj => by omega, by first | rfl | trivial⟩
  case round =>
    obtain ⟨k, hk, rfl, hall, rfl⟩ := hrel
    have HALL := Lib.hid hall
    clear hall
    by_cases hkn : k < n
    · have hi := fun (y : World) => HQ.out y k (by rw [← HN.out]; exact hkn)
      obtain ⟨b, hb⟩ : ∃ b, b = by8 s k := ⟨_, rfl⟩
      have hbl := by8_lt s k
      rw [← hb] at hi hbl
      have HB := Lib.hid hb
      clear hb
      by_cases hf : 32 ≤ b ∧ b ≠ 127
      · obtain ⟨f1, f2⟩ := hf
        have HG : good s k = true := by unfold good; rw [← HB.out, decide_eq_true f1, decide_eq_true f2]; rfl
        have q1 : decide ((b : Int) < 32) = false := decide_eq_false (by omega)
        have q2 : ((b : Int) == 127) = false := by simp; omega
        go_wp2_with fail
        go_roundw
        case rel =>
          refine ⟨k + 1, by omega, by go_num, fun j hj => ?_, by first | rfl | trivial⟩
          by_cases e : j = k
          · rw [e]; exact HG
          · exact HALL.out j (by omega)
        case measure => simp [intOf]; omega
      · have e1 : A = false := by
          rw [HA.out, isNm]
          apply decide_eq_false
          rintro ⟨-, -, a⟩
          have := a k (by rw [← HN.out]; exact hkn)
          unfold good at this
          rw [← HB.out] at this
          simp at this
          exact hf this
        by_cases f1 : b < 32
        · have q1 : decide ((b : Int) < 32) = true := decide_eq_true (by omega)
          clear hf f1
          subst e1
          go_wp2_with fail
          go_ret
          trivial
        · have q1 : decide ((b : Int) < 32) = false := decide_eq_false (by omega)
          have q2 : ((b : Int) == 127) = true := by simp; omega
          clear hf f1
          subst e1
          go_wp2_with fail
          go_ret
          trivial
    · obtain rfl : k = n := by omega
      have e1 : A = true := by
        rw [HA.out, isNm]
        apply decide_eq_true
        have a := HN.out
        have b := HN0.out
        have c := HN1.out
        exact ⟨by omega, by omega, fun j hj => HALL.out j (by omega)⟩
      subst e1
      clear hkn
      go_wp2_with fail
      go_ret
      trivial
set_option maxRecDepth 100000 in
theorem name24 (w : World) (s : ByteArray) (hs : s.size ≤ 140737488355328) : Calls Tryz.prog 105 #[.string s] w fun e w' => e = .returned (.bool (isNm s)) ∧ w' = w := by
  obtain ⟨A, hA⟩ : ∃ A, A = isNm s := ⟨_, rfl⟩
  rw [← hA]
  have hq := fun (y : World) (k : Nat) (hk : k < s.size) => idx y s k hk
  have HQ := Lib.hid hq
  have HA := Lib.hid hA
  obtain ⟨n, hn⟩ : ∃ n, n = s.size := ⟨_, rfl⟩
  have hlen : ∀ (ty : TypeId) (y : World), (Builtin.len_ #[9] ty #[.string s]).run Tryz.prog y = .ok (.int .i64 (n : Nat)) y := fun ty y => by rw [hn]; exact run_len_string y 9 ty s Tryz.underlying9
  rw [← hn] at hs
  have HN := Lib.hid hn
  clear hA hq hn
  go_enter Tryz.func105, Tryz.ntmps105
  go_wp2_with fail
  go_loopw [3] (fun i wr => ∃ k, k ≤ n ∧ i = .int .i64 (k : Nat) ∧ (∀ j, j < k → good s j = true) ∧ wr = w) (fun i _ => n - (intOf i).toNat)
  case atStart => exact ⟨0, Nat.zero_le _, rfl, fun j hj => by omega, by first | rfl | trivial⟩
  case round =>
    obtain ⟨k, hk, rfl, hall, rfl⟩ := hrel
    have HALL := Lib.hid hall
    clear hall
    by_cases hkn : k < n
    · have hi := fun (y : World) => HQ.out y k (by rw [← HN.out]; exact hkn)
      obtain ⟨b, hb⟩ : ∃ b, b = by8 s k := ⟨_, rfl⟩
      have hbl := by8_lt s k
      rw [← hb] at hi hbl
      have HB := Lib.hid hb
      clear hb
      by_cases hf : 32 ≤ b ∧ b ≠ 127
      · obtain ⟨f1, f2⟩ := hf
        have HG : good s k = true := by unfold good; rw [← HB.out, decide_eq_true f1, decide_eq_true f2]; rfl
        have q1 : decide ((b : Int) < 32) = false := decide_eq_false (by omega)
        have q2 : ((b : Int) == 127) = false := by simp; omega
        go_wp2_with fail
        go_roundw
        case rel =>
          refine ⟨k + 1, by omega, by go_num, fun j hj => ?_, by first | rfl | trivial⟩
          by_cases e : j = k
          · rw [e]; exact HG
          · exact HALL.out j (by omega)
        case measure => simp [intOf]; omega
      · have e1 : A = false := by
          rw [HA.out, isNm]
          apply decide_eq_false
          rintro ⟨-, -, a⟩
          have := a k (by rw [← HN.out]; exact hkn)
          unfold good at this
          rw [← HB.out] at this
          simp at this
          exact hf this
        by_cases f1 : b < 32
        · have q1 : decide ((b : Int) < 32) = true := decide_eq_true (by omega)
          clear hf f1
          subst e1
          go_wp2_with fail
          go_ret
          trivial
        · have q1 : decide ((b : Int) < 32) = false := decide_eq_false (by omega)
          have q2 : ((b : Int) == 127) = true := by simp; omega
          clear hf f1
          subst e1
          go_wp2_with fail
          go_ret
          trivial
    · have ek : n = k := by omega
      subst ek
      have e1 : A = decide (1 ≤ n ∧ n ≤ 64) := by
        rw [HA.out, isNm]
        have b := HN.out
        by_cases h : 1 ≤ n ∧ n ≤ 64
        · rw [decide_eq_true h]
          exact decide_eq_true ⟨by omega, by omega, fun j hj => HALL.out j (by omega)⟩
        · rw [decide_eq_false h]
          exact decide_eq_false fun h' => h ⟨by omega, by omega⟩
      clear hkn
      by_cases h1 : 1 ≤ n
      · by_cases h2 : n ≤ 64
        · rw [decide_eq_true ⟨h1, h2⟩] at e1
          subst e1
          go_wp2_with fail
          go_ret
          first | trivial | exact ⟨rfl, rfl⟩ | (simp; omega) | (simp; omega)
        · rw [decide_eq_false (fun h => h2 h.2)] at e1
          subst e1
          go_wp2_with fail
          go_ret
          first | trivial | exact ⟨rfl, rfl⟩ | (simp; omega) | (simp; omega)
      · have h0 : n = 0 := by omega
        rw [decide_eq_false (fun h => h1 h.1)] at e1
        subst e1 h0
        go_wp2_with fail
        go_ret
        first | trivial | exact ⟨rfl, rfl⟩
end Sc
end Go.Proofs.YtalanjhpacjmmaaGreat
