/- Short bytes: the walks of the program's Short and the document's. -/
import Derived.Test.YtbpkoneenihfcaaSm
import Derived.Test.YtbpkoneenihfcaaAw
import Derived.Laws.BytesArg
namespace Go.Proofs.Ytbpkoneenihfcaa
open Go.RowKit
namespace Sw
open Sm Wr

set_option maxRecDepth 100000 in
theorem or128 (x : Nat) (hx : x < 256) : x ||| 128 = x % 128 + 128 := by
  have : ∀ x : Fin 256, x.1 ||| 128 = x.1 % 128 + 128 := by decide
  exact this ⟨x, hx⟩

set_option maxRecDepth 100000 in
set_option maxHeartbeats 1000000 in
theorem short26 (n : Nat) (hn : n < 18446744073709551616) (w : World) :
    Calls Try.prog 26 #[.int .u64 (n : Nat)] w fun e w' => ∃ v l, e = .returned v ∧ IsShort n l ∧ w'.ownsRow w.heap.size 5 1 v l.length (u8s l) ∧ Below w.heap.size w w' := by
  obtain ⟨i0, hi, hz0, hz1, hz2⟩ := info_parts info5
  go_enter Try.func26, Try.ntmps26
  go_wp2_with fail
  go_loopw [0, 3] (fun x v wr => ∃ k, x = .int .u64 ((n / 128 ^ k : Nat) : Int) ∧ (∀ j, j < k → 128 ≤ n / 128 ^ j) ∧ wr.ownsRow w.heap.size 5 1 v k (u8s (sh n k)) ∧ Below w.heap.size w wr) (fun x _ _ => (intOf x).toNat)
  case atStart => exact ⟨0, by simp, fun j hj => absurd hj (by omega), World.ownsRow_nil _ _ _ _, Below.refl _ _⟩
  case round =>
    obtain ⟨k, rfl, hk, hown, hbl⟩ := hrel
    have hk9 := k_le hn hk
    have hX : n / 128 ^ k < 18446744073709551616 := Nat.lt_of_le_of_lt (Nat.div_le_self _ _) hn
    obtain ⟨X, hXe⟩ : ∃ X, X = n / 128 ^ k := ⟨_, rfl⟩
    rw [← hXe] at hX ⊢
    have HX := Lib.hid hXe
    have HK := Lib.hid hk
    have hsz := hbl.size
    clear hXe hk
    have hor : bits .or .u8 ((X : Int) % 256) 128 = ((X % 128 + 128 : Nat) : Int) := by
      have := u8_or_nat (X % 256) 128 (by omega) (by decide)
      rw [or128 _ (by omega)] at this
      rw [show ((X : Int) % 256) = ((X % 256 : Nat) : Int) from by omega]
      refine Eq.trans this ?_
      omega
    by_cases h128 : 128 ≤ X
    · go_wp2_with (at_builtin; refine wpList_append_own _ rfl (.tmp 6) (.tmp 10) 26 rfl w.heap.size 5 i0 (.int .u8 0) 1 1 Try.underlying26 hi hz0 hz1 hz2 rfl (by decide) _ _ _ rfl (hown.alloc _) ⟨wr.heap.size, 0, none⟩ 1 1 [.int .u8 ((X : Int) % 128 + 128)] rfl rfl ?c1 ?c2 ?c3 ?c4 ?c5 ?_)
      case c1 =>
        intro j u hj
        match j, hj with
        | 0, hj => simp at hj; subst hj; simp [Addr.add]
      case c2 => intro u hu; simp at hu; subst hu; rfl
      case c3 => unfold maxLen; omega
      case c4 => omega
      case c5 => simp; omega
      intro v' w2 hown' hgrow _
      have hbl2 : Below w.heap.size w w2 := (hbl.alloc (by omega) _).grown hgrow (by simp; omega) (fun r hr => (hown.lt r hr).1)
      have hown2 : w2.ownsRow w.heap.size 5 1 v' (k + 1) (u8s (sh n (k + 1))) := by
        rw [sh_succ, u8s_snoc, ← HX.out]
        rw [show ((X % 128 + 128 : Nat) : Int) = (X : Int) % 128 + 128 from by omega]
        exact hown'
      clear hgrow hown hbl hown'
      go_wp2
      go_roundw
      case rel =>
        refine ⟨k + 1, ?_, fun j hj => ?_, hown2, hbl2⟩
        · rw [Nat.pow_succ, ← Nat.div_div_eq_div_mul, ← HX.out]
          rw [show ((X / 128 : Nat) : Int) = (X : Int) / 128 from by omega]
        · by_cases e : j = k
          · subst e; rw [← HX.out]; exact h128
          · exact HK.out j (by omega)
      case measure => simp [intOf]; omega
    · have hX2 : (X : Int) % 256 = X := by omega
      go_wp2_with (at_builtin; refine wpList_append_own _ rfl (.tmp 14) (.tmp 17) 26 rfl w.heap.size 5 i0 (.int .u8 0) 1 1 Try.underlying26 hi hz0 hz1 hz2 rfl (by decide) _ _ _ rfl (hown.alloc _) ⟨wr.heap.size, 0, none⟩ 1 1 [.int .u8 (X : Int)] rfl rfl ?c1 ?c2 ?c3 ?c4 ?c5 ?_)
      case c1 =>
        intro j u hj
        match j, hj with
        | 0, hj => simp at hj; subst hj; simp [Addr.add]
      case c2 => intro u hu; simp at hu; subst hu; rfl
      case c3 => unfold maxLen; omega
      case c4 => omega
      case c5 => simp; omega
      intro v' w2 hown' hgrow _
      have hbl2 : Below w.heap.size w w2 := (hbl.alloc (by omega) _).grown hgrow (by simp; omega) (fun r hr => (hown.lt r hr).1)
      clear hgrow hown hbl
      go_wp2
      go_ret
      refine ⟨_, _, rfl, ⟨k, HK.out, by rw [← HX.out]; omega, rfl⟩, ?_, hbl2⟩
      rw [List.length_append, sh_len, u8s_snoc, ← HX.out]
      exact hown'

set_option maxRecDepth 100000 in
set_option maxHeartbeats 1000000 in
theorem short29 (n : Nat) (hn : n < 18446744073709551616) (w : World) :
    Calls Try.prog 29 #[.int .u64 (n : Nat)] w fun e w' => ∃ v l, e = .returned v ∧ IsShort n l ∧ w'.ownsRow w.heap.size 5 1 v l.length (u8s l) ∧ Below w.heap.size w w' := by
  obtain ⟨i0, hi, hz0, hz1, hz2⟩ := info_parts info5
  go_enter Try.func29, Try.ntmps29
  go_wp2_with fail
  go_loopw [0, 3] (fun x v wr => ∃ k, x = .int .u64 ((n / 128 ^ k : Nat) : Int) ∧ (∀ j, j < k → 128 ≤ n / 128 ^ j) ∧ wr.ownsRow w.heap.size 5 1 v k (u8s (sh n k)) ∧ Below w.heap.size w wr) (fun x _ _ => (intOf x).toNat)
  case atStart => exact ⟨0, by simp, fun j hj => absurd hj (by omega), World.ownsRow_nil _ _ _ _, Below.refl _ _⟩
  case round =>
    obtain ⟨k, rfl, hk, hown, hbl⟩ := hrel
    have hk9 := k_le hn hk
    have hX : n / 128 ^ k < 18446744073709551616 := Nat.lt_of_le_of_lt (Nat.div_le_self _ _) hn
    obtain ⟨X, hXe⟩ : ∃ X, X = n / 128 ^ k := ⟨_, rfl⟩
    rw [← hXe] at hX ⊢
    have HX := Lib.hid hXe
    have HK := Lib.hid hk
    have hsz := hbl.size
    clear hXe hk
    have hor : bits .or .u8 ((X : Int) % 256) 128 = ((X % 128 + 128 : Nat) : Int) := by
      have := u8_or_nat (X % 256) 128 (by omega) (by decide)
      rw [or128 _ (by omega)] at this
      rw [show ((X : Int) % 256) = ((X % 256 : Nat) : Int) from by omega]
      refine Eq.trans this ?_
      omega
    by_cases h128 : 128 ≤ X
    · go_wp2_with (at_builtin; refine wpList_append_own _ rfl (.tmp 6) (.tmp 11) 26 rfl w.heap.size 5 i0 (.int .u8 0) 1 1 Try.underlying26 hi hz0 hz1 hz2 rfl (by decide) _ _ _ rfl (hown.alloc _) ⟨wr.heap.size, 0, none⟩ 1 1 [.int .u8 ((X : Int) % 128 + 128)] rfl rfl ?c1 ?c2 ?c3 ?c4 ?c5 ?_)
      case c1 =>
        intro j u hj
        match j, hj with
        | 0, hj => simp at hj; subst hj; simp [Addr.add]
      case c2 => intro u hu; simp at hu; subst hu; rfl
      case c3 => unfold maxLen; omega
      case c4 => omega
      case c5 => simp; omega
      intro v' w2 hown' hgrow _
      have hbl2 : Below w.heap.size w w2 := (hbl.alloc (by omega) _).grown hgrow (by simp; omega) (fun r hr => (hown.lt r hr).1)
      have hown2 : w2.ownsRow w.heap.size 5 1 v' (k + 1) (u8s (sh n (k + 1))) := by
        rw [sh_succ, u8s_snoc, ← HX.out]
        rw [show ((X % 128 + 128 : Nat) : Int) = (X : Int) % 128 + 128 from by omega]
        exact hown'
      clear hgrow hown hbl hown'
      go_wp2
      go_roundw
      case rel =>
        refine ⟨k + 1, ?_, fun j hj => ?_, hown2, hbl2⟩
        · rw [Nat.pow_succ, ← Nat.div_div_eq_div_mul, ← HX.out]
          rw [show ((X / 128 : Nat) : Int) = (X : Int) / 128 from by omega]
        · by_cases e : j = k
          · subst e; rw [← HX.out]; exact h128
          · exact HK.out j (by omega)
      case measure => simp [intOf]; omega
    · have hX2 : (X : Int) % 256 = X := by omega
      go_wp2_with (at_builtin; refine wpList_append_own _ rfl (.tmp 15) (.tmp 18) 26 rfl w.heap.size 5 i0 (.int .u8 0) 1 1 Try.underlying26 hi hz0 hz1 hz2 rfl (by decide) _ _ _ rfl (hown.alloc _) ⟨wr.heap.size, 0, none⟩ 1 1 [.int .u8 (X : Int)] rfl rfl ?c1 ?c2 ?c3 ?c4 ?c5 ?_)
      case c1 =>
        intro j u hj
        match j, hj with
        | 0, hj => simp at hj; subst hj; simp [Addr.add]
      case c2 => intro u hu; simp at hu; subst hu; rfl
      case c3 => unfold maxLen; omega
      case c4 => omega
      case c5 => simp; omega
      intro v' w2 hown' hgrow _
      have hbl2 : Below w.heap.size w w2 := (hbl.alloc (by omega) _).grown hgrow (by simp; omega) (fun r hr => (hown.lt r hr).1)
      clear hgrow hown hbl
      go_wp2
      go_ret
      refine ⟨_, _, rfl, ⟨k, HK.out, by rw [← HX.out]; omega, rfl⟩, ?_, hbl2⟩
      rw [List.length_append, sh_len, u8s_snoc, ← HX.out]
      exact hown'

end Sw
end Go.Proofs.Ytbpkoneenihfcaa
