/- The writer by whole bytes; a text's bytes; putText. -/
import Derived.Test.YtmlbmiegfeadjaaMr
import Derived.Test.YtmlbmiegfeadjaaAw
import Derived.Test.YtmlbmiegfeadjaaGx
namespace Go.Proofs.Ytmlbmiegfeadjaa
open Go.RowKit
namespace Ia
open Bm Mt Wr

def two (n : Nat) : List Nat := [n / 256 % 256, n % 256]
theorem getD_app_left {a b : List Nat} {j : Nat} (h : j < a.length) : (a ++ b).getD j 0 = a.getD j 0 := by
  simp [List.getD_eq_getElem?_getD, List.getElem?_append_left h]
theorem getD_app_right {a b : List Nat} {j : Nat} : (a ++ b).getD (a.length + j) 0 = b.getD j 0 := by
  simp [List.getD_eq_getElem?_getD, List.getElem?_append_right]
theorem getD_past {a : List Nat} {j : Nat} (h : a.length ≤ j) : a.getD j 0 = 0 := by
  simp [List.getD_eq_getElem?_getD, List.getElem?_eq_none h]
theorem bb_past (bs : List Nat) (i : Nat) (h : 8 * bs.length ≤ i) : bb bs i = false := by
  unfold bb
  rw [getD_past (by omega)]
  simp
theorem put_app (bs e : List Nat) (v N : Nat) (hN : N = 8 * e.length) (h : ∀ j k, j < e.length → k < 8 → (e.getD j 0).testBit (7 - k) = v.testBit (N - 1 - (8 * j + k))) :
    put (bb bs) (8 * bs.length) v N 0 = bb (bs ++ e) := by
  funext i
  unfold put
  split
  · unfold bb
    rw [getD_app_left (by omega)]
  · split
    · obtain ⟨q, rfl⟩ : ∃ q, i = 8 * bs.length + q := ⟨i - 8 * bs.length, by omega⟩
      unfold bb
      rw [show (8 * bs.length + q) / 8 = bs.length + q / 8 from by omega, show (8 * bs.length + q) % 8 = q % 8 from by omega, getD_app_right, h (q / 8) (q % 8) (by omega) (by omega),
        show 8 * (q / 8) + q % 8 = q from by omega, show 8 * bs.length + q - 8 * bs.length = q from by omega]
    · exact (bb_past _ _ (by rw [List.length_append]; omega)).symm
theorem one_bits (m : Nat) : ∀ j k, j < [m].length → k < 8 → ([m].getD j 0).testBit (7 - k) = m.testBit (8 - 1 - (8 * j + k)) := by
  intro j k hj hk
  have : j = 0 := by simpa using hj
  subst this
  rw [show 8 - 1 - (8 * 0 + k) = 7 - k from by omega]
  rfl
theorem two_bits (n : Nat) : ∀ j k, j < (two n).length → k < 8 → ((two n).getD j 0).testBit (7 - k) = n.testBit (16 - 1 - (8 * j + k)) := by
  intro j k hj hk
  have h2 : j = 0 ∨ j = 1 := by simp [two] at hj; omega
  rcases h2 with rfl | rfl
  · show (n / 256 % 256).testBit (7 - k) = _
    rw [show (256 : Nat) = 2 ^ 8 from rfl, Nat.testBit_mod_two_pow, decide_eq_true (show 7 - k < 8 by omega), Bool.true_and, ← Nat.shiftRight_eq_div_pow, Nat.testBit_shiftRight]
    congr 1; omega
  · show (n % 256).testBit (7 - k) = _
    rw [show (256 : Nat) = 2 ^ 8 from rfl, Nat.testBit_mod_two_pow, decide_eq_true (show 7 - k < 8 by omega), Bool.true_and]
    congr 1; omega
theorem eight_bits (x : Nat) : ∀ j k, j < (eight x).length → k < 8 → ((eight x).getD j 0).testBit (7 - k) = x.testBit (64 - 1 - (8 * j + k)) := fun j k hj hk => eight_bit x j k hj hk
/-- The writer at block g holds these bytes. -/
def Wb (w : World) (g : Nat) (s : Value) (bs : List Nat) : Prop := (∀ b ∈ bs, b < 256) ∧ Wt w g s (8 * bs.length) (bb bs)
theorem Wb.below {w w' : World} {g : Nat} {s : Value} {bs : List Nat} (h : Wb w g s bs) (b : Below w.heap.size w w') : Wb w' g s bs := ⟨h.1, h.2.below b⟩
theorem new36 (w : World) : Calls Try.prog 33 #[] w fun e w' => e = .returned (.pointer (some ⟨w.heap.size, 0, none⟩)) ∧ (∃ s, Wb w' w.heap.size s []) ∧ Below w.heap.size w w' := by
  refine (new_wt w).mono ?_
  rintro e w' ⟨rfl, h, b⟩
  refine ⟨rfl, ⟨.slice none 0 0, fun x hx => by simp at hx, ?_⟩, b⟩
  rw [show bb [] = fun _ => false from by funext i; simp [bb]]
  exact h
theorem put32 (w : World) (g : Nat) (s : Value) (bs e : List Nat) (v N : Nat) (h : Wb w g s bs) (hv : v < 18446744073709551616) (hN : N = 8 * e.length) (hN64 : N ≤ 64) (he : ∀ b ∈ e, b < 256)
    (hbit : ∀ j k, j < e.length → k < 8 → (e.getD j 0).testBit (7 - k) = v.testBit (N - 1 - (8 * j + k))) (hb : bs.length ≤ 140737488353272) :
    Calls Try.prog 35 #[.pointer (some ⟨g, 0, none⟩), .int .u64 (v : Nat), .int .i64 (N : Nat)] w fun e' w' => e' = .returned (.tuple #[]) ∧ (∃ s', Wb w' g s' (bs ++ e)) ∧ Below g w w' := by
  refine (put_wt w g s (8 * bs.length) (bb bs) v N N h.2 hv (by omega) (by omega) (by omega) (by omega)).mono ?_
  rintro e' w' ⟨rfl, s', h1, h2, h3⟩
  refine ⟨rfl, ⟨s', ?_, ?_⟩, h2.below (Nat.le_refl _) (fun k hk => by have := (h.2.own k hk).1; omega) h.2.lt⟩
  · intro b hb
    rcases List.mem_append.1 hb with h4 | h4
    · exact h.1 b h4
    · exact he b h4
  · rw [put_app bs e v N hN hbit, show 8 * bs.length + N = 8 * (bs ++ e).length from by rw [List.length_append]; omega] at h1
    exact h1
theorem put32m (w : World) (g : Nat) (s : Value) (bs e : List Nat) (v N : Nat) (h : Wb w g s bs) (hv : v < 18446744073709551616) (hN : N = 8 * e.length) (hN64 : N ≤ 64) (he : ∀ b ∈ e, b < 256)
    (hbit : ∀ j k, j < e.length → k < 8 → (e.getD j 0).testBit (7 - k) = v.testBit (N - 1 - (8 * j + k))) (hb : bs.length ≤ 140737488353272) :
    Calls Try.prog 35 #[.pointer (some ⟨g, 0, none⟩), .int .u64 (v : Nat), .int .i64 (N : Nat)] w fun e' w' => e' = .returned (.tuple #[]) ∧ ∃ s', Wb w' g s' (bs ++ e) ∧ Mv w w' g s ∧ Own w s s' := by
  refine (put_wt w g s (8 * bs.length) (bb bs) v N N h.2 hv (by omega) (by omega) (by omega) (by omega)).mono ?_
  rintro e' w' ⟨rfl, s', h1, h2, h3⟩
  refine ⟨rfl, s', ⟨?_, ?_⟩, h2, h3⟩
  · intro b hb
    rcases List.mem_append.1 hb with h4 | h4
    · exact h.1 b h4
    · exact he b h4
  · rw [put_app bs e v N hN hbit, show 8 * bs.length + N = 8 * (bs ++ e).length from by rw [List.length_append]; omega] at h1
    exact h1
theorem bytes27 (w : World) (g : Nat) (s : Value) (bs : List Nat) (h : Wb w g s bs) (hb : bs.length ≤ 140737488353272) :
    Calls Try.prog 36 #[.pointer (some ⟨g, 0, none⟩)] w fun e w' => ∃ v, e = .returned v ∧ w'.ownsRow w.heap.size 5 1 v bs.length (u8s bs) ∧ Below w.heap.size w w' := by
  refine (bytes_wt w g s (8 * bs.length) (bb bs) h.2 (by omega)).mono ?_
  rintro e w' ⟨v, bs', f, rfl, ho, bl, hh, hl, hf⟩
  obtain rfl : bs' = bs := hh.unique (has_bb h.1) (by omega)
  exact ⟨v, rfl, ho, bl⟩


end Ia
end Go.Proofs.Ytmlbmiegfeadjaa
