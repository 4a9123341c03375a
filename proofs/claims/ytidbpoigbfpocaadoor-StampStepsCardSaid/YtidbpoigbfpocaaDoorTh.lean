/- The writer by whole bytes; head, laidWhole, laidEven. -/
import Derived.Test.YtidbpoigbfpocaaDoorTj
namespace Go.Proofs.YtidbpoigbfpocaaDoor
open Go.RowKit
namespace Th
open Bm Mt Wr Pk Rp Cv Rd Rx Sz Tm Ti

theorem getD_app_left {a b : List Nat} {j : Nat} (h : j < a.length) : (a ++ b).getD j 0 = a.getD j 0 := by
  simp [List.getD_eq_getElem?_getD, List.getElem?_append_left h]
theorem getD_app_right {a b : List Nat} {j : Nat} : (a ++ b).getD (a.length + j) 0 = b.getD j 0 := by
  simp [List.getD_eq_getElem?_getD, List.getElem?_append_right]
theorem getD_past {a : List Nat} {j : Nat} (h : a.length ≤ j) : a.getD j 0 = 0 := by
  simp [List.getD_eq_getElem?_getD, List.getElem?_eq_none h]
theorem bb_past (bs : List Nat) (i : Nat) (h : 8 * bs.length ≤ i) : bb bs i = false := by
  unfold bb
  rw [getD_past (by omega)]
  simp
theorem put_app (bs e : List Nat) (v N : Nat) (hN : N = 8 * e.length) (h : ∀ j k, j < e.length → k < 8 → (e.getD j 0).testBit (7 - k) = v.testBit (N - 1 - (8 * j + k))) :
    put (bb bs) (8 * bs.length) v N 0 = bb (bs ++ e) := by
  funext i
  unfold put
  split
  · unfold bb
    rw [getD_app_left (by omega)]
  · split
    · obtain ⟨q, rfl⟩ : ∃ q, i = 8 * bs.length + q := ⟨i - 8 * bs.length, by omega⟩
      unfold bb
      rw [show (8 * bs.length + q) / 8 = bs.length + q / 8 from by omega, show (8 * bs.length + q) % 8 = q % 8 from by omega, getD_app_right, h (q / 8) (q % 8) (by omega) (by omega),
        show 8 * (q / 8) + q % 8 = q from by omega, show 8 * bs.length + q - 8 * bs.length = q from by omega]
    · exact (bb_past _ _ (by rw [List.length_append]; omega)).symm
theorem one_bits (m : Nat) : ∀ j k, j < [m].length → k < 8 → ([m].getD j 0).testBit (7 - k) = m.testBit (8 - 1 - (8 * j + k)) := by
  intro j k hj hk
  have : j = 0 := by simpa using hj
  subst this
  rw [show 8 - 1 - (8 * 0 + k) = 7 - k from by omega]
  rfl
theorem two_bits (n : Nat) : ∀ j k, j < (two n).length → k < 8 → ((two n).getD j 0).testBit (7 - k) = n.testBit (16 - 1 - (8 * j + k)) := by
  intro j k hj hk
  have h2 : j = 0 ∨ j = 1 := by simp [two] at hj; omega
  rcases h2 with rfl | rfl
  · show (n / 256 % 256).testBit (7 - k) = _
    rw [show (256 : Nat) = 2 ^ 8 from rfl, Nat.testBit_mod_two_pow, decide_eq_true (show 7 - k < 8 by omega), Bool.true_and, ← Nat.shiftRight_eq_div_pow, Nat.testBit_shiftRight]
    congr 1; omega
  · show (n % 256).testBit (7 - k) = _
    rw [show (256 : Nat) = 2 ^ 8 from rfl, Nat.testBit_mod_two_pow, decide_eq_true (show 7 - k < 8 by omega), Bool.true_and]
    congr 1; omega
theorem eight_bits (x : Nat) : ∀ j k, j < (eight x).length → k < 8 → ((eight x).getD j 0).testBit (7 - k) = x.testBit (64 - 1 - (8 * j + k)) := fun j k hj hk => eight_bit x j k hj hk

/-- The writer at block g holds these bytes. -/
def Wb (w : World) (g : Nat) (s : Value) (bs : List Nat) : Prop := (∀ b ∈ bs, b < 256) ∧ Wt w g s (8 * bs.length) (bb bs)
theorem Wb.below {w w' : World} {g : Nat} {s : Value} {bs : List Nat} (h : Wb w g s bs) (b : Below w.heap.size w w') : Wb w' g s bs := ⟨h.1, h.2.below b⟩
theorem new36 (w : World) : Calls Tryd.prog 36 #[] w fun e w' => e = .returned (.pointer (some ⟨w.heap.size, 0, none⟩)) ∧ (∃ s, Wb w' w.heap.size s []) ∧ Below w.heap.size w w' := by
  refine (new_wt w).mono ?_
  rintro e w' ⟨rfl, h, b⟩
  refine ⟨rfl, ⟨.slice none 0 0, fun x hx => by simp at hx, ?_⟩, b⟩
  rw [show bb [] = fun _ => false from by funext i; simp [bb]]
  exact h
theorem put32 (w : World) (g : Nat) (s : Value) (bs e : List Nat) (v N : Nat) (h : Wb w g s bs) (hv : v < 18446744073709551616) (hN : N = 8 * e.length) (hN64 : N ≤ 64) (he : ∀ b ∈ e, b < 256)
    (hbit : ∀ j k, j < e.length → k < 8 → (e.getD j 0).testBit (7 - k) = v.testBit (N - 1 - (8 * j + k))) (hb : bs.length ≤ 140737488353272) :
    Calls Tryd.prog 32 #[.pointer (some ⟨g, 0, none⟩), .int .u64 (v : Nat), .int .i64 (N : Nat)] w fun e' w' => e' = .returned (.tuple #[]) ∧ (∃ s', Wb w' g s' (bs ++ e)) ∧ Below g w w' := by
  refine (put_wt w g s (8 * bs.length) (bb bs) v N N h.2 hv (by omega) (by omega) (by omega) (by omega)).mono ?_
  rintro e' w' ⟨rfl, s', h1, h2, h3⟩
  refine ⟨rfl, ⟨s', ?_, ?_⟩, h2.below (Nat.le_refl _) (fun k hk => by have := (h.2.own k hk).1; omega) h.2.lt⟩
  · intro b hb
    rcases List.mem_append.1 hb with h4 | h4
    · exact h.1 b h4
    · exact he b h4
  · rw [put_app bs e v N hN hbit, show 8 * bs.length + N = 8 * (bs ++ e).length from by rw [List.length_append]; omega] at h1
    exact h1
theorem bytes27 (w : World) (g : Nat) (s : Value) (bs : List Nat) (h : Wb w g s bs) (hb : bs.length ≤ 140737488353272) :
    Calls Tryd.prog 27 #[.pointer (some ⟨g, 0, none⟩)] w fun e w' => ∃ v, e = .returned v ∧ w'.ownsRow w.heap.size 5 1 v bs.length (u8s bs) ∧ Below w.heap.size w w' := by
  refine (bytes_wt w g s (8 * bs.length) (bb bs) h.2 (by omega)).mono ?_
  rintro e w' ⟨v, bs', f, rfl, ho, bl, hh, hl, hf⟩
  obtain rfl : bs' = bs := hh.unique (has_bb h.1) (by omega)
  exact ⟨v, rfl, ho, bl⟩

theorem ii_open {w : World} {v : Value} {T : List Int} (hI : Ii w v T) (h1 : 1 ≤ T.length) :
    ∃ b off c, v = .slice (some ⟨b, off, none⟩) T.length c ∧ T.length ≤ c ∧ b < w.heap.size ∧ ∀ i, i < T.length → w.cell? ⟨b, off + i, none⟩ = some (.int .i64 (T.getD i 0)) := by
  obtain ⟨_, ⟨a, c, rfl, h0⟩ | h⟩ := hI
  · rw [h0] at h1; simp at h1
  · exact h

set_option maxRecDepth 100000 in
theorem head26 (w : World) (v : Value) (T : List Int) (m : Nat) (hm : m < 256) (hI : Ii w v T) (h1 : 1 ≤ T.length) (hl : T.length ≤ 1000) :
    Calls Tryd.prog 26 #[.int .u64 (m : Nat), v] w fun e w' => ∃ g s, e = .returned (.pointer (some ⟨g, 0, none⟩)) ∧ Wb w' g s (head m T) ∧ w.heap.size ≤ g ∧ Below w.heap.size w w' := by
  obtain ⟨b, off, c, rfl, hc, hb, hcell⟩ := ii_open hI h1
  have e0 := hcell 0 (by omega)
  rw [Nat.add_zero] at e0
  have hu := @ut_of (T.getD 0 0)
  have hul := ut_lt (T.getD 0 0)
  have HH : Hid (head m T = [] ++ [m] ++ two T.length ++ eight (ut (T.getD 0 0))) := Lib.hid (by simp [head])
  obtain ⟨A, hA⟩ : ∃ A, A = T.getD 0 0 := ⟨_, rfl⟩
  rw [← hA] at e0 hu hul HH
  obtain ⟨U, hU⟩ : ∃ U, U = ut A := ⟨_, rfl⟩
  rw [← hU] at hu hul HH
  obtain ⟨n, hn⟩ : ∃ n, n = T.length := ⟨_, rfl⟩
  rw [← hn] at h1 hl hc HH ⊢
  have hw1 : IntKind.u64.wrap A = (U : Int) := by rw [IntKind.wrap_u64]; omega
  have HE0 := Lib.hid e0
  have F36 := Lib.hid (new36 w)
  have HP1 : Hid (∀ x g s, Wb x g s [] → Calls Tryd.prog 32 #[.pointer (some ⟨g, 0, none⟩), .int .u64 (m : Nat), .int .i64 8] x fun e w' => e = .returned (.tuple #[]) ∧ (∃ s', Wb w' g s' ([] ++ [m])) ∧ Below g x w') :=
    Lib.hid fun x g s h => put32 x g s [] [m] m 8 h (by omega) rfl (by decide) (by simpa using hm) (one_bits m) (by simp)
  have HP2 : Hid (∀ x g s, Wb x g s ([] ++ [m]) → Calls Tryd.prog 32 #[.pointer (some ⟨g, 0, none⟩), .int .u64 (n : Nat), .int .i64 16] x fun e w' => e = .returned (.tuple #[]) ∧ (∃ s', Wb w' g s' ([] ++ [m] ++ two n)) ∧ Below g x w') :=
    Lib.hid fun x g s h => put32 x g s ([] ++ [m]) (two n) n 16 h (by omega) rfl (by decide) (by intro b hb; simp [two] at hb; omega) (two_bits n) (by simp)
  have HP3 : Hid (∀ x g s, Wb x g s ([] ++ [m] ++ two n) → Calls Tryd.prog 32 #[.pointer (some ⟨g, 0, none⟩), .int .u64 (U : Nat), .int .i64 64] x fun e w' => e = .returned (.tuple #[]) ∧ (∃ s', Wb w' g s' ([] ++ [m] ++ two n ++ eight U)) ∧ Below g x w') :=
    Lib.hid fun x g s h => put32 x g s ([] ++ [m] ++ two n) (eight U) U 64 h hul rfl (by decide) (eight_lt U) (eight_bits U) (by simp [two])
  clear hcell hI hA hU hn hu e0 hm hul
  go_enter Tryd.func26, Tryd.ntmps26
  go_wp2_with fail
  refine F36.out.mono ?_
  rintro e w1 ⟨rfl, ⟨s1, q1⟩, b1⟩
  have Q1 := Lib.hid q1
  have B1 := Lib.hid b1
  clear q1 b1
  go_wp2_with fail
  refine (HP1.out _ _ _ Q1.out).mono ?_
  rintro e w2 ⟨rfl, ⟨s2, q2⟩, b2⟩
  have Q2 := Lib.hid q2
  have B2 := Lib.hid (B1.out.trans b2)
  clear q2 b2
  go_wp2_with fail
  refine (HP2.out _ _ _ Q2.out).mono ?_
  rintro e w3 ⟨rfl, ⟨s3, q3⟩, b3⟩
  have Q3 := Lib.hid q3
  have B3 := Lib.hid (B2.out.trans b3)
  have e3 := (B3.out.cell hb).trans HE0.out
  clear q3 b3
  go_wp2_with fail
  refine (HP3.out _ _ _ Q3.out).mono ?_
  rintro e w4 ⟨rfl, ⟨s4, q4⟩, b4⟩
  have Q4 := Lib.hid q4
  have B4 := Lib.hid (B3.out.trans b4)
  clear q4 b4
  go_wp2_with fail
  go_ret
  exact ⟨_, s4, rfl, by rw [HH.out]; exact Q4.out, Nat.le_refl _, B4.out⟩
end Th
end Go.Proofs.YtidbpoigbfpocaaDoor
