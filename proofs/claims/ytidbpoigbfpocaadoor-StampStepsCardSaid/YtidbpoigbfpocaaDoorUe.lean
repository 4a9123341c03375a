/- The law StampSteps. -/
import Derived.Test.YtidbpoigbfpocaaDoorTy
import Derived.Test.YtidbpoigbfpocaaDoorUb
namespace Go.Proofs.YtidbpoigbfpocaaDoor
open Go.RowKit
namespace Lw
open Bm Mt Wr Pk Rp Cv Rd Rx Sz Tm Ti En De

/-- Times with one distance. -/
def sp (F : Int) (D k : Nat) : Int := F + (D : Int) * (k : Int)
theorem sp_mul {D k : Nat} (hD : D ≤ 1099511627776) (hk : k ≤ 1000) : (0 : Int) ≤ (D : Int) * (k : Int) ∧ (D : Int) * (k : Int) ≤ 1099511627776000 := by
  have h : D * k ≤ 1099511627776 * 1000 := Nat.mul_le_mul hD hk
  have e : (D : Int) * (k : Int) = ((D * k : Nat) : Int) := by push_cast; rfl
  rw [e]
  omega
theorem sp_succ (F : Int) (D k : Nat) : sp F D (k + 1) = sp F D k + (D : Int) := by
  unfold sp
  rw [show (D : Int) * ((k + 1 : Nat) : Int) = (D : Int) * (k : Int) + (D : Int) from by push_cast; rw [Int.mul_add, Int.mul_one]]
  omega
theorem sp_get (F : Int) (D n i : Nat) (hi : i < n) : (tab (sp F D) n).getD i 0 = sp F D i := tab_get _ _ _ _ hi
theorem sp_dist {F : Int} {D n i : Nat} (hD : D ≤ 1099511627776) (hi : i + 1 < n) : dist (tab (sp F D) n) i = D := by
  unfold dist
  rw [sp_get _ _ _ _ hi, sp_get _ _ _ _ (by omega), sp_succ]
  omega
theorem sp_in {F : Int} {D n : Nat} (hF : -2305843009213693952 ≤ F ∧ F ≤ 2305843009213693952) (hD : D ≤ 1099511627776) (hn : n ≤ 1000) : In (tab (sp F D) n) := by
  intro t ht
  obtain ⟨i, hi, rfl⟩ := tab_mem ht
  have := sp_mul hD (show i ≤ 1000 by omega)
  unfold sp
  omega
theorem sp_ok {F : Int} {D n : Nat} (hD1 : 1 ≤ D) (hn1 : 2 ≤ n) (hn : n ≤ 1000) : Ok (tab (sp F D) n) := by
  refine ⟨by rw [tab_len]; omega, by rw [tab_len]; omega, fun i hi => ?_⟩
  rw [tab_len] at hi
  rw [sp_get _ _ _ _ (by omega), sp_get _ _ _ _ (by omega), sp_succ]
  omega
theorem sp_bytes {F : Int} {D n : Nat} (hD : D ≤ 1099511627776) (hn1 : 2 ≤ n) : (bytesOf (tab (sp F D) n)).length = 19 := by
  rw [bytes_even (by rw [tab_len]; exact hn1) (fun i hi => by rw [tab_len] at hi; rw [sp_dist hD (by omega), sp_dist hD (by omega)])]
  rw [List.length_append, head_len, eight_len]

theorem quarter (n : Int) (n1 : -9223372036854775808 ≤ n) (n2 : n ≤ 9223372036854775807) : -2305843009213693952 ≤ n.tdiv 4 ∧ n.tdiv 4 ≤ 2305843009213693952 := by
  by_cases h : 0 ≤ n
  · rw [Int.tdiv_eq_ediv_of_nonneg h]; omega
  · obtain ⟨m, rfl⟩ : ∃ m, n = -m := ⟨-n, by omega⟩
    rw [Int.neg_tdiv, Int.tdiv_eq_ediv_of_nonneg (by omega)]
    omega

set_option maxRecDepth 100000 in
set_option maxHeartbeats 1000000 in
theorem steps6 (w : World) (n x y : Int) (hT : Tab w) (n1 : -9223372036854775808 ≤ n) (n2 : n ≤ 9223372036854775807) (x1 : 0 ≤ x) (x2 : x ≤ 18446744073709551615) (y1 : 0 ≤ y) (y2 : y < 65536) :
    Calls Tryd.prog 6 #[.int .i64 n, .int .u64 x, .int .u16 y] w fun e w' => e = .returned (.bool true) ∧ Below w.heap.size w w' := by
  obtain ⟨i0, hi, hz0, hz1, hz2⟩ := info_parts info2
  have F8 := Lib.hid (awake8 w hT)
  obtain ⟨X, rfl⟩ := Int.eq_ofNat_of_zero_le x1
  obtain ⟨Y, rfl⟩ := Int.eq_ofNat_of_zero_le y1
  have hqF := quarter n n1 n2
  obtain ⟨D, hD⟩ : ∃ D : Nat, D = 1 + X % 1099511627776 := ⟨_, rfl⟩
  obtain ⟨N, hN⟩ : ∃ N : Nat, N = 2 + Y % 999 := ⟨_, rfl⟩
  have hDi : (1 : Int) + (X : Int) % 1099511627776 = (D : Int) := by omega
  have hNi : (2 : Int) + (Y : Int) % 999 = (N : Int) := by omega
  have hD1 : 1 ≤ D := by omega
  have hD2 : D ≤ 1099511627776 := by omega
  have hN1 : 2 ≤ N := by omega
  have hN2 : N ≤ 1000 := by omega
  have HT := Lib.hid hT
  have HDI := Lib.hid hDi
  have HNI := Lib.hid hNi
  clear hT hD hN hDi hNi
  go_enter Tryd.func6, Tryd.ntmps6
  go_wp2_with (go_at_call 8; refine F8.out.mono ?_; rintro e w1 ⟨rfl, b1⟩; have B1 := Lib.hid b1; clear b1)
  rw [HDI.out, HNI.out]
  obtain ⟨F, hF⟩ : ∃ F, F = n.tdiv 4 := ⟨_, rfl⟩
  rw [← hF] at hqF ⊢
  have F10 : Hid (∀ x B u, Below w.heap.size w x → World.ownsRow x B 2 1 u N (i64s (tab (sp F D) N)) → Calls Tryd.prog 10 #[u] x fun e w' => ∃ r, e = .returned (.tuple #[r, .int .i64 0]) ∧ w'.ownsRow x.heap.size 5 1 r 19 (u8s (bytesOf (tab (sp F D) N))) ∧ w'.ownsRow B 2 1 u N (i64s (tab (sp F D) N)) ∧ Below x.heap.size x w') := Lib.hid fun x B u b ho => by
    have ho2 := ho
    rw [← tab_len (sp F D) N, tab_len (sp F D) N] at ho2
    refine (encode10 x u (tab (sp F D) N) (ii_own (by rw [tab_len]; exact ho) (sp_in hqF hD2 hN2)) (HT.out.below b HT.out.1)).mono fun e w' h => ?_
    obtain ⟨r, he, hr, bl⟩ := Encoded.ok h (sp_ok hD1 hN1 hN2)
    rw [sp_bytes hD2 hN1] at hr
    exact ⟨r, he, hr, own_below ho bl, bl⟩
  have F12 : Hid (∀ x B r, Below w.heap.size w x → World.ownsRow x B 5 1 r 19 (u8s (bytesOf (tab (sp F D) N))) → Calls Tryd.prog 12 #[r] x fun e w' => ∃ q, e = .returned (.tuple #[q, .int .i64 0]) ∧ w'.ownsRow x.heap.size 2 1 q N (i64s (tab (sp F D) N)) ∧ Below x.heap.size x w') := Lib.hid fun x B r b ho => by
    have hl := sp_bytes (F := F) hD2 hN1
    rw [← hl] at ho
    refine (decode12 x r _ (pl_own ho (by omega)) (bytes_lt _) (HT.out.below b HT.out.1) (by omega)).mono fun e w' h => ?_
    obtain ⟨q, he, hq, bl⟩ := Decoded.ok h (dec_back (sp_in hqF hD2 hN2) (sp_ok hD1 hN1 hN2))
    rw [tab_len] at hq
    exact ⟨q, he, hq, bl⟩
  have F13 : Hid (∀ x B B' u v, World.ownsRow x B 2 1 u N (i64s (tab (sp F D) N)) → World.ownsRow x B' 2 1 v N (i64s (tab (sp F D) N)) → Calls Tryd.prog 13 #[u, v] x fun e w' => e = .returned (.bool true) ∧ ∃ m, w' = x.drewN m) := Lib.hid fun x B B' u v h1 h2 =>
    same13 x u v (tab (sp F D) N) (ii_own (by rw [tab_len]; exact h1) (sp_in hqF hD2 hN2)) (ii_own (by rw [tab_len]; exact h2) (sp_in hqF hD2 hN2)) (by rw [tab_len]; exact hN2)
  clear hF HT HDI HNI F8
  go_loopw [9, 8, 26] (fun _ o i wr => ∃ k, k ≤ N ∧ i = .int .i64 (k : Nat) ∧ wr.ownsRow w.heap.size 2 1 o k (i64s (tab (sp F D) k)) ∧ Below w.heap.size w wr) (fun _ _ i _ => N - (intOf i).toNat)
  case atStart => exact ⟨0, Nat.zero_le _, rfl, World.ownsRow_nil _ _ _ _, B1.out⟩
  case round =>
    obtain ⟨k, hk, rfl, ho, hbl⟩ := hrel
    by_cases hkn : k < N
    · obtain ⟨hq1, hq2⟩ := sp_mul hD2 (show k ≤ 1000 by omega)
      obtain ⟨Q, hQ⟩ : ∃ Q, (D : Int) * (k : Int) = Q := ⟨_, rfl⟩
      rw [hQ] at hq1 hq2
      obtain ⟨E, hE⟩ : ∃ E, F + Q = E := ⟨_, rfl⟩
      have HTD : Hid (i64s (tab (sp F D) (k + 1)) = i64s (tab (sp F D) k) ++ [.int .i64 E]) := Lib.hid (by rw [tab_succ, i64s_snoc, show sp F D k = E from by unfold sp; rw [hQ, hE]])
      have HB := Lib.hid hbl
      have hbs := hbl.size
      have hown := ho
      clear ho hbl
      go_wp2_with (at_builtin; refine wpList_append_own _ rfl (.tmp 29) (.tmp 36) 22 rfl w.heap.size 2 i0 (.int .i64 0) 1 8 Tryd.underlying22 hi hz0 hz1 hz2 rfl (by decide) _ k _ rfl (hown.alloc _) ⟨wr.heap.size, 0, none⟩ 1 1 [.int .i64 E] rfl rfl ?c1 ?c2 ?c3 ?c4 ?c5 ?_)
      case c1 => exact cell_one_new _ _ _
      case c2 => intro u hu; simp at hu; subst hu; rfl
      case c3 => unfold maxLen; omega
      case c4 => omega
      case c5 => simp; omega
      intro v' w6 hown' hgrow _
      have b6 := Lib.hid (Below.grown (HB.out.alloc (Nat.le_trans (Nat.le_refl _) hbs) _) hgrow (by simp; omega) (fun r hr => (hown.lt r hr).1))
      clear hgrow
      have hO6 := Lib.hid hown'
      clear hown'
      go_wp2_with fail
      go_roundw
      case rel => exact ⟨k + 1, by omega, by go_num, by rw [HTD.out]; exact hO6.out, b6.out⟩
      case measure => simp [intOf]; omega
    · obtain rfl : k = N := by omega
      have HB := Lib.hid hbl
      have HO := Lib.hid ho
      clear ho hbl hqF hD1 hD2
      go_wp2_with fail
      refine (F10.out _ _ _ HB.out HO.out).mono ?_
      rintro e w2 ⟨r2, rfl, o2, p2, b2⟩
      obtain ⟨g2, c2, rfl⟩ := Go.Joins.ownsRow_form o2 (by decide)
      have O2 := Lib.hid o2
      have P2 := Lib.hid p2
      have B2 := Lib.hid (HB.out.trans (b2.mono HB.out.size))
      clear o2 p2 b2
      go_wp2_with fail
      refine (F12.out _ _ _ B2.out O2.out).mono ?_
      rintro e w3 ⟨r3, rfl, o3, b3⟩
      have O3 := Lib.hid o3
      have P3 := Lib.hid (own_below P2.out b3)
      have B3 := Lib.hid (B2.out.trans (b3.mono B2.out.size))
      clear o3 b3
      go_wp2_with fail
      refine (F13.out _ _ _ _ _ O3.out P3.out).mono ?_
      rintro e w4 ⟨rfl, hm⟩
      go_wp2_with fail
      go_ret
      obtain ⟨m, rfl⟩ := hm
      exact ⟨rfl, Below.drewN' B3.out m⟩
end Lw
end Go.Proofs.YtidbpoigbfpocaaDoor
