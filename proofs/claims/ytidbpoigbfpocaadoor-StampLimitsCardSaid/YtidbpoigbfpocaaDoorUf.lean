/- The law StampLimits. -/
import Derived.Test.YtidbpoigbfpocaaDoorUb
namespace Go.Proofs.YtidbpoigbfpocaaDoor
open Go.RowKit
namespace Lw
open Bm Mt Wr Pk Rp Cv Rd Rx Sz Tm Ti En

/-- Squares. -/
def sq (k : Nat) : Int := (k : Int) * (k : Int)
theorem sq_mul {k : Nat} (hk : k ≤ 1005) : (0 : Int) ≤ (k : Int) * (k : Int) ∧ (k : Int) * (k : Int) ≤ 1010025 := by
  have h : k * k ≤ 1005 * 1005 := Nat.mul_le_mul hk hk
  have e : (k : Int) * (k : Int) = ((k * k : Nat) : Int) := by push_cast; rfl
  rw [e]
  omega
theorem sq_in {n : Nat} (hn : n ≤ 1005) : In (tab sq n) := by
  intro t ht
  obtain ⟨i, hi, rfl⟩ := tab_mem ht
  have := sq_mul (show i ≤ 1005 by omega)
  unfold sq
  omega
theorem sq_get (n i : Nat) (hi : i < n) : (tab sq n).getD i 0 = sq i := tab_get _ _ _ _ hi
theorem sq_ok {n : Nat} (h1 : 1 ≤ n) (hn : n ≤ 1000) : Ok (tab sq n) := by
  refine ⟨by rw [tab_len]; omega, by rw [tab_len]; omega, fun i hi => ?_⟩
  rw [tab_len] at hi
  rw [sq_get _ _ (by omega), sq_get _ _ (by omega)]
  unfold sq
  have h : i * i < (i + 1) * (i + 1) := by simp only [Nat.add_mul, Nat.mul_add, Nat.mul_one, Nat.one_mul]; omega
  have e1 : (i : Int) * (i : Int) = ((i * i : Nat) : Int) := by push_cast; rfl
  have e2 : ((i + 1 : Nat) : Int) * ((i + 1 : Nat) : Int) = (((i + 1) * (i + 1) : Nat) : Int) := by push_cast; rfl
  rw [e1, e2]
  omega
theorem set_get_ne (T : List Int) (k i : Nat) (z : Int) (h : k ≠ i) : (T.set k z).getD i 0 = T.getD i 0 := by simp [List.getD_eq_getElem?_getD, List.getElem?_set_ne h]
theorem set_get_eq (T : List Int) (k : Nat) (z : Int) (h : k < T.length) : (T.set k z).getD k 0 = z := by simp [List.getD_eq_getElem?_getD, h]
theorem set_bad {T : List Int} {j : Nat} (hj : j + 1 < T.length) : ¬ Ok (T.set (j + 1) (T.getD j 0)) := fun h => by
  have := h.2.2 j (by rw [List.length_set]; omega)
  rw [set_get_ne _ _ _ _ (by omega), set_get_eq _ _ _ hj] at this
  omega
theorem set_in {T : List Int} (h : In T) (j i : Nat) : In (T.set j (T.getD i 0)) := fun t ht => by
  rcases List.mem_or_eq_of_mem_set ht with h1 | h1
  · exact h t h1
  · rw [h1]; exact h.get i
theorem i64s_set (T : List Int) (j : Nat) (z : Int) : i64s (T.set j z) = (i64s T).set j (.int .i64 z) := by simp [i64s, List.map_set]

set_option maxRecDepth 100000 in
set_option maxHeartbeats 1000000 in
theorem limits7 (w : World) (x y : Int) (hT : Tab w) (x1 : 0 ≤ x) (x2 : x < 65536) (y1 : 0 ≤ y) (y2 : y < 65536) :
    Calls Tryd.prog 7 #[.int .u16 x, .int .u16 y] w fun e w' => e = .returned (.bool true) ∧ Below w.heap.size w w' := by
  obtain ⟨i0, hi, hz0, hz1, hz2⟩ := info_parts info2
  have F8 := Lib.hid (awake8 w hT)
  obtain ⟨X, rfl⟩ := Int.eq_ofNat_of_zero_le x1
  obtain ⟨Y, rfl⟩ := Int.eq_ofNat_of_zero_le y1
  obtain ⟨N, hN⟩ : ∃ N : Nat, N = X % 1005 := ⟨_, rfl⟩
  have hNi : (X : Int) % 1005 = (N : Int) := by omega
  have hN2 : N ≤ 1004 := by omega
  have HT := Lib.hid hT
  have HNI := Lib.hid hNi
  clear hT hN hNi
  go_enter Tryd.func7, Tryd.ntmps7
  go_wp2_with (go_at_call 8; refine F8.out.mono ?_; rintro e w1 ⟨rfl, b1⟩; have B1 := Lib.hid b1; clear b1)
  rw [HNI.out]
  have E10 : Hid (∀ x B u T, In T → Below w.heap.size w x → World.ownsRow x B 2 1 u T.length (i64s T) → Calls Tryd.prog 10 #[u] x fun e w' => Encoded x T e w') := Lib.hid fun x B u T hin b ho => encode10 x u T (ii_own ho hin) (HT.out.below b HT.out.1)
  clear HT HNI F8
  go_loopw [7, 6, 19] (fun _ o i wr => ∃ k, k ≤ N ∧ i = .int .i64 (k : Nat) ∧ wr.ownsRow w.heap.size 2 1 o k (i64s (tab sq k)) ∧ Below w.heap.size w wr) (fun _ _ i _ => N - (intOf i).toNat)
  case atStart => exact ⟨0, Nat.zero_le _, rfl, World.ownsRow_nil _ _ _ _, B1.out⟩
  case round =>
    obtain ⟨k, hk, rfl, ho, hbl⟩ := hrel
    by_cases hkn : k < N
    · obtain ⟨hq1, hq2⟩ := sq_mul (show k ≤ 1005 by omega)
      obtain ⟨Q, hQ⟩ : ∃ Q, (k : Int) * (k : Int) = Q := ⟨_, rfl⟩
      rw [hQ] at hq1 hq2
      have HTD : Hid (i64s (tab sq (k + 1)) = i64s (tab sq k) ++ [.int .i64 Q]) := Lib.hid (by rw [tab_succ, i64s_snoc, show sq k = Q from hQ])
      have HB := Lib.hid hbl
      have hbs := hbl.size
      have hown := ho
      clear ho hbl
      go_wp2_with (at_builtin; refine wpList_append_own _ rfl (.tmp 22) (.tmp 26) 22 rfl w.heap.size 2 i0 (.int .i64 0) 1 8 Tryd.underlying22 hi hz0 hz1 hz2 rfl (by decide) _ k _ rfl (hown.alloc _) ⟨wr.heap.size, 0, none⟩ 1 1 [.int .i64 Q] rfl rfl ?c1 ?c2 ?c3 ?c4 ?c5 ?_)
      case c1 => exact cell_one_new _ _ _
      case c2 => intro u hu; simp at hu; subst hu; rfl
      case c3 => unfold maxLen; omega
      case c4 => omega
      case c5 => simp; omega
      intro v' w6 hown' hgrow _
      have b6 := Lib.hid (Below.grown (HB.out.alloc (Nat.le_trans (Nat.le_refl _) hbs) _) hgrow (by simp; omega) (fun r hr => (hown.lt r hr).1))
      clear hgrow
      have hO6 := Lib.hid hown'
      clear hown'
      go_wp2_with fail
      go_roundw
      case rel => exact ⟨k + 1, by omega, by go_num, by rw [HTD.out]; exact hO6.out, b6.out⟩
      case measure => simp [intOf]; omega
    · obtain rfl : N = k := by omega
      have HB := Lib.hid hbl
      have HO := Lib.hid ho
      have F10 := Lib.hid (E10.out _ _ _ (tab sq N) (sq_in (by omega)) hbl (by rw [tab_len]; exact ho))
      clear ho hbl
      by_cases hN1 : 2 ≤ N
      · obtain ⟨go, co, rfl⟩ := Go.Joins.ownsRow_form HO.out (by omega)
        by_cases hN9 : N ≤ 1000
        · have G10 : Hid (Calls Tryd.prog 10 #[.slice (some ⟨go, 0, none⟩) N co] wr fun e w' => ∃ r, e = .returned (.tuple #[r, .int .i64 0]) ∧ Below wr.heap.size wr w') := Lib.hid (F10.out.mono fun e w' h => by
            obtain ⟨r, he, _, bl⟩ := Encoded.ok h (sq_ok (by omega) hN9)
            exact ⟨r, he, bl⟩)
          clear F10
          go_wp2_with fail
          refine G10.out.mono ?_
          rintro e w2 ⟨r2, rfl, b2⟩
          have O2 := Lib.hid (own_below HO.out b2)
          have B2 := Lib.hid (HB.out.trans (b2.mono HB.out.size))
          clear b2 G10
          obtain ⟨J, hJ⟩ : ∃ J, J = Y % (N - 1) := ⟨_, rfl⟩
          have hJM : J < N - 1 := by rw [hJ]; exact Nat.mod_lt _ (by omega)
          have HK : Hid (wrap64 (1 + (wrap64 (Y : Int)).tmod ((N : Int) - 1)) = ((J + 1 : Nat) : Int)) := Lib.hid (by
            rw [show wrap64 (Y : Int) = (Y : Int) from by unfold wrap64; omega, show (N : Int) - 1 = ((N - 1 : Nat) : Int) from by omega, Int.tmod_eq_emod_of_nonneg (by omega)]
            have e : (Y : Int) % ((N - 1 : Nat) : Int) = (J : Int) := by rw [hJ]; rfl
            rw [e]
            unfold wrap64
            omega)
          have hJN : J + 1 < N := by omega
          have HN2 := Lib.hid hN2
          have HTN : Hid (i64s ((tab sq N).set (J + 1) ((tab sq N).getD J 0)) = (i64s (tab sq N)).set (J + 1) (.int .i64 ((tab sq N).getD J 0)) ∧ ((tab sq N).set (J + 1) ((tab sq N).getD J 0)).length = N ∧ In ((tab sq N).set (J + 1) ((tab sq N).getD J 0))) := Lib.hid ⟨i64s_set _ _ _, by rw [List.length_set, tab_len], set_in (sq_in (by omega)) _ _⟩
          have HBAD : Hid (¬ Ok ((tab sq N).set (J + 1) ((tab sq N).getD J 0))) := Lib.hid (set_bad (by rw [tab_len]; exact hJN))
          clear hJ hJM
          have hi1 : (1 : Int) ≤ (N : Int) := by omega
          have hi2 : (N : Int) ≤ 1000 := by omega
          go_upto_region 13 with (fail)
          have hi3 : (2 : Int) ≤ (N : Int) := by omega
          have hi4 : ((N : Int) < 2) = False := by simp; omega
          clear hi1 hi2 x2 y2 x1 y1 hN2 hkn hk
          go_upto_region 15 with (fail)
          have hN2 := HN2.out
          have hr0 : ¬ (N : Int) - 1 = 0 := by omega
          clear hi4
          go_upto_region 16 with (fail)
          rw [HK.out]
          have e1 : w2.cell? ⟨go, J, none⟩ = some (.int .i64 ((tab sq N).getD J 0)) := by
            rw [O2.out.cellAt J (by omega)]
            exact i64s_get _ _ (by rw [tab_len]; omega)
          have e3 : w2.cell? ⟨go, J + 1, none⟩ = some (.int .i64 ((tab sq N).getD (J + 1) 0)) := by
            rw [O2.out.cellAt (J + 1) (by omega)]
            exact i64s_get _ _ (by rw [tab_len]; omega)
          have e2 : w2.frozen? ⟨go, J + 1, none⟩ = false := O2.out.frozenAt (J + 1)
          have HG : Hid (w.heap.size ≤ go) := Lib.hid (O2.out.lt go rfl).1
          obtain ⟨T', hT'⟩ : ∃ T', T' = (tab sq N).set (J + 1) ((tab sq N).getD J 0) := ⟨_, rfl⟩
          rw [← hT'] at HTN HBAD
          obtain ⟨A, hA⟩ : ∃ A, A = (tab sq N).getD J 0 := ⟨_, rfl⟩
          rw [← hA] at e1 HTN
          obtain ⟨A2, hA2⟩ : ∃ A2, A2 = (tab sq N).getD (J + 1) 0 := ⟨_, rfl⟩
          rw [← hA2] at e3
          obtain ⟨K, hK⟩ : ∃ K, K = J + 1 := ⟨_, rfl⟩
          rw [← hK] at e3 e2 HTN hJN ⊢
          have hk1 : (K : Int) - 1 = (J : Int) := by omega
          have hJN2 : J < N := by omega
          clear hr0 hi3 hK hA hA2 hT' HO HB
          go_upto_region 17 with (fail)
          obtain ⟨w5, hw5⟩ : ∃ w5, w5 = w2.setCell ⟨go, K, none⟩ (.int .i64 A) := ⟨_, rfl⟩
          have O5 : Hid (w5.ownsRow w.heap.size 2 1 (.slice (some ⟨go, 0, none⟩) N co) T'.length (i64s T')) := Lib.hid (by rw [hw5, HTN.out.2.1, HTN.out.1]; exact (O2.out.stored K _).1)
          have B5 : Hid (Below w.heap.size w w5) := Lib.hid (by
            rw [hw5]
            have hb := B2.out
            have hg := HG.out
            exact ⟨hb.os, hb.tape, hb.output, by simpa using hb.size, fun k hk => by rw [heap_setCell_other _ _ _ _ (by simp; omega)]; exact hb.block k hk⟩)
          rw [← hw5]
          have H10 : Hid (Calls Tryd.prog 10 #[.slice (some ⟨go, 0, none⟩) N co] w5 fun e w' => e = .returned (.tuple #[.slice none 0 0, .int .i64 1]) ∧ Below w5.heap.size w5 w') := Lib.hid ((E10.out _ _ _ T' HTN.out.2.2 B5.out O5.out).mono fun e w' h => Encoded.bad h HBAD.out)
          clear hw5 e1 e2 e3 E10
          go_wp2_with (go_at_call 10; refine H10.out.mono ?_; rintro e w6 ⟨rfl, b6⟩; have B6 := Lib.hid (B5.out.trans (b6.mono B5.out.size)); clear b6)
          go_ret
          exact ⟨rfl, B6.out⟩
        · have G10 : Hid (Calls Tryd.prog 10 #[.slice (some ⟨go, 0, none⟩) N co] wr fun e w' => ∃ r, e = .returned (.tuple #[r, .int .i64 1]) ∧ Below wr.heap.size wr w') := Lib.hid (F10.out.mono fun e w' h => by
            obtain ⟨he, bl⟩ := Encoded.bad h (fun h => by have := h.2.1; rw [tab_len] at this; omega)
            exact ⟨_, he, bl⟩)
          clear F10
          go_wp2_with fail
          refine G10.out.mono ?_
          rintro e w2 ⟨r2, rfl, b2⟩
          have O2 := Lib.hid (own_below HO.out b2)
          have B2 := Lib.hid (HB.out.trans (b2.mono HB.out.size))
          clear b2 G10
          obtain ⟨J, hJ⟩ : ∃ J, J = Y % (N - 1) := ⟨_, rfl⟩
          have hJM : J < N - 1 := by rw [hJ]; exact Nat.mod_lt _ (by omega)
          have HK : Hid (wrap64 (1 + (wrap64 (Y : Int)).tmod ((N : Int) - 1)) = ((J + 1 : Nat) : Int)) := Lib.hid (by
            rw [show wrap64 (Y : Int) = (Y : Int) from by unfold wrap64; omega, show (N : Int) - 1 = ((N - 1 : Nat) : Int) from by omega, Int.tmod_eq_emod_of_nonneg (by omega)]
            have e : (Y : Int) % ((N - 1 : Nat) : Int) = (J : Int) := by rw [hJ]; rfl
            rw [e]
            unfold wrap64
            omega)
          have hJN : J + 1 < N := by omega
          have HN2 := Lib.hid hN2
          have HTN : Hid (i64s ((tab sq N).set (J + 1) ((tab sq N).getD J 0)) = (i64s (tab sq N)).set (J + 1) (.int .i64 ((tab sq N).getD J 0)) ∧ ((tab sq N).set (J + 1) ((tab sq N).getD J 0)).length = N ∧ In ((tab sq N).set (J + 1) ((tab sq N).getD J 0))) := Lib.hid ⟨i64s_set _ _ _, by rw [List.length_set, tab_len], set_in (sq_in (by omega)) _ _⟩
          have HBAD : Hid (¬ Ok ((tab sq N).set (J + 1) ((tab sq N).getD J 0))) := Lib.hid (set_bad (by rw [tab_len]; exact hJN))
          clear hJ hJM
          have hi1 : (1 : Int) ≤ (N : Int) := by omega
          have hi2 : ((N : Int) ≤ 1000) = False := by simp; omega
          clear hN9
          go_upto_region 13 with (fail)
          have hi3 : (2 : Int) ≤ (N : Int) := by omega
          have hi4 : ((N : Int) < 2) = False := by simp; omega
          clear hi1 hi2 x2 y2 x1 y1 hN2 hkn hk
          go_upto_region 15 with (fail)
          have hN2 := HN2.out
          have hr0 : ¬ (N : Int) - 1 = 0 := by omega
          clear hi4
          go_upto_region 16 with (fail)
          rw [HK.out]
          have e1 : w2.cell? ⟨go, J, none⟩ = some (.int .i64 ((tab sq N).getD J 0)) := by
            rw [O2.out.cellAt J (by omega)]
            exact i64s_get _ _ (by rw [tab_len]; omega)
          have e3 : w2.cell? ⟨go, J + 1, none⟩ = some (.int .i64 ((tab sq N).getD (J + 1) 0)) := by
            rw [O2.out.cellAt (J + 1) (by omega)]
            exact i64s_get _ _ (by rw [tab_len]; omega)
          have e2 : w2.frozen? ⟨go, J + 1, none⟩ = false := O2.out.frozenAt (J + 1)
          have HG : Hid (w.heap.size ≤ go) := Lib.hid (O2.out.lt go rfl).1
          obtain ⟨T', hT'⟩ : ∃ T', T' = (tab sq N).set (J + 1) ((tab sq N).getD J 0) := ⟨_, rfl⟩
          rw [← hT'] at HTN HBAD
          obtain ⟨A, hA⟩ : ∃ A, A = (tab sq N).getD J 0 := ⟨_, rfl⟩
          rw [← hA] at e1 HTN
          obtain ⟨A2, hA2⟩ : ∃ A2, A2 = (tab sq N).getD (J + 1) 0 := ⟨_, rfl⟩
          rw [← hA2] at e3
          obtain ⟨K, hK⟩ : ∃ K, K = J + 1 := ⟨_, rfl⟩
          rw [← hK] at e3 e2 HTN hJN ⊢
          have hk1 : (K : Int) - 1 = (J : Int) := by omega
          have hJN2 : J < N := by omega
          clear hr0 hi3 hK hA hA2 hT' HO HB
          go_upto_region 17 with (fail)
          obtain ⟨w5, hw5⟩ : ∃ w5, w5 = w2.setCell ⟨go, K, none⟩ (.int .i64 A) := ⟨_, rfl⟩
          have O5 : Hid (w5.ownsRow w.heap.size 2 1 (.slice (some ⟨go, 0, none⟩) N co) T'.length (i64s T')) := Lib.hid (by rw [hw5, HTN.out.2.1, HTN.out.1]; exact (O2.out.stored K _).1)
          have B5 : Hid (Below w.heap.size w w5) := Lib.hid (by
            rw [hw5]
            have hb := B2.out
            have hg := HG.out
            exact ⟨hb.os, hb.tape, hb.output, by simpa using hb.size, fun k hk => by rw [heap_setCell_other _ _ _ _ (by simp; omega)]; exact hb.block k hk⟩)
          rw [← hw5]
          have H10 : Hid (Calls Tryd.prog 10 #[.slice (some ⟨go, 0, none⟩) N co] w5 fun e w' => e = .returned (.tuple #[.slice none 0 0, .int .i64 1]) ∧ Below w5.heap.size w5 w') := Lib.hid ((E10.out _ _ _ T' HTN.out.2.2 B5.out O5.out).mono fun e w' h => Encoded.bad h HBAD.out)
          clear hw5 e1 e2 e3 E10
          go_wp2_with (go_at_call 10; refine H10.out.mono ?_; rintro e w6 ⟨rfl, b6⟩; have B6 := Lib.hid (B5.out.trans (b6.mono B5.out.size)); clear b6)
          go_ret
          exact ⟨rfl, B6.out⟩
      · by_cases hN0 : N = 0
        · subst hN0
          have G10 : Hid (Calls Tryd.prog 10 #[u6] wr fun e w' => e = .returned (.tuple #[.slice none 0 0, .int .i64 1]) ∧ Below wr.heap.size wr w') := Lib.hid (F10.out.mono fun e w' h => Encoded.bad h (fun h => absurd h.1 (by decide)))
          clear E10 F10
          go_wp2_with (go_at_call 10; refine G10.out.mono ?_; rintro e w2 ⟨rfl, b2⟩; have B2 := Lib.hid (HB.out.trans (b2.mono HB.out.size)); clear b2)
          go_ret
          exact ⟨rfl, B2.out⟩
        · obtain rfl : N = 1 := by omega
          have G10 : Hid (Calls Tryd.prog 10 #[u6] wr fun e w' => ∃ r, e = .returned (.tuple #[r, .int .i64 0]) ∧ Below wr.heap.size wr w') := Lib.hid (F10.out.mono fun e w' h => by
            obtain ⟨r, he, _, bl⟩ := Encoded.ok h (sq_ok (by decide) (by decide))
            exact ⟨r, he, bl⟩)
          clear E10 F10
          go_wp2_with (go_at_call 10; refine G10.out.mono ?_; rintro e w2 ⟨r2, rfl, b2⟩; have B2 := Lib.hid (HB.out.trans (b2.mono HB.out.size)); clear b2)
          go_ret
          exact ⟨rfl, B2.out⟩
end Lw
end Go.Proofs.YtidbpoigbfpocaaDoor
