/- distancesOf, alike, changesOf. -/
import Derived.Test.YtidbpoigbfpocaaDoorTi
namespace Go.Proofs.YtidbpoigbfpocaaDoor
open Go.RowKit
namespace Ti
open Mt Wr Bm Pk Rp Cv Rd Rx Sz Tm

set_option maxRecDepth 100000 in
set_option maxHeartbeats 1000000 in
theorem dists21 (w : World) (v : Value) (T : List Int) (hI : Ii w v T) (h1 : 2 ≤ T.length) (hl : T.length ≤ 1000) :
    Calls Tryd.prog 21 #[v] w fun e w' => ∃ r, e = .returned r ∧ w'.ownsRow w.heap.size 35 1 r (dists T).length (u64s (dists T)) ∧ Below w.heap.size w w' := by
  obtain ⟨i0, hi, hz0, hz1, hz2⟩ := info_parts info34
  obtain ⟨hT, ⟨a, c, rfl, h0⟩ | ⟨b, off, c, rfl, hc, hb, hcell⟩⟩ := hI
  · rw [h0] at h1; simp at h1
  · have HD : Hid (dists T = tab (dist T) (T.length - 1)) := Lib.hid rfl
    obtain ⟨n, hn⟩ : ∃ n, n = T.length := ⟨_, rfl⟩
    rw [← hn] at h1 hl hc hcell HD ⊢
    have HC := Lib.hid hcell
    clear hcell hn hT
    have hc1 : ¬ c = 1 := by omega
    go_enter Tryd.func21, Tryd.ntmps21
    go_wp2_with fail
    go_loopw [4, 5, 3, 9] (fun _ _ o i wr => ∃ k, k ≤ n - 1 ∧ i = .int .i64 (k : Nat) ∧ wr.ownsRow w.heap.size 35 1 o k (u64s (tab (dist T) k)) ∧ Below w.heap.size w wr) (fun _ _ _ i _ => n - (intOf i).toNat)
    case atStart => exact ⟨0, Nat.zero_le _, rfl, World.ownsRow_nil _ _ _ _, Below.refl _ _⟩
    case round =>
      obtain ⟨k, hk, rfl, ho, hbl⟩ := hrel
      by_cases hkn : k < n - 1
      · have e1 := (hbl.cell hb).trans (HC.out k (by omega))
        have e2 := (hbl.cell hb).trans (HC.out (k + 1) (by omega))
        have ed := dist_of T k
        obtain ⟨A, hA⟩ : ∃ A, A = T.getD k 0 := ⟨_, rfl⟩
        obtain ⟨B, hB⟩ : ∃ B, B = T.getD (k + 1) 0 := ⟨_, rfl⟩
        obtain ⟨D, hD⟩ : ∃ D, D = dist T k := ⟨_, rfl⟩
        rw [← hA] at e1
        rw [← hB, show off + (k + 1) = off + 1 + k from by omega] at e2
        rw [← hA, ← hB, ← hD] at ed
        have hyi : IntKind.u64.wrap (IntKind.u64.wrap B - IntKind.u64.wrap A) = (D : Int) := by simp only [IntKind.wrap_u64]; omega
        have HTD : Hid (u64s (tab (dist T) (k + 1)) = u64s (tab (dist T) k) ++ [.int .u64 (D : Nat)]) := Lib.hid (by rw [tab_succ, u64s_snoc, hD])
        clear hA hB hD ed
        have HB := Lib.hid hbl
        have hbs := hbl.size
        have hown := ho
        clear ho hbl
        go_wp2_with (at_builtin; refine wpList_append_own _ rfl (.tmp 14) (.tmp 23) 39 rfl w.heap.size 35 i0 (.int .u64 0) 1 8 Tryd.underlying39 hi hz0 hz1 hz2 rfl (by decide) _ _ _ rfl (hown.alloc _) ⟨wr.heap.size, 0, none⟩ 1 1 [.int .u64 (D : Nat)] rfl rfl ?c1 ?c2 ?c3 ?c4 ?c5 ?_)
        case c1 => exact cell_one_new _ _ _
        case c2 => intro u hu; simp at hu; subst hu; rfl
        case c3 => unfold maxLen; omega
        case c4 => omega
        case c5 => simp; omega
        intro v' w2 hown' hgrow _
        have b2 := Lib.hid (Below.grown (HB.out.alloc (Nat.le_trans (Nat.le_refl _) hbs) _) hgrow (by simp; omega) (fun r hr => (hown.lt r hr).1))
        clear hgrow
        have hO2 := Lib.hid hown'
        clear hown'
        go_wp2_with fail
        go_roundw
        case rel => exact ⟨k + 1, by omega, by go_num, by rw [HTD.out]; exact hO2.out, b2.out⟩
        case measure => simp [intOf]; omega
      · obtain rfl : k = n - 1 := by omega
        have HB := Lib.hid hbl
        have HO := Lib.hid ho
        clear ho hbl
        go_wp2_with fail
        go_ret
        refine ⟨_, rfl, ?_, HB.out⟩
        rw [HD.out, tab_len]
        exact HO.out

theorem alike_yes (T : List Int) (h : ∀ j, j < T.length - 1 → dist T j = dist T 0) : decide (OneFar T) = true := decide_eq_true h
theorem alike_no (T : List Int) (j : Nat) (hj : j < T.length - 1) (h : ¬ dist T j = dist T 0) : decide (OneFar T) = false := decide_eq_false fun h' => h (h' j hj)
theorem dists_iu {w : World} {B : Nat} {v : Value} {T : List Int} (h : w.ownsRow B 35 1 v (dists T).length (u64s (dists T))) : Iu w v (dists T) :=
  iu_own h fun x hx => by obtain ⟨j, _, rfl⟩ := tab_mem hx; exact dist_lt T j
theorem dists_len (T : List Int) : (dists T).length = T.length - 1 := tab_len _ _
theorem dists_get (T : List Int) (i : Nat) (hi : i < T.length - 1) : (dists T).getD i 0 = dist T i := tab_get _ _ _ _ hi
theorem chgs_len (T : List Int) : (chgs T).length = T.length - 1 := tab_len _ _
theorem dists_open {w : World} {v : Value} {T : List Int} (hI : Iu w v (dists T)) (h1 : 2 ≤ T.length) :
    ∃ b off c, v = .slice (some ⟨b, off, none⟩) (T.length - 1) c ∧ T.length - 1 ≤ c ∧ b < w.heap.size ∧ ∀ i, i < T.length - 1 → w.cell? ⟨b, off + i, none⟩ = some (.int .u64 (dist T i : Nat)) := by
  have hl := dists_len T
  rcases hI.cases with ⟨a, c, rfl, h⟩ | ⟨_, b, off, c, rfl, h2, h3, h4⟩
  · rw [h] at hl; simp at hl; omega
  · refine ⟨b, off, c, by rw [hl], by omega, h3, fun i hi => ?_⟩
    rw [h4 i (by omega), dists_get T i hi]

set_option maxRecDepth 100000 in
theorem alike22 (w : World) (v : Value) (T : List Int) (hI : Iu w v (dists T)) (h1 : 2 ≤ T.length) (hl : T.length ≤ 1000) :
    Calls Tryd.prog 22 #[v] w fun e w' => e = .returned (.bool (decide (OneFar T))) ∧ w' = w := by
  obtain ⟨b, off, c, rfl, hc, hb, hcell⟩ := dists_open hI h1
  have HY := Lib.hid (alike_yes T)
  have HN := Lib.hid (alike_no T)
  obtain ⟨n, hn⟩ : ∃ n, n = T.length - 1 := ⟨_, rfl⟩
  rw [← hn] at hc hcell HY HN ⊢
  have hn1 : 1 ≤ n := by omega
  have hn2 : n ≤ 1000 := by omega
  have e0 := hcell 0 (by omega)
  have HC := Lib.hid hcell
  clear hcell hn hI h1 hl
  obtain ⟨Z, hZ⟩ : ∃ Z, Z = dist T 0 := ⟨_, rfl⟩
  rw [← hZ, Nat.add_zero] at e0
  rw [← hZ] at HY HN
  clear hZ
  go_enter Tryd.func22, Tryd.ntmps22
  go_wp2_with fail
  go_loop [4, 7] (fun _ i => ∃ k, k ≤ n ∧ i = .int .i64 (k : Nat) ∧ ∀ j, j < k → dist T j = Z) (fun _ i => n - (intOf i).toNat)
  case atStart => exact ⟨0, Nat.zero_le _, rfl, fun j hj => by omega⟩
  case round =>
    obtain ⟨k, hk, rfl, hall⟩ := hrel
    have HA := Lib.hid hall
    clear hall
    by_cases hkn : k < n
    · have e1 := HC.out k hkn
      obtain ⟨D, hD⟩ : ∃ D, D = dist T k := ⟨_, rfl⟩
      rw [← hD] at e1
      have HD := Lib.hid hD
      clear hD
      by_cases hlt : D = Z
      · have hdec : ((D : Int) == (Z : Int)) = true := by simp; omega
        have HE := Lib.hid hlt
        clear hlt
        go_wp2_with fail
        go_round
        case rel =>
          refine ⟨k + 1, by omega, by go_num, fun j hj => ?_⟩
          by_cases e : j = k
          · subst e; rw [← HD.out]; exact HE.out
          · exact HA.out j (by omega)
        case measure => simp [intOf]; omega
      · have hdec : ((D : Int) == (Z : Int)) = false := by simp; omega
        have HE := Lib.hid hlt
        clear hlt
        go_wp2_with fail
        go_ret
        exact ⟨by rw [HN.out k hkn (by rw [← HD.out]; exact HE.out)]; rfl, rfl⟩
    · obtain rfl : k = n := by omega
      go_wp2_with fail
      go_ret
      exact ⟨by rw [HY.out HA.out]; rfl, rfl⟩

set_option maxRecDepth 100000 in
set_option maxHeartbeats 1000000 in
theorem chgs25 (w : World) (v : Value) (T : List Int) (hI : Iu w v (dists T)) (h1 : 2 ≤ T.length) (hl : T.length ≤ 1000) :
    Calls Tryd.prog 25 #[v] w fun e w' => ∃ r, e = .returned r ∧ w'.ownsRow w.heap.size 35 1 r (chgs T).length (u64s (chgs T)) ∧ Below w.heap.size w w' := by
  obtain ⟨i0, hi, hz0, hz1, hz2⟩ := info_parts info34
  obtain ⟨b, off, c, rfl, hc, hb, hcell⟩ := dists_open hI h1
  have HD : Hid (chgs T = tab (chg T) (T.length - 1)) := Lib.hid rfl
  obtain ⟨n, hn⟩ : ∃ n, n = T.length - 1 := ⟨_, rfl⟩
  rw [← hn] at hc hcell HD ⊢
  have hn2 : n ≤ 1000 := by omega
  have HC := Lib.hid hcell
  clear hcell hn hI h1 hl
  go_enter Tryd.func25, Tryd.ntmps25
  go_wp2_with fail
  go_loopw [6, 3, 4, 9] (fun _ o p i wr => ∃ k, k ≤ n ∧ i = .int .i64 (k : Nat) ∧ p = .int .u64 (prev T k : Nat) ∧ wr.ownsRow w.heap.size 35 1 o k (u64s (tab (chg T) k)) ∧ Below w.heap.size w wr) (fun _ _ _ i _ => n - (intOf i).toNat)
  case atStart => exact ⟨0, Nat.zero_le _, rfl, rfl, World.ownsRow_nil _ _ _ _, Below.refl _ _⟩
  case round =>
    obtain ⟨k, hk, rfl, rfl, ho, hbl⟩ := hrel
    by_cases hkn : k < n
    · have e1 := (hbl.cell hb).trans (HC.out k (by omega))
      have hcg := chg_of T k
      have hd1 := dist_lt T k
      have hd2 : prev T k < 18446744073709551616 := by match k with
        | 0 => show 0 < 18446744073709551616; omega
        | k + 1 => exact dist_lt T k
      obtain ⟨D, hD⟩ : ∃ D, D = dist T k := ⟨_, rfl⟩
      obtain ⟨P, hP⟩ : ∃ P, P = prev T k := ⟨_, rfl⟩
      obtain ⟨C, hC⟩ : ∃ C, C = chg T k := ⟨_, rfl⟩
      have HP : Hid (D = prev T (k + 1)) := Lib.hid (by rw [hD]; rfl)
      rw [← hD] at e1 hd1
      rw [← hD, ← hP, ← hC] at hcg
      rw [← hP] at hd2 ⊢
      have F35 : Hid (∀ x, Calls Tryd.prog 35 #[.int .i64 (wrap64 ((D : Int) - (P : Int)))] x fun e w' => e = .returned (.int .u64 (C : Nat)) ∧ w' = x) := Lib.hid fun x => by
        have := zig22 (wrap64 ((D : Int) - (P : Int))) (wrap_in _).1 (wrap_in _).2 x
        rwa [← hcg] at this
      have hyi : wrap64 (IntKind.u64.wrap ((D : Int) - (P : Int))) = wrap64 ((D : Int) - (P : Int)) := by simp only [IntKind.wrap_u64]; unfold wrap64; omega
      have HTD : Hid (u64s (tab (chg T) (k + 1)) = u64s (tab (chg T) k) ++ [.int .u64 (C : Nat)]) := Lib.hid (by rw [tab_succ, u64s_snoc, hC])
      clear hD hP hC hcg
      have HB := Lib.hid hbl
      have hbs := hbl.size
      have hown := ho
      clear ho hbl
      go_wp2_with (first
        | (go_at_call 35; refine (F35.out _).mono ?_; rintro e w5 ⟨rfl, h5⟩; rw [h5]; clear h5 w5)
        | (at_builtin; refine wpList_append_own _ rfl (.tmp 13) (.tmp 19) 39 rfl w.heap.size 35 i0 (.int .u64 0) 1 8 Tryd.underlying39 hi hz0 hz1 hz2 rfl (by decide) _ _ _ rfl (hown.alloc _) ⟨wr.heap.size, 0, none⟩ 1 1 [.int .u64 (C : Nat)] rfl rfl ?c1 ?c2 ?c3 ?c4 ?c5 ?_))
      case c1 => exact cell_one_new _ _ _
      case c2 => intro u hu; simp at hu; subst hu; rfl
      case c3 => unfold maxLen; omega
      case c4 => omega
      case c5 => simp; omega
      intro v' w2 hown' hgrow _
      have b2 := Lib.hid (Below.grown (HB.out.alloc (Nat.le_trans (Nat.le_refl _) hbs) _) hgrow (by simp; omega) (fun r hr => (hown.lt r hr).1))
      clear hgrow
      have hO2 := Lib.hid hown'
      clear hown'
      go_wp2_with fail
      go_roundw
      case rel => exact ⟨k + 1, by omega, by go_num, by rw [HP.out], by rw [HTD.out]; exact hO2.out, b2.out⟩
      case measure => simp [intOf]; omega
    · obtain rfl : k = n := by omega
      have HB := Lib.hid hbl
      have HO := Lib.hid ho
      clear ho hbl
      go_wp2_with fail
      go_ret
      refine ⟨_, rfl, ?_, HB.out⟩
      rw [HD.out, tab_len]
      exact HO.out
end Ti
end Go.Proofs.YtidbpoigbfpocaaDoor
