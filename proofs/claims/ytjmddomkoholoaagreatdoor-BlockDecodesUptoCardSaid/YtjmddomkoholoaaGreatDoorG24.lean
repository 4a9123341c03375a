import Derived.Test.YtjmddomkoholoaaGreatDoorG23
import Derived.Test.YtjmddomkoholoaaGreatDoorG08
import Derived.Test.YtjmddomkoholoaaGreatDoorG09

/- Times in memory; rise, distancesOf, alike, changesOf. -/
namespace Go.Proofs.YtjmddomkoholoaaGreatDoor
open Go.RowKit
namespace Ti
open Mt Wr Bm Pk Rp Cv Rd Rx Sz Tm

/-- A slice whose cells are these times. -/
def Ii (w : World) (v : Value) (T : List Int) : Prop :=
  In T ∧ ((∃ a c, v = .slice a 0 c ∧ T = []) ∨
    ∃ b off c, v = .slice (some ⟨b, off, none⟩) T.length c ∧ T.length ≤ c ∧ b < w.heap.size ∧ ∀ i, i < T.length → w.cell? ⟨b, off + i, none⟩ = some (.int .i64 (T.getD i 0)))
theorem Ii.below {w w' : World} {v : Value} {T : List Int} (h : Ii w v T) (b : Below w.heap.size w w') : Ii w' v T := by
  obtain ⟨h1, h2 | ⟨b0, off, c, h2, h3, h4, h5⟩⟩ := h
  · exact ⟨h1, .inl h2⟩
  · exact ⟨h1, .inr ⟨b0, off, c, h2, h3, Nat.lt_of_lt_of_le h4 b.size, fun i hi => (b.cell h4).trans (h5 i hi)⟩⟩
theorem Ii.drewN {w : World} {v : Value} {T : List Int} (h : Ii w v T) (n : Nat) : Ii (w.drewN n) v T := h
def i64s (T : List Int) : List Value := T.map fun b => .int .i64 b
theorem i64s_len (T : List Int) : (i64s T).length = T.length := by simp [i64s]
theorem i64s_snoc (T : List Int) (b : Int) : i64s (T ++ [b]) = i64s T ++ [.int .i64 b] := by simp [i64s]
theorem i64s_get (T : List Int) (j : Nat) (hj : j < T.length) : (i64s T)[j]? = some (.int .i64 (T.getD j 0)) := by
  simp [i64s, List.getD_eq_getElem?_getD, hj]
theorem info2 : (Tryz.prog.info? 2).map (fun i => (i.zero, i.size, i.bytes)) = some (some (.int .i64 0), 1, 8) := by kernel_rfl
theorem ii_own {w : World} {B : Nat} {v : Value} {T : List Int} (h : w.ownsRow B 2 1 v T.length (i64s T)) (hT : In T) : Ii w v T := by
  refine ⟨hT, ?_⟩
  obtain ⟨_, ⟨h0, e⟩ | ⟨g, c, cur, rfl, hg, hh, hnc, hcm, hsz, htk⟩⟩ := h
  · exact .inl ⟨none, 0, h0, List.length_eq_zero_iff.1 e⟩
  · have h' : w.ownsRow B 2 1 (.slice (some ⟨g, 0, none⟩) T.length c) T.length (i64s T) := ⟨by rw [i64s_len]; omega, .inr ⟨g, c, cur, rfl, hg, hh, hnc, hcm, hsz, htk⟩⟩
    refine .inr ⟨g, 0, c, rfl, hnc, (h'.lt g rfl).2, fun i hi => ?_⟩
    rw [Nat.zero_add, h'.cellAt i (by omega)]
    exact i64s_get T i hi

theorem up_yes (T : List Int) (h : ∀ j, j < T.length - 1 → T.getD j 0 < T.getD (j + 1) 0) : decide (Up T) = true := decide_eq_true h
theorem up_no (T : List Int) (j : Nat) (hj : j < T.length - 1) (h : ¬ T.getD j 0 < T.getD (j + 1) 0) : decide (Up T) = false := decide_eq_false fun h' => h (h' j hj)

set_option maxRecDepth 100000 in
theorem rise19 (w : World) (v : Value) (T : List Int) (hI : Ii w v T) (h1 : 1 ≤ T.length) (hl : T.length ≤ 1000) :
    Calls Tryz.prog 77 #[v] w fun e w' => e = .returned (.bool (decide (Up T))) ∧ w' = w := by
  obtain ⟨hT, ⟨a, c, rfl, h0⟩ | ⟨b, off, c, rfl, hc, hb, hcell⟩⟩ := hI
  · rw [h0] at h1; simp at h1
  · have HY := Lib.hid (up_yes T)
    have HN := Lib.hid (up_no T)
    obtain ⟨n, hn⟩ : ∃ n, n = T.length := ⟨_, rfl⟩
    rw [← hn] at h1 hl hc hcell HY HN ⊢
    have HC := Lib.hid hcell
    clear hcell hn hT
    by_cases h2 : n = 1
    · subst h2
      by_cases hc1 : c = 1
      · go_enter Tryz.func77, Tryz.ntmps77
        go_wp2_with fail
        refine wp_loop_rounds 1 ?_
        rw [rounds_succ]
        go_wp2_with fail
        go_ret
        exact ⟨by rw [HY.out fun j hj => by omega]; rfl, rfl⟩
      · go_enter Tryz.func77, Tryz.ntmps77
        go_wp2_with fail
        refine wp_loop_rounds 1 ?_
        rw [rounds_succ]
        go_wp2_with fail
        go_ret
        exact ⟨by rw [HY.out fun j hj => by omega]; rfl, rfl⟩
    · have hc1 : ¬ c = 1 := by omega
      go_enter Tryz.func77, Tryz.ntmps77
      go_wp2_with fail
      go_loop [3, 4, 8] (fun _ _ i => ∃ k, k ≤ n - 1 ∧ i = .int .i64 (k : Nat) ∧ ∀ j, j < k → T.getD j 0 < T.getD (j + 1) 0) (fun _ _ i => n - (intOf i).toNat)
      case atStart => exact ⟨0, Nat.zero_le _, rfl, fun j hj => by omega⟩
      case round =>
        obtain ⟨k, hk, rfl, hall⟩ := hrel
        have HA := Lib.hid hall
        clear hall
        by_cases hkn : k < n - 1
        · have e1 := HC.out k (by omega)
          have e2 := HC.out (k + 1) (by omega)
          obtain ⟨A, hA⟩ : ∃ A, A = T.getD k 0 := ⟨_, rfl⟩
          obtain ⟨B, hB⟩ : ∃ B, B = T.getD (k + 1) 0 := ⟨_, rfl⟩
          rw [← hA] at e1
          rw [← hB, show off + (k + 1) = off + 1 + k from by omega] at e2
          have HAB : Hid (A < B → T.getD k 0 < T.getD (k + 1) 0) := Lib.hid (by rw [hA, hB]; exact id)
          have HNB : Hid (¬ A < B → ¬ T.getD k 0 < T.getD (k + 1) 0) := Lib.hid (by rw [hA, hB]; exact id)
          clear hA hB
          by_cases hlt : A < B
          · go_wp2_with fail
            go_round
            case rel =>
              refine ⟨k + 1, by omega, by go_num, fun j hj => ?_⟩
              by_cases e : j = k
              · subst e; exact HAB.out hlt
              · exact HA.out j (by omega)
            case measure => simp [intOf]; omega
          · go_wp2_with fail
            go_ret
            exact ⟨by rw [HN.out k hkn (HNB.out hlt)]; rfl, rfl⟩
        · obtain rfl : k = n - 1 := by omega
          go_wp2_with fail
          go_ret
          exact ⟨by rw [HY.out HA.out]; rfl, rfl⟩
end Ti
end Go.Proofs.YtjmddomkoholoaaGreatDoor

/- distancesOf, alike, changesOf. -/
namespace Go.Proofs.YtjmddomkoholoaaGreatDoor
open Go.RowKit
namespace Ti
open Mt Wr Bm Pk Rp Cv Rd Rx Sz Tm

set_option maxRecDepth 100000 in
set_option maxHeartbeats 1000000 in
theorem dists21 (w : World) (v : Value) (T : List Int) (hI : Ii w v T) (h1 : 2 ≤ T.length) (hl : T.length ≤ 1000) :
    Calls Tryz.prog 79 #[v] w fun e w' => ∃ r, e = .returned r ∧ w'.ownsRow w.heap.size 33 1 r (dists T).length (u64s (dists T)) ∧ Below w.heap.size w w' := by
  obtain ⟨i0, hi, hz0, hz1, hz2⟩ := info_parts info34
  obtain ⟨hT, ⟨a, c, rfl, h0⟩ | ⟨b, off, c, rfl, hc, hb, hcell⟩⟩ := hI
  · rw [h0] at h1; simp at h1
  · have HD : Hid (dists T = tab (dist T) (T.length - 1)) := Lib.hid rfl
    obtain ⟨n, hn⟩ : ∃ n, n = T.length := ⟨_, rfl⟩
    rw [← hn] at h1 hl hc hcell HD ⊢
    have HC := Lib.hid hcell
    clear hcell hn hT
    have hc1 : ¬ c = 1 := by omega
    go_enter Tryz.func79, Tryz.ntmps79
    go_wp2_with fail
    go_loopw [4, 5, 3, 9] (fun _ _ o i wr => ∃ k, k ≤ n - 1 ∧ i = .int .i64 (k : Nat) ∧ wr.ownsRow w.heap.size 33 1 o k (u64s (tab (dist T) k)) ∧ Below w.heap.size w wr) (fun _ _ _ i _ => n - (intOf i).toNat)
    case atStart => exact ⟨0, Nat.zero_le _, rfl, World.ownsRow_nil _ _ _ _, Below.refl _ _⟩
    case round =>
      obtain ⟨k, hk, rfl, ho, hbl⟩ := hrel
      by_cases hkn : k < n - 1
      · have e1 := (hbl.cell hb).trans (HC.out k (by omega))
        have e2 := (hbl.cell hb).trans (HC.out (k + 1) (by omega))
        have ed := dist_of T k
        obtain ⟨A, hA⟩ : ∃ A, A = T.getD k 0 := ⟨_, rfl⟩
        obtain ⟨B, hB⟩ : ∃ B, B = T.getD (k + 1) 0 := ⟨_, rfl⟩
        obtain ⟨D, hD⟩ : ∃ D, D = dist T k := ⟨_, rfl⟩
        rw [← hA] at e1
        rw [← hB, show off + (k + 1) = off + 1 + k from by omega] at e2
        rw [← hA, ← hB, ← hD] at ed
        have hyi : IntKind.u64.wrap (IntKind.u64.wrap B - IntKind.u64.wrap A) = (D : Int) := by simp only [IntKind.wrap_u64]; omega
        have HTD : Hid (u64s (tab (dist T) (k + 1)) = u64s (tab (dist T) k) ++ [.int .u64 (D : Nat)]) := Lib.hid (by rw [tab_succ, u64s_snoc, hD])
        clear hA hB hD ed
        have HB := Lib.hid hbl
        have hbs := hbl.size
        have hown := ho
        clear ho hbl
        go_wp2_with (at_builtin; refine wpList_append_own _ rfl (.tmp 14) (.tmp 23) 123 rfl w.heap.size 33 i0 (.int .u64 0) 1 8 Tryz.underlying123 hi hz0 hz1 hz2 rfl (by decide) _ _ _ rfl (hown.alloc _) ⟨wr.heap.size, 0, none⟩ 1 1 [.int .u64 (D : Nat)] rfl rfl ?c1 ?c2 ?c3 ?c4 ?c5 ?_)
        case c1 => exact cell_one_new _ _ _
        case c2 => intro u hu; simp at hu; subst hu; rfl
        case c3 => unfold maxLen; omega
        case c4 => omega
        case c5 => simp; omega
        intro v' w2 hown' hgrow _
        have b2 := Lib.hid (Below.grown (HB.out.alloc (Nat.le_trans (Nat.le_refl _) hbs) _) hgrow (by simp; omega) (fun r hr => (hown.lt r hr).1))
        clear hgrow
        have hO2 := Lib.hid hown'
        clear hown'
        go_wp2_with fail
        go_roundw
        case rel => exact ⟨k + 1, by omega, by go_num, by rw [HTD.out]; exact hO2.out, b2.out⟩
        case measure => simp [intOf]; omega
      · obtain rfl : k = n - 1 := by omega
        have HB := Lib.hid hbl
        have HO := Lib.hid ho
        clear ho hbl
        go_wp2_with fail
        go_ret
        refine ⟨_, rfl, ?_, HB.out⟩
        rw [HD.out, tab_len]
        exact HO.out

theorem alike_yes (T : List Int) (h : ∀ j, j < T.length - 1 → dist T j = dist T 0) : decide (OneFar T) = true := decide_eq_true h
theorem alike_no (T : List Int) (j : Nat) (hj : j < T.length - 1) (h : ¬ dist T j = dist T 0) : decide (OneFar T) = false := decide_eq_false fun h' => h (h' j hj)
theorem dists_iu {w : World} {B : Nat} {v : Value} {T : List Int} (h : w.ownsRow B 33 1 v (dists T).length (u64s (dists T))) : Iu w v (dists T) :=
  iu_own h fun x hx => by obtain ⟨j, _, rfl⟩ := tab_mem hx; exact dist_lt T j
theorem dists_len (T : List Int) : (dists T).length = T.length - 1 := tab_len _ _
theorem dists_get (T : List Int) (i : Nat) (hi : i < T.length - 1) : (dists T).getD i 0 = dist T i := tab_get _ _ _ _ hi
theorem chgs_len (T : List Int) : (chgs T).length = T.length - 1 := tab_len _ _
theorem dists_open {w : World} {v : Value} {T : List Int} (hI : Iu w v (dists T)) (h1 : 2 ≤ T.length) :
    ∃ b off c, v = .slice (some ⟨b, off, none⟩) (T.length - 1) c ∧ T.length - 1 ≤ c ∧ b < w.heap.size ∧ ∀ i, i < T.length - 1 → w.cell? ⟨b, off + i, none⟩ = some (.int .u64 (dist T i : Nat)) := by
  have hl := dists_len T
  rcases hI.cases with ⟨a, c, rfl, h⟩ | ⟨_, b, off, c, rfl, h2, h3, h4⟩
  · rw [h] at hl; simp at hl; omega
  · refine ⟨b, off, c, by rw [hl], by omega, h3, fun i hi => ?_⟩
    rw [h4 i (by omega), dists_get T i hi]

set_option maxRecDepth 100000 in
theorem alike22 (w : World) (v : Value) (T : List Int) (hI : Iu w v (dists T)) (h1 : 2 ≤ T.length) (hl : T.length ≤ 1000) :
    Calls Tryz.prog 80 #[v] w fun e w' => e = .returned (.bool (decide (OneFar T))) ∧ w' = w := by
  obtain ⟨b, off, c, rfl, hc, hb, hcell⟩ := dists_open hI h1
  have HY := Lib.hid (alike_yes T)
  have HN := Lib.hid (alike_no T)
  obtain ⟨n, hn⟩ : ∃ n, n = T.length - 1 := ⟨_, rfl⟩
  rw [← hn] at hc hcell HY HN ⊢
  have hn1 : 1 ≤ n := by omega
  have hn2 : n ≤ 1000 := by omega
  have e0 := hcell 0 (by omega)
  have HC := Lib.hid hcell
  clear hcell hn hI h1 hl
  obtain ⟨Z, hZ⟩ : ∃ Z, Z = dist T 0 := ⟨_, rfl⟩
  rw [← hZ, Nat.add_zero] at e0
  rw [← hZ] at HY HN
  clear hZ
  go_enter Tryz.func80, Tryz.ntmps80
  go_wp2_with fail
  go_loop [4, 7] (fun _ i => ∃ k, k ≤ n ∧ i = .int .i64 (k : Nat) ∧ ∀ j, j < k → dist T j = Z) (fun _ i => n - (intOf i).toNat)
  case atStart => exact ⟨0, Nat.zero_le _, rfl, fun j hj => by omega⟩
  case round =>
    obtain ⟨k, hk, rfl, hall⟩ := hrel
    have HA := Lib.hid hall
    clear hall
    by_cases hkn : k < n
    · have e1 := HC.out k hkn
      obtain ⟨D, hD⟩ : ∃ D, D = dist T k := ⟨_, rfl⟩
      rw [← hD] at e1
      have HD := Lib.hid hD
      clear hD
      by_cases hlt : D = Z
      · have hdec : ((D : Int) == (Z : Int)) = true := by simp; omega
        have HE := Lib.hid hlt
        clear hlt
        go_wp2_with fail
        go_round
        case rel =>
          refine ⟨k + 1, by omega, by go_num, fun j hj => ?_⟩
          by_cases e : j = k
          · subst e; rw [← HD.out]; exact HE.out
          · exact HA.out j (by omega)
        case measure => simp [intOf]; omega
      · have hdec : ((D : Int) == (Z : Int)) = false := by simp; omega
        have HE := Lib.hid hlt
        clear hlt
        go_wp2_with fail
        go_ret
        exact ⟨by rw [HN.out k hkn (by rw [← HD.out]; exact HE.out)]; rfl, rfl⟩
    · obtain rfl : k = n := by omega
      go_wp2_with fail
      go_ret
      exact ⟨by rw [HY.out HA.out]; rfl, rfl⟩

set_option maxRecDepth 100000 in
set_option maxHeartbeats 1000000 in
theorem chgs25 (w : World) (v : Value) (T : List Int) (hI : Iu w v (dists T)) (h1 : 2 ≤ T.length) (hl : T.length ≤ 1000) :
    Calls Tryz.prog 83 #[v] w fun e w' => ∃ r, e = .returned r ∧ w'.ownsRow w.heap.size 33 1 r (chgs T).length (u64s (chgs T)) ∧ Below w.heap.size w w' := by
  obtain ⟨i0, hi, hz0, hz1, hz2⟩ := info_parts info34
  obtain ⟨b, off, c, rfl, hc, hb, hcell⟩ := dists_open hI h1
  have HD : Hid (chgs T = tab (chg T) (T.length - 1)) := Lib.hid rfl
  obtain ⟨n, hn⟩ : ∃ n, n = T.length - 1 := ⟨_, rfl⟩
  rw [← hn] at hc hcell HD ⊢
  have hn2 : n ≤ 1000 := by omega
  have HC := Lib.hid hcell
  clear hcell hn hI h1 hl
  go_enter Tryz.func83, Tryz.ntmps83
  go_wp2_with fail
  go_loopw [6, 3, 4, 9] (fun _ o p i wr => ∃ k, k ≤ n ∧ i = .int .i64 (k : Nat) ∧ p = .int .u64 (prev T k : Nat) ∧ wr.ownsRow w.heap.size 33 1 o k (u64s (tab (chg T) k)) ∧ Below w.heap.size w wr) (fun _ _ _ i _ => n - (intOf i).toNat)
  case atStart => exact ⟨0, Nat.zero_le _, rfl, rfl, World.ownsRow_nil _ _ _ _, Below.refl _ _⟩
  case round =>
    obtain ⟨k, hk, rfl, rfl, ho, hbl⟩ := hrel
    by_cases hkn : k < n
    · have e1 := (hbl.cell hb).trans (HC.out k (by omega))
      have hcg := chg_of T k
      have hd1 := dist_lt T k
      have hd2 : prev T k < 18446744073709551616 := by match k with
        | 0 => show 0 < 18446744073709551616; omega
        | k + 1 => exact dist_lt T k
      obtain ⟨D, hD⟩ : ∃ D, D = dist T k := ⟨_, rfl⟩
      obtain ⟨P, hP⟩ : ∃ P, P = prev T k := ⟨_, rfl⟩
      obtain ⟨C, hC⟩ : ∃ C, C = chg T k := ⟨_, rfl⟩
      have HP : Hid (D = prev T (k + 1)) := Lib.hid (by rw [hD]; rfl)
      rw [← hD] at e1 hd1
      rw [← hD, ← hP, ← hC] at hcg
      rw [← hP] at hd2 ⊢
      have F35 : Hid (∀ x, Calls Tryz.prog 134 #[.int .i64 (wrap64 ((D : Int) - (P : Int)))] x fun e w' => e = .returned (.int .u64 (C : Nat)) ∧ w' = x) := Lib.hid fun x => by
        have := zig22 (wrap64 ((D : Int) - (P : Int))) (wrap_in _).1 (wrap_in _).2 x
        rwa [← hcg] at this
      have hyi : wrap64 (IntKind.u64.wrap ((D : Int) - (P : Int))) = wrap64 ((D : Int) - (P : Int)) := by simp only [IntKind.wrap_u64]; unfold wrap64; omega
      have HTD : Hid (u64s (tab (chg T) (k + 1)) = u64s (tab (chg T) k) ++ [.int .u64 (C : Nat)]) := Lib.hid (by rw [tab_succ, u64s_snoc, hC])
      clear hD hP hC hcg
      have HB := Lib.hid hbl
      have hbs := hbl.size
      have hown := ho
      clear ho hbl
      go_wp2_with (first
        | (go_at_call 134; refine (F35.out _).mono ?_; rintro e w5 ⟨rfl, h5⟩; rw [h5]; clear h5 w5)
        | (at_builtin; refine wpList_append_own _ rfl (.tmp 13) (.tmp 19) 123 rfl w.heap.size 33 i0 (.int .u64 0) 1 8 Tryz.underlying123 hi hz0 hz1 hz2 rfl (by decide) _ _ _ rfl (hown.alloc _) ⟨wr.heap.size, 0, none⟩ 1 1 [.int .u64 (C : Nat)] rfl rfl ?c1 ?c2 ?c3 ?c4 ?c5 ?_))
      case c1 => exact cell_one_new _ _ _
      case c2 => intro u hu; simp at hu; subst hu; rfl
      case c3 => unfold maxLen; omega
      case c4 => omega
      case c5 => simp; omega
      intro v' w2 hown' hgrow _
      have b2 := Lib.hid (Below.grown (HB.out.alloc (Nat.le_trans (Nat.le_refl _) hbs) _) hgrow (by simp; omega) (fun r hr => (hown.lt r hr).1))
      clear hgrow
      have hO2 := Lib.hid hown'
      clear hown'
      go_wp2_with fail
      go_roundw
      case rel => exact ⟨k + 1, by omega, by go_num, by rw [HP.out], by rw [HTD.out]; exact hO2.out, b2.out⟩
      case measure => simp [intOf]; omega
    · obtain rfl : k = n := by omega
      have HB := Lib.hid hbl
      have HO := Lib.hid ho
      clear ho hbl
      go_wp2_with fail
      go_ret
      refine ⟨_, rfl, ?_, HB.out⟩
      rw [HD.out, tab_len]
      exact HO.out
end Ti
end Go.Proofs.YtjmddomkoholoaaGreatDoor

/- The writer by whole bytes; head, laidWhole, laidEven. -/
namespace Go.Proofs.YtjmddomkoholoaaGreatDoor
open Go.RowKit
namespace Th
open Bm Mt Wr Pk Rp Cv Rd Rx Sz Tm Ti

theorem getD_app_left {a b : List Nat} {j : Nat} (h : j < a.length) : (a ++ b).getD j 0 = a.getD j 0 := by
  simp [List.getD_eq_getElem?_getD, List.getElem?_append_left h]
theorem getD_app_right {a b : List Nat} {j : Nat} : (a ++ b).getD (a.length + j) 0 = b.getD j 0 := by
  simp [List.getD_eq_getElem?_getD, List.getElem?_append_right]
theorem getD_past {a : List Nat} {j : Nat} (h : a.length ≤ j) : a.getD j 0 = 0 := by
  simp [List.getD_eq_getElem?_getD, List.getElem?_eq_none h]
theorem bb_past (bs : List Nat) (i : Nat) (h : 8 * bs.length ≤ i) : bb bs i = false := by
  unfold bb
  rw [getD_past (by omega)]
  simp
theorem put_app (bs e : List Nat) (v N : Nat) (hN : N = 8 * e.length) (h : ∀ j k, j < e.length → k < 8 → (e.getD j 0).testBit (7 - k) = v.testBit (N - 1 - (8 * j + k))) :
    put (bb bs) (8 * bs.length) v N 0 = bb (bs ++ e) := by
  funext i
  unfold put
  split
  · unfold bb
    rw [getD_app_left (by omega)]
  · split
    · obtain ⟨q, rfl⟩ : ∃ q, i = 8 * bs.length + q := ⟨i - 8 * bs.length, by omega⟩
      unfold bb
      rw [show (8 * bs.length + q) / 8 = bs.length + q / 8 from by omega, show (8 * bs.length + q) % 8 = q % 8 from by omega, getD_app_right, h (q / 8) (q % 8) (by omega) (by omega),
        show 8 * (q / 8) + q % 8 = q from by omega, show 8 * bs.length + q - 8 * bs.length = q from by omega]
    · exact (bb_past _ _ (by rw [List.length_append]; omega)).symm
theorem one_bits (m : Nat) : ∀ j k, j < [m].length → k < 8 → ([m].getD j 0).testBit (7 - k) = m.testBit (8 - 1 - (8 * j + k)) := by
  intro j k hj hk
  have : j = 0 := by simpa using hj
  subst this
  rw [show 8 - 1 - (8 * 0 + k) = 7 - k from by omega]
  rfl
theorem two_bits (n : Nat) : ∀ j k, j < (two n).length → k < 8 → ((two n).getD j 0).testBit (7 - k) = n.testBit (16 - 1 - (8 * j + k)) := by
  intro j k hj hk
  have h2 : j = 0 ∨ j = 1 := by simp [two] at hj; omega
  rcases h2 with rfl | rfl
  · show (n / 256 % 256).testBit (7 - k) = _
    rw [show (256 : Nat) = 2 ^ 8 from rfl, Nat.testBit_mod_two_pow, decide_eq_true (show 7 - k < 8 by omega), Bool.true_and, ← Nat.shiftRight_eq_div_pow, Nat.testBit_shiftRight]
    congr 1; omega
  · show (n % 256).testBit (7 - k) = _
    rw [show (256 : Nat) = 2 ^ 8 from rfl, Nat.testBit_mod_two_pow, decide_eq_true (show 7 - k < 8 by omega), Bool.true_and]
    congr 1; omega
theorem eight_bits (x : Nat) : ∀ j k, j < (eight x).length → k < 8 → ((eight x).getD j 0).testBit (7 - k) = x.testBit (64 - 1 - (8 * j + k)) := fun j k hj hk => eight_bit x j k hj hk

/-- The writer at block g holds these bytes. -/
def Wb (w : World) (g : Nat) (s : Value) (bs : List Nat) : Prop := (∀ b ∈ bs, b < 256) ∧ Wt w g s (8 * bs.length) (bb bs)
theorem Wb.below {w w' : World} {g : Nat} {s : Value} {bs : List Nat} (h : Wb w g s bs) (b : Below w.heap.size w w') : Wb w' g s bs := ⟨h.1, h.2.below b⟩
theorem new36 (w : World) : Calls Tryz.prog 92 #[] w fun e w' => e = .returned (.pointer (some ⟨w.heap.size, 0, none⟩)) ∧ (∃ s, Wb w' w.heap.size s []) ∧ Below w.heap.size w w' := by
  refine (new_wt w).mono ?_
  rintro e w' ⟨rfl, h, b⟩
  refine ⟨rfl, ⟨.slice none 0 0, fun x hx => by simp at hx, ?_⟩, b⟩
  rw [show bb [] = fun _ => false from by funext i; simp [bb]]
  exact h
theorem put32 (w : World) (g : Nat) (s : Value) (bs e : List Nat) (v N : Nat) (h : Wb w g s bs) (hv : v < 18446744073709551616) (hN : N = 8 * e.length) (hN64 : N ≤ 64) (he : ∀ b ∈ e, b < 256)
    (hbit : ∀ j k, j < e.length → k < 8 → (e.getD j 0).testBit (7 - k) = v.testBit (N - 1 - (8 * j + k))) (hb : bs.length ≤ 140737488353272) :
    Calls Tryz.prog 93 #[.pointer (some ⟨g, 0, none⟩), .int .u64 (v : Nat), .int .i64 (N : Nat)] w fun e' w' => e' = .returned (.tuple #[]) ∧ (∃ s', Wb w' g s' (bs ++ e)) ∧ Below g w w' := by
  refine (put_wt w g s (8 * bs.length) (bb bs) v N N h.2 hv (by omega) (by omega) (by omega) (by omega)).mono ?_
  rintro e' w' ⟨rfl, s', h1, h2, h3⟩
  refine ⟨rfl, ⟨s', ?_, ?_⟩, h2.below (Nat.le_refl _) (fun k hk => by have := (h.2.own k hk).1; omega) h.2.lt⟩
  · intro b hb
    rcases List.mem_append.1 hb with h4 | h4
    · exact h.1 b h4
    · exact he b h4
  · rw [put_app bs e v N hN hbit, show 8 * bs.length + N = 8 * (bs ++ e).length from by rw [List.length_append]; omega] at h1
    exact h1
theorem bytes27 (w : World) (g : Nat) (s : Value) (bs : List Nat) (h : Wb w g s bs) (hb : bs.length ≤ 140737488353272) :
    Calls Tryz.prog 85 #[.pointer (some ⟨g, 0, none⟩)] w fun e w' => ∃ v, e = .returned v ∧ w'.ownsRow w.heap.size 5 1 v bs.length (u8s bs) ∧ Below w.heap.size w w' := by
  refine (bytes_wt w g s (8 * bs.length) (bb bs) h.2 (by omega)).mono ?_
  rintro e w' ⟨v, bs', f, rfl, ho, bl, hh, hl, hf⟩
  obtain rfl : bs' = bs := hh.unique (has_bb h.1) (by omega)
  exact ⟨v, rfl, ho, bl⟩

theorem ii_open {w : World} {v : Value} {T : List Int} (hI : Ii w v T) (h1 : 1 ≤ T.length) :
    ∃ b off c, v = .slice (some ⟨b, off, none⟩) T.length c ∧ T.length ≤ c ∧ b < w.heap.size ∧ ∀ i, i < T.length → w.cell? ⟨b, off + i, none⟩ = some (.int .i64 (T.getD i 0)) := by
  obtain ⟨_, ⟨a, c, rfl, h0⟩ | h⟩ := hI
  · rw [h0] at h1; simp at h1
  · exact h

set_option maxRecDepth 100000 in
theorem head26 (w : World) (v : Value) (T : List Int) (m : Nat) (hm : m < 256) (hI : Ii w v T) (h1 : 1 ≤ T.length) (hl : T.length ≤ 1000) :
    Calls Tryz.prog 84 #[.int .u64 (m : Nat), v] w fun e w' => ∃ g s, e = .returned (.pointer (some ⟨g, 0, none⟩)) ∧ Wb w' g s (head m T) ∧ w.heap.size ≤ g ∧ Below w.heap.size w w' := by
  obtain ⟨b, off, c, rfl, hc, hb, hcell⟩ := ii_open hI h1
  have e0 := hcell 0 (by omega)
  rw [Nat.add_zero] at e0
  have hu := @ut_of (T.getD 0 0)
  have hul := ut_lt (T.getD 0 0)
  have HH : Hid (head m T = [] ++ [m] ++ two T.length ++ eight (ut (T.getD 0 0))) := Lib.hid (by simp [head])
  obtain ⟨A, hA⟩ : ∃ A, A = T.getD 0 0 := ⟨_, rfl⟩
  rw [← hA] at e0 hu hul HH
  obtain ⟨U, hU⟩ : ∃ U, U = ut A := ⟨_, rfl⟩
  rw [← hU] at hu hul HH
  obtain ⟨n, hn⟩ : ∃ n, n = T.length := ⟨_, rfl⟩
  rw [← hn] at h1 hl hc HH ⊢
  have hw1 : IntKind.u64.wrap A = (U : Int) := by rw [IntKind.wrap_u64]; omega
  have HE0 := Lib.hid e0
  have F36 := Lib.hid (new36 w)
  have HP1 : Hid (∀ x g s, Wb x g s [] → Calls Tryz.prog 93 #[.pointer (some ⟨g, 0, none⟩), .int .u64 (m : Nat), .int .i64 8] x fun e w' => e = .returned (.tuple #[]) ∧ (∃ s', Wb w' g s' ([] ++ [m])) ∧ Below g x w') :=
    Lib.hid fun x g s h => put32 x g s [] [m] m 8 h (by omega) rfl (by decide) (by simpa using hm) (one_bits m) (by simp)
  have HP2 : Hid (∀ x g s, Wb x g s ([] ++ [m]) → Calls Tryz.prog 93 #[.pointer (some ⟨g, 0, none⟩), .int .u64 (n : Nat), .int .i64 16] x fun e w' => e = .returned (.tuple #[]) ∧ (∃ s', Wb w' g s' ([] ++ [m] ++ two n)) ∧ Below g x w') :=
    Lib.hid fun x g s h => put32 x g s ([] ++ [m]) (two n) n 16 h (by omega) rfl (by decide) (by intro b hb; simp [two] at hb; omega) (two_bits n) (by simp)
  have HP3 : Hid (∀ x g s, Wb x g s ([] ++ [m] ++ two n) → Calls Tryz.prog 93 #[.pointer (some ⟨g, 0, none⟩), .int .u64 (U : Nat), .int .i64 64] x fun e w' => e = .returned (.tuple #[]) ∧ (∃ s', Wb w' g s' ([] ++ [m] ++ two n ++ eight U)) ∧ Below g x w') :=
    Lib.hid fun x g s h => put32 x g s ([] ++ [m] ++ two n) (eight U) U 64 h hul rfl (by decide) (eight_lt U) (eight_bits U) (by simp [two])
  clear hcell hI hA hU hn hu e0 hm hul
  go_enter Tryz.func84, Tryz.ntmps84
  go_wp2_with fail
  refine F36.out.mono ?_
  rintro e w1 ⟨rfl, ⟨s1, q1⟩, b1⟩
  have Q1 := Lib.hid q1
  have B1 := Lib.hid b1
  clear q1 b1
  go_wp2_with fail
  refine (HP1.out _ _ _ Q1.out).mono ?_
  rintro e w2 ⟨rfl, ⟨s2, q2⟩, b2⟩
  have Q2 := Lib.hid q2
  have B2 := Lib.hid (B1.out.trans b2)
  clear q2 b2
  go_wp2_with fail
  refine (HP2.out _ _ _ Q2.out).mono ?_
  rintro e w3 ⟨rfl, ⟨s3, q3⟩, b3⟩
  have Q3 := Lib.hid q3
  have B3 := Lib.hid (B2.out.trans b3)
  have e3 := (B3.out.cell hb).trans HE0.out
  clear q3 b3
  go_wp2_with fail
  refine (HP3.out _ _ _ Q3.out).mono ?_
  rintro e w4 ⟨rfl, ⟨s4, q4⟩, b4⟩
  have Q4 := Lib.hid q4
  have B4 := Lib.hid (B3.out.trans b4)
  clear q4 b4
  go_wp2_with fail
  go_ret
  exact ⟨_, s4, rfl, by rw [HH.out]; exact Q4.out, Nat.le_refl _, B4.out⟩
end Th
end Go.Proofs.YtjmddomkoholoaaGreatDoor
