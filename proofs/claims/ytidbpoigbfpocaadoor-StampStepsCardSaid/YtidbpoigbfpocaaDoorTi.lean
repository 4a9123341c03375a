/- Times in memory; rise, distancesOf, alike, changesOf. -/
import Derived.Test.YtidbpoigbfpocaaDoorTm
import Derived.Test.YtidbpoigbfpocaaDoorCv
import Derived.Test.YtidbpoigbfpocaaDoorRx
namespace Go.Proofs.YtidbpoigbfpocaaDoor
open Go.RowKit
namespace Ti
open Mt Wr Bm Pk Rp Cv Rd Rx Sz Tm

/-- A slice whose cells are these times. -/
def Ii (w : World) (v : Value) (T : List Int) : Prop :=
  In T ∧ ((∃ a c, v = .slice a 0 c ∧ T = []) ∨
    ∃ b off c, v = .slice (some ⟨b, off, none⟩) T.length c ∧ T.length ≤ c ∧ b < w.heap.size ∧ ∀ i, i < T.length → w.cell? ⟨b, off + i, none⟩ = some (.int .i64 (T.getD i 0)))
theorem Ii.below {w w' : World} {v : Value} {T : List Int} (h : Ii w v T) (b : Below w.heap.size w w') : Ii w' v T := by
  obtain ⟨h1, h2 | ⟨b0, off, c, h2, h3, h4, h5⟩⟩ := h
  · exact ⟨h1, .inl h2⟩
  · exact ⟨h1, .inr ⟨b0, off, c, h2, h3, Nat.lt_of_lt_of_le h4 b.size, fun i hi => (b.cell h4).trans (h5 i hi)⟩⟩
theorem Ii.drewN {w : World} {v : Value} {T : List Int} (h : Ii w v T) (n : Nat) : Ii (w.drewN n) v T := h
def i64s (T : List Int) : List Value := T.map fun b => .int .i64 b
theorem i64s_len (T : List Int) : (i64s T).length = T.length := by simp [i64s]
theorem i64s_snoc (T : List Int) (b : Int) : i64s (T ++ [b]) = i64s T ++ [.int .i64 b] := by simp [i64s]
theorem i64s_get (T : List Int) (j : Nat) (hj : j < T.length) : (i64s T)[j]? = some (.int .i64 (T.getD j 0)) := by
  simp [i64s, List.getD_eq_getElem?_getD, hj]
theorem info2 : (Tryd.prog.info? 2).map (fun i => (i.zero, i.size, i.bytes)) = some (some (.int .i64 0), 1, 8) := by kernel_rfl
theorem ii_own {w : World} {B : Nat} {v : Value} {T : List Int} (h : w.ownsRow B 2 1 v T.length (i64s T)) (hT : In T) : Ii w v T := by
  refine ⟨hT, ?_⟩
  obtain ⟨_, ⟨h0, e⟩ | ⟨g, c, cur, rfl, hg, hh, hnc, hcm, hsz, htk⟩⟩ := h
  · exact .inl ⟨none, 0, h0, List.length_eq_zero_iff.1 e⟩
  · have h' : w.ownsRow B 2 1 (.slice (some ⟨g, 0, none⟩) T.length c) T.length (i64s T) := ⟨by rw [i64s_len]; omega, .inr ⟨g, c, cur, rfl, hg, hh, hnc, hcm, hsz, htk⟩⟩
    refine .inr ⟨g, 0, c, rfl, hnc, (h'.lt g rfl).2, fun i hi => ?_⟩
    rw [Nat.zero_add, h'.cellAt i (by omega)]
    exact i64s_get T i hi

theorem up_yes (T : List Int) (h : ∀ j, j < T.length - 1 → T.getD j 0 < T.getD (j + 1) 0) : decide (Up T) = true := decide_eq_true h
theorem up_no (T : List Int) (j : Nat) (hj : j < T.length - 1) (h : ¬ T.getD j 0 < T.getD (j + 1) 0) : decide (Up T) = false := decide_eq_false fun h' => h (h' j hj)

set_option maxRecDepth 100000 in
theorem rise19 (w : World) (v : Value) (T : List Int) (hI : Ii w v T) (h1 : 1 ≤ T.length) (hl : T.length ≤ 1000) :
    Calls Tryd.prog 19 #[v] w fun e w' => e = .returned (.bool (decide (Up T))) ∧ w' = w := by
  obtain ⟨hT, ⟨a, c, rfl, h0⟩ | ⟨b, off, c, rfl, hc, hb, hcell⟩⟩ := hI
  · rw [h0] at h1; simp at h1
  · have HY := Lib.hid (up_yes T)
    have HN := Lib.hid (up_no T)
    obtain ⟨n, hn⟩ : ∃ n, n = T.length := ⟨_, rfl⟩
    rw [← hn] at h1 hl hc hcell HY HN ⊢
    have HC := Lib.hid hcell
    clear hcell hn hT
    by_cases h2 : n = 1
    · subst h2
      by_cases hc1 : c = 1
      · go_enter Tryd.func19, Tryd.ntmps19
        go_wp2_with fail
        refine wp_loop_rounds 1 ?_
        rw [rounds_succ]
        go_wp2_with fail
        go_ret
        exact ⟨by rw [HY.out fun j hj => by omega]; rfl, rfl⟩
      · go_enter Tryd.func19, Tryd.ntmps19
        go_wp2_with fail
        refine wp_loop_rounds 1 ?_
        rw [rounds_succ]
        go_wp2_with fail
        go_ret
        exact ⟨by rw [HY.out fun j hj => by omega]; rfl, rfl⟩
    · have hc1 : ¬ c = 1 := by omega
      go_enter Tryd.func19, Tryd.ntmps19
      go_wp2_with fail
      go_loop [3, 4, 8] (fun _ _ i => ∃ k, k ≤ n - 1 ∧ i = .int .i64 (k : Nat) ∧ ∀ j, j < k → T.getD j 0 < T.getD (j + 1) 0) (fun _ _ i => n - (intOf i).toNat)
      case atStart => exact ⟨0, Nat.zero_le _, rfl, fun j hj => by omega⟩
      case round =>
        obtain ⟨k, hk, rfl, hall⟩ := hrel
        have HA := Lib.hid hall
        clear hall
        by_cases hkn : k < n - 1
        · have e1 := HC.out k (by omega)
          have e2 := HC.out (k + 1) (by omega)
          obtain ⟨A, hA⟩ : ∃ A, A = T.getD k 0 := ⟨_, rfl⟩
          obtain ⟨B, hB⟩ : ∃ B, B = T.getD (k + 1) 0 := ⟨_, rfl⟩
          rw [← hA] at e1
          rw [← hB, show off + (k + 1) = off + 1 + k from by omega] at e2
          have HAB : Hid (A < B → T.getD k 0 < T.getD (k + 1) 0) := Lib.hid (by rw [hA, hB]; exact id)
          have HNB : Hid (¬ A < B → ¬ T.getD k 0 < T.getD (k + 1) 0) := Lib.hid (by rw [hA, hB]; exact id)
          clear hA hB
          by_cases hlt : A < B
          · go_wp2_with fail
            go_round
            case rel =>
              refine ⟨k + 1, by omega, by go_num, fun j hj => ?_⟩
              by_cases e : j = k
              · subst e; exact HAB.out hlt
              · exact HA.out j (by omega)
            case measure => simp [intOf]; omega
          · go_wp2_with fail
            go_ret
            exact ⟨by rw [HN.out k hkn (HNB.out hlt)]; rfl, rfl⟩
        · obtain rfl : k = n - 1 := by omega
          go_wp2_with fail
          go_ret
          exact ⟨by rw [HY.out HA.out]; rfl, rfl⟩
end Ti
end Go.Proofs.YtidbpoigbfpocaaDoor
