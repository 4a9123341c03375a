/- Short bytes: the walk of the document's ReadShort. -/
import Derived.Test.YtbpkoneenihfcaaSr
import Derived.Deep.RegionWith
namespace Go.Proofs.Ytbpkoneenihfcaa
open Go.RowKit
namespace Sr
open Sm Wr

/-- The string of bytes. -/
def str (bs : List Nat) : ByteArray := strOfNums (bs.map fun b : Nat => (b : Int))
theorem str_inj {cs bs : List Nat} (ha : ∀ x ∈ cs, x < 256) (hb : ∀ x ∈ bs, x < 256) (h : str cs = str bs) : cs = bs := by
  have e : (str cs).data.toList = (str bs).data.toList := by rw [h]
  unfold str at e
  rw [strOfNums_data, strOfNums_data] at e
  simp only [List.map_map] at e
  have hl : cs.length = bs.length := by simpa using congrArg List.length e
  apply List.ext_getElem hl
  intro j h1 h2
  have ej : (UInt8.ofNat cs[j]) = UInt8.ofNat bs[j] := by
    have := congrArg (fun l => l[j]?) e
    simpa [h1, h2] using this
  have l1 := ha _ (List.getElem_mem h1)
  have l2 := hb _ (List.getElem_mem h2)
  have := congrArg UInt8.toNat ej
  simp only [UInt8.toNat_ofNat'] at this
  omega
theorem toList_ne {S T : ByteArray} (h : S ≠ T) : (S.toList == T.toList) = false := by
  rw [ByteArray.toList_eq, ByteArray.toList_eq, beq_eq_false_iff_ne]
  intro e
  apply h
  cases S; cases T
  congr 1
  exact Array.toList_inj.1 e
theorem conv_cells (w : World) (src : TypeId) (hs : Try.prog.underlying src = some (.slice 5)) (b off c : Nat) (bs : List Nat) (h : ∀ i, i < bs.length → w.cell? ⟨b, off + i, none⟩ = some (.int .u8 (bs.getD i 0 : Nat))) :
    (convert src 9 (.slice (some ⟨b, off, none⟩) bs.length c)).run Try.prog w = .ok (.string (str bs)) w := by
  refine run_convert_bytes_arg w src 5 hs Try.underlying5 b off bs.length c _ (by simp) (fun i hi => ?_) 9 Try.underlying9
  rw [h i hi]
  simp [List.getD_eq_getElem?_getD, hi]
theorem conv_own {w : World} {B : Nat} {v : Value} {bs : List Nat} (h : w.ownsRow B 5 1 v bs.length (u8s bs)) : (convert 26 9 v).run Try.prog w = .ok (.string (str bs)) w := by
  rcases Go.Joins.ownsRow_forms h with ⟨rfl, h0⟩ | ⟨g, c, rfl⟩
  · obtain rfl := List.length_eq_zero_iff.1 h0
    exact run_convert_bytes_nil w 26 5 Try.underlying26 Try.underlying5 0 0 9 Try.underlying9
  · refine conv_cells w 26 Try.underlying26 g 0 c bs fun i hi => ?_
    rw [Nat.zero_add, h.cellAt i (by omega)]
    exact u8s_get bs i hi
theorem exists_short {n : Nat} (hn : n < 18446744073709551616) : ∃ l, IsShort n l := by
  have h : ∀ m, (∀ j, j < m → 128 ≤ n / 128 ^ j) ∨ ∃ l, IsShort n l := by
    intro m
    induction m with
    | zero => exact .inl fun j hj => absurd hj (by omega)
    | succ m ih =>
      rcases ih with ih | ih
      · by_cases hm : 128 ≤ n / 128 ^ m
        · exact .inl fun j hj => by
            by_cases e : j = m
            · subst e; exact hm
            · exact ih j (by omega)
        · exact .inr ⟨_, m, ih, by omega, rfl⟩
      · exact .inr ih
  rcases h 10 with h | h
  · have := k_le hn h; omega
  · exact h
theorem short_of (n : Nat) (hn : n < 18446744073709551616) (l : List Nat) (hl : IsShort n l) (w : World) :
    Calls Try.prog 29 #[.int .u64 (n : Nat)] w fun e w' => ∃ v, e = .returned v ∧ (convert 26 9 v).run Try.prog w' = .ok (.string (str l)) w' ∧ Below w.heap.size w w' := by
  refine (Sw.short29 n hn w).mono ?_
  rintro e w' ⟨v, l', rfl, h, ho, bl⟩
  obtain rfl := h.unique hl
  exact ⟨v, rfl, conv_own ho, bl⟩
theorem take_lt {bs : List Nat} (hb : ∀ x ∈ bs, x < 256) (k : Nat) : ∀ x ∈ bs.take k, x < 256 := fun x hx => hb x (List.mem_of_mem_take hx)
theorem short_lt {n : Nat} {l : List Nat} (h : IsShort n l) : ∀ x ∈ l, x < 256 := by
  obtain ⟨k, h1, h2, rfl⟩ := h
  intro x hx
  rcases List.mem_append.1 hx with hx | hx
  · simp only [sh, List.mem_map] at hx
    obtain ⟨j, _, rfl⟩ := hx
    omega
  · simp at hx; omega
theorem conv_take {w : World} {b off c k : Nat} {bs : List Nat} (hk : k < bs.length) (h : ∀ i, i < bs.length → w.cell? ⟨b, off + i, none⟩ = some (.int .u8 (bs.getD i 0 : Nat))) (W : World) (hW : ∀ i, i < bs.length → W.cell? ⟨b, off + i, none⟩ = w.cell? ⟨b, off + i, none⟩) :
    (convert 26 9 (.slice (some ⟨b, off, none⟩) (k + 1) c)).run Try.prog W = .ok (.string (str (bs.take (k + 1)))) W := by
  have hl : (bs.take (k + 1)).length = k + 1 := by rw [List.length_take]; omega
  have := conv_cells W 26 Try.underlying26 b off c (bs.take (k + 1)) (fun i hi => by
    rw [hl] at hi
    rw [hW i (by omega), h i (by omega)]
    simp [List.getD_eq_getElem?_getD, hi])
  rwa [hl] at this

set_option maxRecDepth 100000 in
set_option maxHeartbeats 2000000 in
theorem read28 (w : World) (s : Value) (bs : List Nat) (h : Pl w s bs) (hb : ∀ x ∈ bs, x < 256) (hl : bs.length ≤ 9223372036854775807) :
    Calls Try.prog 28 #[s] w fun e w' => ∃ x k : Nat, e = .returned (.tuple #[.int .u64 (x : Nat), .int .i64 (k : Nat)]) ∧ Res bs x k ∧ Below w.heap.size w w' := by
  rcases h with ⟨rfl, a, c, rfl⟩ | ⟨h0, b, off, c, rfl, hlc, hcell⟩
  · go_enter Try.func28, Try.ntmps28
    go_wp2_with fail
    refine wp_loop_rounds 1 ?_
    rw [rounds_succ]
    go_wp2_with fail
    go_ret2
    exact ⟨0, 0, rfl, .inr ⟨fun i g => by have := g.1; simp at this, rfl, rfl⟩, Below.refl _ _⟩
  · obtain ⟨len, hlen⟩ : ∃ len, len = bs.length := ⟨_, rfl⟩
    rw [← hlen] at h0 hlc hl hcell ⊢
    have HL := Lib.hid hlen
    clear hlen
    have hbw : b < w.heap.size := cell_lt (hcell 0 h0)
    go_enter Try.func28, Try.ntmps28
    go_wp2_with fail
    go_loopw [4, 5] (fun n i wr => ∃ k, k ≤ len ∧ k ≤ 10 ∧ i = .int .i64 (k : Nat) ∧ (k ≤ 9 → n = .int .u64 (vs bs k : Nat)) ∧ (∀ j, j < k → 128 ≤ bs.getD j 0) ∧ wr = w) (fun _ i _ => len - (intOf i).toNat)
    case atStart => exact ⟨0, Nat.zero_le _, by omega, rfl, fun _ => rfl, fun j hj => absurd hj (by omega), rfl⟩
    case round =>
      obtain ⟨k, hk, hk10, rfl, hn, hall, rfl⟩ := hrel
      by_cases hkl : k < len
      · by_cases hk9 : k ≤ 9
        · have hn' := hn hk9
          subst hn'
          clear hn
          have e := hcell k hkl
          have hC := Bm.getD_lt hb k
          have hN := vs_fit (b := bs) hk9
          obtain ⟨C, hCe⟩ : ∃ C, C = bs.getD k 0 := ⟨_, rfl⟩
          obtain ⟨N, hNe⟩ : ∃ N, N = vs bs k := ⟨_, rfl⟩
          rw [← hCe] at e hC
          rw [← hNe] at hN ⊢
          have h7 : bits .and .u8 (C : Int) 127 = ((C % 128 : Nat) : Int) := by
            have := u8_and_nat C 127 hC (by decide)
            rw [nat_mask7] at this
            exact this
          have hst : ∃ M : Nat, M < 18446744073709551616 ∧ ((k = 9 → C ≤ 1) → M = vs bs (k + 1)) ∧ bits .or .u64 (N : Int) (IntKind.u64.wrap ((C : Int) % 128 * 2 ^ (7 * k))) = ((M : Nat) : Int) := by
            have hk128 : 128 ^ k ≤ 128 ^ 9 := Nat.pow_le_pow_right (by decide) hk9
            have hNk : N < 128 ^ k := by rw [hNe]; exact vs_lt _ _
            have e0 : (C : Int) % 128 * 2 ^ (7 * k) = ((C % 128 * 128 ^ k : Nat) : Int) := by rw [← pow7]; push_cast; rfl
            have e1 : IntKind.u64.wrap ((C : Int) % 128 * 2 ^ (7 * k)) = ((C % 128 * 128 ^ k % 18446744073709551616 : Nat) : Int) := by rw [e0, IntKind.wrap_u64]; omega
            refine ⟨N ||| (C % 128 * 128 ^ k % 18446744073709551616), Nat.or_lt_two_pow (n := 64) (by omega) (Nat.mod_lt _ (by decide)), fun h9 => ?_, ?_⟩
            · have hs := step hk9 h9 hNk
              rw [e1, u64_or_nat _ _ (by omega) (Nat.mod_lt _ (by decide))] at hs
              have hs' := Int.ofNat.inj hs
              rw [hs', hCe, hNe]
              rfl
            · rw [e1, u64_or_nat _ _ (by omega) (Nat.mod_lt _ (by decide))]
          obtain ⟨M, hM1, hM2, hM3⟩ := hst
          have HC := Lib.hid hCe
          have HN := Lib.hid hNe
          have HA := Lib.hid hall
          have HB := Lib.hid hb
          have HCELL := Lib.hid hcell
          have HM := Lib.hid hM2
          clear hCe hNe hall hb hcell hM2
          by_cases hC1 : C < 128
          · obtain ⟨l, hl0⟩ := exists_short hM1
            have hti := test_iff (b := bs) (i := k) HB.out (by rw [← HL.out]; exact hkl) hM1 (fun h9 => HM.out (by rw [HC.out]; exact h9)) hl0
            have hcv := conv_take (w := wr) (c := c) (by rw [← HL.out]; exact hkl) (by rw [← HL.out]; exact HCELL.out)
            obtain ⟨T, hT⟩ : ∃ T, T = str (bs.take (k + 1)) := ⟨_, rfl⟩
            rw [← hT] at hcv
            have hq0 : (convert 26 9 (.slice (some ⟨b, off, none⟩) (k + 1) c)).run Try.prog wr.drew = .ok (.string T) wr.drew := hcv wr.drew fun _ _ => rfl
            have HQ : Hid (∀ W, Below wr.heap.size wr.drew W → (convert 26 9 (.slice (some ⟨b, off, none⟩) (k + 1) c)).run Try.prog W = .ok (.string T) W) := Lib.hid fun W hW => hcv W fun i hi => by
              rw [hW.cell (by exact hbw)]; rfl
            have HSH := Lib.hid (short_of M hM1 l hl0)
            obtain ⟨S, hS⟩ : ∃ S, S = str l := ⟨_, rfl⟩
            rw [← hS] at HSH
            clear hcv
            by_cases hg : Sm.Good bs k
            · have hST : T = S := by rw [hT, hS, hti.2 hg]
              subst hST
              have HS := Lib.hid hS
              have HTT := Lib.hid hT
              have HTI := Lib.hid hti
              have HGG := Lib.hid hg
              clear hS hT hti hg
              have hwr : IntKind.i64.wrap ((k : Int) + 1) = (k : Int) + 1 := IntWalk.i64_in _ (by omega)
              have hi1 : (k : Int) + 1 ≤ (c : Int) := by omega
              have hi2 : (0 : Int) ≤ (k : Int) + 1 := by omega
              have hi3 : ¬ c = 0 := by omega
              go_wp2_with fail
              go_region_with (go_at_call 29; refine (HSH.out _).mono ?_; rintro e W2 ⟨v, rfl, q1, b1⟩; have q2 := HQ.out W2 b1)
              all_goals
                go_wp2_with fail
                go_ret2
                exact ⟨M, k + 1, rfl, .inl ⟨k, HGG.out, HM.out (by rw [HC.out]; exact HGG.out.2.2.2.2.2), rfl⟩, (Below.refl _ _).drew.trans b1⟩
            · have hST : S ≠ T := fun h => hg (hti.1 (str_inj (short_lt hl0) (take_lt HB.out _) (by rw [← hS, ← hT]; exact h)))
              have hST2 := toList_ne hST
              have HTI := Lib.hid hti
              have HGG := Lib.hid hg
              clear hS hT hti hg
              have hwr : IntKind.i64.wrap ((k : Int) + 1) = (k : Int) + 1 := IntWalk.i64_in _ (by omega)
              have hi1 : (k : Int) + 1 ≤ (c : Int) := by omega
              have hi2 : (0 : Int) ≤ (k : Int) + 1 := by omega
              have hi3 : ¬ c = 0 := by omega
              go_wp2_with fail
              go_region_with (go_at_call 29; refine (HSH.out _).mono ?_; rintro e W2 ⟨v, rfl, q1, b1⟩; have q2 := HQ.out W2 b1)
              all_goals
                go_wp2_with fail
                go_ret2
                exact ⟨0, 0, rfl, .inr ⟨no_good HA.out (.inr (.inl ⟨by rw [← HL.out]; exact hkl, by rw [← HC.out]; exact hC1, HGG.out⟩)), rfl, rfl⟩, (Below.refl _ _).drew.trans b1⟩
          · have hC2 : ¬ (C : Int) < 128 := by omega
            go_wp2_with fail
            go_roundw
            case rel =>
              exact ⟨k + 1, by omega, by omega, by go_num, fun h9 => by rw [HM.out (fun h => by omega)], fun j hj => by
                by_cases ej : j = k
                · rw [ej, ← HC.out]; omega
                · exact HA.out j (by omega), trivial⟩
            case measure => simp [intOf]; omega
        · obtain rfl : k = 10 := by omega
          go_wp2_with fail
          go_ret2
          exact ⟨0, 0, rfl, .inr ⟨fun i g => by have := g.2.2.1; have h9 := g.2.2.2.1; have := hall i (by omega); omega, rfl, rfl⟩, Below.refl _ _⟩
      · obtain rfl : k = len := by omega
        go_wp2_with fail
        go_ret2
        exact ⟨0, 0, rfl, .inr ⟨no_good hall (.inl (by rw [HL.out]; exact Nat.le_refl _)), rfl, rfl⟩, Below.refl _ _⟩
end Sr
end Go.Proofs.Ytbpkoneenihfcaa
