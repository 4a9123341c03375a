/- The document's bits: Bytes. -/
import Derived.Test.YtbpkoneenihfcaaRf
namespace Go.Proofs.Ytbpkoneenihfcaa
open Go.RowKit
namespace Rf
open Bm Wr

/-- The first k bits of β, noughts behind them. -/
def cut (β : Nat → Bool) (k : Nat) : Nat → Bool := fun i => if i < k then β i else false
theorem b2n_bit (b : Bool) (i : Nat) : (b2n b).testBit i = (decide (i = 0) && b) := by
  cases b
  · simp [b2n]
  · by_cases h : i = 0
    · subst h; simp [b2n]
    · have : (1 : Nat).testBit i = false := Nat.testBit_lt_two_pow (Nat.one_lt_two_pow h)
      simp [b2n, h, this]
theorem set_bit {bs : List Nat} {β : Nat → Bool} {k : Nat} (h : Has bs (cut β k)) (hk : k / 8 < bs.length) : Has (bs.set (k / 8) (bs.getD (k / 8) 0 ||| b2n (β k) * 2 ^ (7 - k % 8))) (cut β (k + 1)) := by
  have hx : b2n (β k) * 2 ^ (7 - k % 8) < 2 ^ 8 := by
    have h1 := b2n_le (β k)
    have h2 : 2 ^ (7 - k % 8) ≤ 2 ^ 7 := Nat.pow_le_pow_right (by decide) (by omega)
    have h3 := Nat.mul_le_mul h1 h2
    omega
  refine h.set (Nat.or_lt_two_pow (n := 8) (getD_lt h.1 _) hx) hk (fun i hi hij => ?_) (fun q hq => ?_)
  · unfold cut
    by_cases h1 : i < k
    · rw [if_pos h1, if_pos (by omega)]
    · rw [if_neg h1, if_neg (by omega)]
  · rw [Nat.testBit_or, h.2 _ q hk hq, ← Nat.shiftLeft_eq, Nat.testBit_shiftLeft, b2n_bit]
    unfold cut
    by_cases e : q = k % 8
    · rw [if_neg (by omega), if_pos (by omega), decide_eq_true (show 7 - q ≥ 7 - k % 8 by omega), decide_eq_true (show 7 - q - (7 - k % 8) = 0 by omega)]
      simp only [Bool.false_or, Bool.true_and]
      congr 1
      omega
    · by_cases h2 : q < k % 8
      · rw [if_pos (by omega), if_pos (by omega), decide_eq_false (show ¬ 7 - q - (7 - k % 8) = 0 by omega)]
        simp
      · rw [if_neg (by omega), if_neg (by omega), decide_eq_false (show ¬ 7 - q ≥ 7 - k % 8 by omega)]
        simp

theorem made_u8 (n : Nat) : (madeCells #[Value.int .u8 0] n).toList = u8s (List.replicate n 0) := by
  rw [toList_madeCells_one]
  simp [u8s]
theorem has_noughts (n : Nat) (β : Nat → Bool) : Has (List.replicate n 0) (cut β 0) := by
  refine ⟨fun b hb => ?_, fun j k hj hk => ?_⟩
  · rw [List.eq_of_mem_replicate hb]; decide
  · simp at hj
    simp [List.getD_eq_getElem?_getD, hj, cut]

set_option maxRecDepth 100000 in
set_option maxHeartbeats 2000000 in
theorem rbytes15 (w : World) (B : Nat) (s : Value) (m : Nat) (β : Nat → Bool) (h : w.ownsRow B 5 1 s m (u8s (bl β m))) (hm : m ≤ 1048576 * 65) :
    Calls Try.prog 15 #[s] w fun e w' => ∃ v bs, e = .returned v ∧ w'.ownsRow w.heap.size 5 1 v bs.length (u8s bs) ∧ bs.length = (m + 7) / 8 ∧ Has bs (cut β m) ∧ Below w.heap.size w w' := by
  obtain ⟨i0, hi, hz0, hz1, hz2⟩ := info_parts info5
  have hs : ∃ a c, s = .slice a m c := by
    rcases Go.Joins.ownsRow_forms h with ⟨rfl, rfl⟩ | ⟨g, c, rfl⟩
    · exact ⟨_, _, rfl⟩
    · exact ⟨_, _, rfl⟩
  obtain ⟨a, c, rfl⟩ := hs
  obtain ⟨L, hL⟩ : ∃ L, L = (m + 7) / 8 := ⟨_, rfl⟩
  have hLi : ((m : Int) + 7) / 8 = (L : Int) := by omega
  have HO := Lib.hid h
  clear h
  rw [← hL]
  have HL := Lib.hid hL
  clear hL
  go_enter Try.func15, Try.ntmps15
  go_wp2_with (refine wpList_make_full w rfl (.tmp 8) (.tmp 8) 26 rfl w.heap.size 5 i0 (.int .u8 0) 1 Try.underlying26 hi hz0 hz1 .i64 .i64 (((m : Int) + 7) / 8) (((m : Int) + 7) / 8) L rfl rfl hLi hLi (by rw [hz2]; omega) (by unfold maxLen; omega) (Nat.le_refl _) ?_)
  intro w1 hown1 hg1
  have b1 : Below w.heap.size w w1 := (Below.refl _ _).grown hg1 (Nat.le_refl _) (fun r hr => by cases hr)
  rw [made_u8] at hown1
  clear hg1
  go_wp2_with fail
  go_loopw [12] (fun i wr => ∃ k bs, k ≤ m ∧ i = .int .i64 (k : Nat) ∧ wr.ownsRow w.heap.size 5 1 (.slice (some ⟨w.heap.size, 0, none⟩) L L) L (u8s bs) ∧ bs.length = L ∧ Has bs (cut β k) ∧ Below w.heap.size w wr) (fun i _ => m - (intOf i).toNat)
  case atStart => exact ⟨0, _, Nat.zero_le _, rfl, hown1, by simp, has_noughts _ _, b1⟩
  case round =>
    obtain ⟨k, bs, hk, rfl, hown, hbl, hhas, hb⟩ := hrel
    by_cases hkm : k < m
    · have HO' : wr.ownsRow B 5 1 (.slice a m c) m (u8s (bl β m)) := HO.out.kept (row := none) ⟨hb.os, hb.tape, hb.output, hb.size, fun k hk _ => hb.block k hk⟩ (by
        by_cases e : (Value.slice a m c).ownBlock = none
        · exact .inl e
        · exact .inr e)
      obtain ⟨g, c', e'⟩ := Go.Joins.ownsRow_form HO' (by omega)
      simp only [Value.slice.injEq, true_and] at e'
      obtain ⟨rfl, rfl⟩ := e'
      have hgw := (HO.out.lt g rfl).2
      have e2 : wr.cell? ⟨g, k, none⟩ = some (.int .u8 ((bl β m).getD k 0 : Nat)) := by
        rw [HO'.cellAt k (by omega)]
        exact u8s_get _ _ (by rw [bl_len]; exact hkm)
      rw [bl_get β hkm] at e2
      have hk8 : k / 8 < L := by have := HL.out; omega
      have e1 : wr.cell? ⟨w.heap.size, k / 8, none⟩ = some (.int .u8 (bs.getD (k / 8) 0 : Nat)) := by
        rw [hown.cellAt (k / 8) (by omega)]
        exact u8s_get _ _ (by omega)
      have e0 : wr.frozen? ⟨w.heap.size, k / 8, none⟩ = false := hown.frozenAt (k / 8)
      have hset := set_bit hhas (by omega)
      have hX := getD_lt hhas.1 (k / 8)
      obtain ⟨X, hXe⟩ : ∃ X, X = bs.getD (k / 8) 0 := ⟨_, rfl⟩
      obtain ⟨Q, hQe⟩ : ∃ Q, Q = b2n (β k) := ⟨_, rfl⟩
      have hQ1 : Q ≤ 1 := by rw [hQe]; exact b2n_le _
      rw [← hXe] at e1 hX hset
      rw [← hQe] at e2 hset
      obtain ⟨G, hG⟩ : ∃ G, G = w.heap.size := ⟨_, rfl⟩
      rw [← hG] at e1 e0
      have hne : G ≠ g := by omega
      have hY : Q * 2 ^ (7 - k % 8) < 256 := by
        have h2 : 2 ^ (7 - k % 8) ≤ 2 ^ 7 := Nat.pow_le_pow_right (by decide) (by omega)
        have h3 := Nat.mul_le_mul hQ1 h2
        omega
      have hk1 : (k : Int) / 8 < (L : Int) := by omega
      have hk0 : (0 : Int) ≤ (k : Int) / 8 := by omega
      have hk2 : ((k : Int) / 8).toNat = k / 8 := by omega
      have hk3 : (7 - (k : Int) % 8).toNat = 7 - k % 8 := by omega
      have hk4 : (0 : Int) ≤ 7 - (k : Int) % 8 := by omega
      have HS := Lib.hid hset
      have HOWN := Lib.hid hown
      have HB := Lib.hid hb
      have HH := Lib.hid hhas
      have HO2 := Lib.hid HO'
      clear hset hown hb hhas HO' hown1 b1 hXe hQe
      rw [← hG]
      have HG := Lib.hid hG
      clear hG
      go_wp2_with fail
      go_region
      go_wp2
      have hor : bits .or .u8 (X : Int) ((Q : Int) * 2 ^ (7 - k % 8) % 256) = ((X ||| Q * 2 ^ (7 - k % 8) : Nat) : Int) := by
        rw [show ((Q : Int) * 2 ^ (7 - k % 8) % 256) = ((Q * 2 ^ (7 - k % 8) : Nat) : Int) from by
          rw [show (Q : Int) * 2 ^ (7 - k % 8) = ((Q * 2 ^ (7 - k % 8) : Nat) : Int) from by push_cast; rfl]; omega]
        exact u8_or_nat _ _ hX hY
      rw [hor]
      go_roundw
      case rel =>
        refine ⟨k + 1, bs.set (k / 8) (X ||| Q * 2 ^ (7 - k % 8)), by omega, by go_num, ?_, by rw [List.length_set]; exact hbl, HS.out, ?_⟩
        · rw [u8s_set, HG.out]
          exact (HOWN.out.stored (k / 8) _).1.drew
        · rw [HG.out]
          exact (HB.out.setCell (p := ⟨w.heap.size, k / 8, none⟩) (Nat.le_refl _) _).drew
      case measure => simp [intOf]; omega
    · obtain rfl : k = m := by omega
      clear hown1
      go_wp2_with fail
      go_ret
      exact ⟨_, bs, rfl, by rw [hbl]; exact hown, hbl, hhas, hb⟩
end Rf
end Go.Proofs.Ytbpkoneenihfcaa
