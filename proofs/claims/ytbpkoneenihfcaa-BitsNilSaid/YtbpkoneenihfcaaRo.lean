/- The document's bits: Of and Get. -/
import Derived.Test.YtbpkoneenihfcaaLw
namespace Go.Proofs.Ytbpkoneenihfcaa
open Go.RowKit
namespace Ro
open Bm Wr Rf Sr Lw

/-- The bits of bytes. -/
def bb (bs : List Nat) (i : Nat) : Bool := (bs.getD (i / 8) 0).testBit (7 - i % 8)
theorem has_bb {bs : List Nat} (h : ∀ b ∈ bs, b < 256) : Has bs (bb bs) :=
  ⟨h, fun j k _ hk => by unfold bb; rw [show (8 * j + k) / 8 = j from by omega, show (8 * j + k) % 8 = k from by omega]⟩
theorem bb_put (bs : List Nat) (k : Nat) : bl (put (bb bs) (8 * k) (bs.getD k 0) 8 0) (8 * k + 8) = bl (bb bs) (8 * (k + 1)) := by
  rw [show 8 * (k + 1) = 8 * k + 8 from by omega]
  apply bl_congr
  intro i hi
  unfold put
  by_cases h : i < 8 * k
  · rw [if_pos h]
  · rw [if_neg h, if_pos (by omega)]
    unfold bb
    rw [show i / 8 = k from by omega, show 8 - 1 - (i - 8 * k) = 7 - i % 8 from by omega]

set_option maxRecDepth 100000 in
set_option maxHeartbeats 1000000 in
theorem of17 (w : World) (s : Value) (bs : List Nat) (h : Pl w s bs) (hb : ∀ x ∈ bs, x < 256) (hl : bs.length ≤ 1048576) :
    Calls Try.prog 17 #[s] w fun e w' => ∃ v, e = .returned v ∧ w'.ownsRow w.heap.size 5 1 v (8 * bs.length) (u8s (bl (bb bs) (8 * bs.length))) ∧ Below w.heap.size w w' := by
  rcases h with ⟨rfl, a, c, rfl⟩ | ⟨h0, b, off, c, rfl, hlc, hcell⟩
  · go_enter Try.func17, Try.ntmps17
    go_wp2_with fail
    refine wp_loop_rounds 1 ?_
    rw [rounds_succ]
    go_wp2_with fail
    go_ret
    exact ⟨_, rfl, World.ownsRow_nil _ _ _ _, Below.refl _ _⟩
  · obtain ⟨len, hlen⟩ : ∃ len, len = bs.length := ⟨_, rfl⟩
    rw [← hlen] at h0 hlc hl hcell ⊢
    have hbw : b < w.heap.size := cell_lt (hcell 0 h0)
    have HL := Lib.hid hlen
    have HC := Lib.hid hcell
    have HB := Lib.hid hb
    clear hlen hcell hb
    go_enter Try.func17, Try.ntmps17
    go_wp2_with fail
    go_loopw [3, 7] (fun x i wr => ∃ k, k ≤ len ∧ i = .int .i64 (k : Nat) ∧ wr.ownsRow w.heap.size 5 1 x (8 * k) (u8s (bl (bb bs) (8 * k))) ∧ Below w.heap.size w wr) (fun _ i _ => len - (intOf i).toNat)
    case atStart => exact ⟨0, Nat.zero_le _, rfl, World.ownsRow_nil _ _ _ _, Below.refl _ _⟩
    case round =>
      obtain ⟨k, hk, rfl, hown, hbl⟩ := hrel
      by_cases hkl : k < len
      · have e := HC.out k hkl
        rw [← hbl.cell (by exact hbw)] at e
        have hX := getD_lt HB.out k
        have hsz := hbl.size
        have HP := Lib.hid (rput12 wr w.heap.size u3 (8 * k) (bs.getD k 0) 8 (bb bs) hown hsz (by omega) 8 (by omega) (by omega) (by omega) (by omega))
        rw [bb_put] at HP
        obtain ⟨X, hXe⟩ : ∃ X, X = bs.getD k 0 := ⟨_, rfl⟩
        rw [← hXe] at e hX HP
        have HOW := Lib.hid hown
        clear hXe hown
        go_wp2_with (go_at_call 12; refine HP.out.mono ?_; rintro e w2 ⟨v, rfl, ho, mv, ow⟩)
        have b2 : Below w.heap.size w w2 := hbl.trans (mv_below mv hsz (fun q e => (HOW.out.lt q e).1) hsz)
        clear mv ow HP HOW
        go_roundw
        case rel => exact ⟨k + 1, by omega, by go_num, ho, b2⟩
        case measure => simp [intOf]; omega
      · obtain rfl : k = len := by omega
        go_wp2_with fail
        go_ret
        exact ⟨_, rfl, hown, hbl⟩

set_option maxRecDepth 100000 in
set_option maxHeartbeats 1000000 in
theorem rget18 (w : World) (q p l c n : Nat) (β : Nat → Bool) (hc : ∀ i, i < l → w.cell? ⟨q, p + i, none⟩ = some (.int .u8 (b2n (β (p + i)) : Nat))) (hn : n ≤ l) (h64 : n ≤ 64) :
    Calls Try.prog 18 #[.slice (some ⟨q, p, none⟩) l c, .int .i64 (n : Nat)] w fun e w' => e = .returned (.int .u64 (num β p n : Nat)) ∧ w' = w := by
  have HC := Lib.hid hc
  clear hc
  go_enter Try.func18, Try.ntmps18
  go_wp2_with fail
  go_loop [5, 8] (fun v i => ∃ k, k ≤ n ∧ i = .int .i64 (k : Nat) ∧ v = .int .u64 (num β p k : Nat)) (fun _ i => n - (intOf i).toNat)
  case atStart => exact ⟨0, Nat.zero_le _, rfl, rfl⟩
  case round =>
    obtain ⟨k, hk, rfl, rfl⟩ := hrel
    by_cases hkn : k < n
    · have e := HC.out k (by omega)
      have hN := num_lt β p k
      have hor : ∃ Q : Nat, Q ≤ 1 ∧ Q = b2n (β (p + k)) ∧ bits .or .u64 (IntKind.u64.wrap ((num β p k : Nat) * 2)) ((Q : Nat) : Int) = ((num β p (k + 1) : Nat) : Int) := by
        refine ⟨_, b2n_le _, rfl, ?_⟩
        have h2 : 2 ^ k ≤ 2 ^ 63 := Nat.pow_le_pow_right (by decide) (by omega)
        have h1 := b2n_le (β (p + k))
        rw [IntKind.wrap_u64, show ((num β p k : Nat) : Int) * 2 % 18446744073709551616 = ((num β p k * 2 : Nat) : Int) from by omega, u64_or_nat _ _ (by omega) (by omega), nat_join 1 _ _ (by omega) (by omega)]
        simp only [num]
        omega
      obtain ⟨Q, hQ1, hQ, hQor⟩ := hor
      rw [← hQ] at e
      obtain ⟨N, hNe⟩ : ∃ N, N = num β p k := ⟨_, rfl⟩
      obtain ⟨M, hMe⟩ : ∃ M, M = num β p (k + 1) := ⟨_, rfl⟩
      rw [← hNe, ← hMe] at hQor
      rw [← hNe]
      have HM := Lib.hid hMe
      clear hQ hNe hMe hN
      go_wp2_with fail
      go_round
      case rel => exact ⟨k + 1, by omega, by go_num, by rw [HM.out]⟩
      case measure => simp [intOf]; omega
    · obtain rfl : k = n := by omega
      go_wp2_with fail
      go_ret
      exact ⟨rfl, rfl⟩
end Ro
end Go.Proofs.Ytbpkoneenihfcaa
