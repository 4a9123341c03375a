/- The document's side: ReadAt; an append in a region that draws. -/
import Derived.Test.YtidbpoigbfpocaaDoorRx
import Derived.Deep.RegionLaw
namespace Go.Proofs.YtidbpoigbfpocaaDoor
open Go.RowKit
namespace Ry
open Mt Wr Bm Pk Rp Cv Rd Rx

/-- An append to a slice of one's own, as one step of a region that draws. -/
theorem step_append_own {P : Program} {ops : Array Oper} {o : Oper} {a : Act} {w : World} {K : Act → World → Prop} {Q : Exit → Act → World → Prop} {E : Prop}
    (hg : o.guard = none) (s x : Operand) (t : TypeId) (hop : o.op = Op.call { callee := Callee.builtin Builtin.append, args := #[s, x], argTypes := #[t, t] })
    (base : Nat) (e : TypeId) (i : TypeInfo) (z : Value) (size bytes : Nat) (h1 : P.underlying t = some (.slice e)) (h2 : P.info? e = some i) (h3 : i.zero = some z) (h4 : i.size = size) (h5 : i.bytes = bytes) (h6 : z.cells.size = size) (h7 : 0 < size)
    (v : Value) (n : Nat) (xs : List Value) (hs : a.eval s = v) (hown : w.ownsRow base e size v n xs)
    (ad : Addr) (m c : Nat) (news : List Value) (hx : a.eval x = .slice (some ad) m c) (hn : news.length = m * size) (hc : ∀ j u, news[j]? = some u → w.cell? (ad.add j) = some u) (h1c : ∀ u ∈ news, u.oneCell' = true)
    (b1 : n + m ≤ maxLen) (b2 : (n + m) * bytes ≤ 140737488355328) (hb : base ≤ w.heap.size)
    (hK : ∀ v' w', w'.ownsRow base e size v' (n + m) (xs ++ news) → w.grownBy w' v.ownBlock → K (a.put o.dst v') w') :
    if Region.wanted o (yielded ops a.tmps) = true then Oper.wp P o a w K Q else E := by
  have hw : Region.wanted o (yielded ops a.tmps) = true := by simp [Region.wanted, hg]
  rw [if_pos hw]
  obtain ⟨v', w', hrun, r1, r2, _⟩ := run_append_own (P := P) w base t o.type e i z size bytes h1 h2 h3 h4 h5 h6 h7 v n xs hown ad m c news hn hc h1c b1 b2 hb
  unfold Oper.wp
  simp [execOp, hop, resolve, invoke, builtin, hs, hx, hrun, Result.andThen]
  exact hK v' w' r1 r2

/-- The number of the first k bytes from j on. -/
def part (bs : List Nat) (j : Nat) : Nat → Nat
  | 0 => 0
  | k + 1 => part bs j k * 256 + bs.getD (j + k) 0
theorem part_lt {bs : List Nat} (h : ∀ b ∈ bs, b < 256) (j k : Nat) : part bs j k < 256 ^ k := by
  induction k with
  | zero => simp [part]
  | succ k ih => have := getD_lt h (j + k); simp only [part]; rw [Nat.pow_succ]; omega
theorem part_eight (bs : List Nat) (j : Nat) : part bs j 8 = num8 bs j := by simp [part, num8]

set_option maxRecDepth 100000 in
theorem readat38 (w : World) (b off len c : Nat) (bs : List Nat) (j N : Nat) (hN : N ≤ 8) (hX : ∀ b ∈ bs, b < 256) (hl : len ≤ 140737488353272) (hj : j + N ≤ len) (hc : ∀ i, i < len → w.cell? ⟨b, off + i, none⟩ = some (.int .u8 (bs.getD i 0 : Nat))) :
    Calls Tryd.prog 38 #[.slice (some ⟨b, off, none⟩) len c, .int .i64 (j : Nat), .int .i64 (N : Nat)] w fun e w' => e = .returned (.int .u64 (part bs j N : Nat)) ∧ w' = w := by
  have HC := Lib.hid hc
  have HX := Lib.hid hX
  clear hc hX
  go_enter Tryd.func38, Tryd.ntmps38
  go_wp2_with fail
  go_loop [7, 10] (fun x i => ∃ k, k ≤ N ∧ i = .int .i64 (k : Nat) ∧ x = .int .u64 (part bs j k : Nat)) (fun _ i => N - (intOf i).toNat)
  case atStart => exact ⟨0, Nat.zero_le _, rfl, rfl⟩
  case round =>
    obtain ⟨k, hk, rfl, rfl⟩ := hrel
    by_cases hk8 : k < N
    · have e := HC.out (j + k) (by omega)
      have h1 := getD_lt HX.out (j + k)
      have h2 := part_lt HX.out j k
      have h3 : 256 ^ k ≤ 256 ^ 7 := Nat.pow_le_pow_right (by decide) (by omega)
      obtain ⟨A, hA⟩ : ∃ A, A = part bs j k := ⟨_, rfl⟩
      obtain ⟨D, hD⟩ : ∃ D, D = bs.getD (j + k) 0 := ⟨_, rfl⟩
      have HN : Hid (part bs j (k + 1) = A * 256 + D) := Lib.hid (by rw [hA, hD]; rfl)
      rw [← hA] at h2 ⊢
      rw [← hD] at e h1
      have hA2 : A < 72057594037927936 := by omega
      have hor : bits .or .u64 ((A : Int) * 256) ((D : Nat) : Int) = ((A * 256 + D : Nat) : Int) := by
        rw [show (A : Int) * 256 = ((A * 256 : Nat) : Int) from by omega, u64_or_nat _ _ (by omega) (by omega), nat_join 8 _ _ (by omega) (by omega)]
      have HOR := Lib.hid hor
      have hi1 : (0 : Int) ≤ (j : Int) + (k : Int) := by omega
      have hi2 : (j : Int) + (k : Int) < (len : Int) := by omega
      have hi3 : ((j : Int) + (k : Int)).toNat = j + k := by omega
      clear hA hD h2 h3 hor
      go_wp2_with fail
      go_round
      case rel => exact ⟨k + 1, by omega, by go_num, by rw [HN.out, HOR.out]⟩
      case measure => simp [intOf]; omega
    · obtain rfl : k = N := by omega
      go_wp2_with fail
      go_ret
      exact ⟨rfl, rfl⟩
theorem readat17 (w : World) (b off len c : Nat) (bs : List Nat) (j : Nat) (hX : ∀ b ∈ bs, b < 256) (hl : len ≤ 140737488353272) (hj : j + 8 ≤ len) (hc : ∀ i, i < len → w.cell? ⟨b, off + i, none⟩ = some (.int .u8 (bs.getD i 0 : Nat))) :
    Calls Tryd.prog 38 #[.slice (some ⟨b, off, none⟩) len c, .int .i64 (j : Nat), .int .i64 8] w fun e w' => e = .returned (.int .u64 (num8 bs j : Nat)) ∧ w' = w := by
  have := readat38 w b off len c bs j 8 (Nat.le_refl _) hX hl hj hc
  rwa [part_eight] at this
end Ry
end Go.Proofs.YtidbpoigbfpocaaDoor
