/- The law of bits written and read back. -/
import Derived.Test.YtbpkoneenihfcaaRg
import Derived.Test.YtbpkoneenihfcaaLw
namespace Go.Proofs.Ytbpkoneenihfcaa
open Go.RowKit
namespace Lb
open Bm Wr Rd Lw

/-- How many bits the law puts of the piece at k. -/
def sz (N : Nat → Int) (k : Nat) : Nat := 1 + (N k % 64).toNat
theorem sz_in (N : Nat → Int) (k : Nat) : 1 ≤ sz N k ∧ sz N k ≤ 64 := by unfold sz; omega
/-- Where the piece at k begins. -/
def pos (N : Nat → Int) : Nat → Nat
  | 0 => 0
  | k + 1 => pos N k + sz N k
theorem pos_le (N : Nat → Int) (k : Nat) : pos N k ≤ 64 * k := by
  induction k with
  | zero => simp [pos]
  | succ k ih => have := (sz_in N k).2; simp only [pos]; omega
theorem pos_mono (N : Nat → Int) {j k : Nat} (h : j < k) : pos N j + sz N j ≤ pos N k := by
  induction k with
  | zero => omega
  | succ k ih =>
    simp only [pos]
    by_cases e : j = k
    · subst e; omega
    · have := ih (by omega); omega
/-- The bits of the first k pieces. -/
def bt (V : Nat → Nat) (N : Nat → Int) : Nat → Nat → Bool
  | 0 => fun _ => false
  | k + 1 => put (bt V N k) (pos N k) (V k) (sz N k) 0
theorem bt_at (V : Nat → Nat) (N : Nat → Int) {j k t : Nat} (hj : j < k) (ht : t < sz N j) : bt V N k (pos N j + t) = (V j).testBit (sz N j - 1 - t) := by
  induction k with
  | zero => omega
  | succ k ih =>
    simp only [bt]
    by_cases e : j = k
    · subst e
      unfold put
      rw [if_neg (by omega), if_pos (by omega)]
      congr 1
      omega
    · have := pos_mono N (show j < k by omega)
      unfold put
      rw [if_pos (by omega)]
      exact ih (by omega)
theorem read_back (V : Nat → Nat) (N : Nat → Int) {j k : Nat} (hj : j < k) : num (bt V N k) (pos N j) (sz N j) = V j % 2 ^ sz N j := num_of _ _ _ _ fun _ hi => bt_at V N hj hi

theorem size_of (n : Int) (z : Nat) (hz : (1 : Int) + n % 64 = (z : Int)) : IntKind.i64.wrap (1 + IntKind.i64.wrap ((IntKind.u64.wrap n).tmod 64)) = (z : Int) := by
  have h0 : 0 ≤ IntKind.u64.wrap n := by rw [IntKind.wrap_u64]; omega
  rw [Int.tmod_eq_emod_of_nonneg h0, IntKind.wrap_u64, show n % 18446744073709551616 % 64 = n % 64 from by omega, show IntKind.i64.wrap (n % 64) = n % 64 from IntWalk.i64_in _ (by omega), IntWalk.i64_in _ (by omega)]
  exact hz

theorem bdn {B : Nat} {a w : World} (n : Nat) (h : Below B a w) : Below B a (w.drewN n) := ⟨h.os, h.tape, h.output, h.size, h.block⟩
theorem shifts_of (v z : Nat) (hz : 1 ≤ z) (hz2 : z ≤ 64) : IntKind.u64.wrap ((v : Int) * 2 ^ (64 - z)) / 2 ^ (64 - z) = ((v % 2 ^ z : Nat) : Int) := by
  have e1 : (v : Int) * 2 ^ (64 - z) = ((v * 2 ^ (64 - z) : Nat) : Int) := by push_cast; rfl
  have e2 : IntKind.u64.wrap ((v * 2 ^ (64 - z) : Nat) : Int) = ((v * 2 ^ (64 - z) % 18446744073709551616 : Nat) : Int) := by rw [IntKind.wrap_u64]; omega
  have e3 : (18446744073709551616 : Nat) = 2 ^ z * 2 ^ (64 - z) := by rw [← Nat.pow_add, show z + (64 - z) = 64 from by omega]
  rw [e1, e2, e3, Nat.mul_mod_mul_right]
  have e4 : ((v % 2 ^ z * 2 ^ (64 - z) : Nat) : Int) / 2 ^ (64 - z) = ((v % 2 ^ z * 2 ^ (64 - z) / 2 ^ (64 - z) : Nat) : Int) := by push_cast; rfl
  rw [e4, Nat.mul_div_cancel _ (Nat.pow_pos (by decide))]

set_option maxRecDepth 100000 in
set_option maxHeartbeats 1000000 in
theorem back5 (W : World) (a : Option Addr) (len cap : Nat) (V : Nat → Nat) (N : Nat → Int) (h : Ps W a len V N) (hl : len ≤ 8796093021952) :
    Calls Try.prog 5 #[.slice a len cap] W fun e w' => e = .returned (.bool true) ∧ Below W.heap.size W w' := by
  obtain ⟨hVN, hcell⟩ := h
  have HVN := Lib.hid hVN
  have HC := Lib.hid hcell
  clear hVN hcell
  go_enter Try.func5, Try.ntmps5
  go_wp2_with (go_at_call 9; refine (awake9 _).mono ?_; rintro e w1 ⟨rfl, b1⟩)
  refine (new_wt _).mono ?_
  rintro e w2 ⟨rfl, hw2, b2⟩
  obtain ⟨g, hg⟩ : ∃ g, g = w1.heap.size := ⟨_, rfl⟩
  have hgW : W.heap.size ≤ g := by rw [hg]; exact b1.size
  have HB2 := Lib.hid (b1.trans (b2.mono b1.size))
  rw [← hg] at hw2 ⊢
  have HW2 := Lib.hid hw2
  clear hw2 b1 b2 hg
  go_wp2_with fail
  go_loopw [13] (fun i wr => ∃ k sw, k ≤ len ∧ i = .int .i64 (k : Nat) ∧ Wt wr g sw (pos N k) (bt V N k) ∧ Below W.heap.size W wr) (fun i _ => len - (intOf i).toNat)
  case atStart => exact ⟨0, _, Nat.zero_le _, rfl, HW2.out, HB2.out⟩
  case round =>
    obtain ⟨k, sw, hk, rfl, hwt, hbl⟩ := hrel
    by_cases hkl : k < len
    · obtain ⟨b, off, rfl, hbW, hcell⟩ := HC.out.resolve_left (by omega)
      obtain ⟨c1, c2⟩ := hcell k hkl
      clear hcell
      obtain ⟨hv, hn1, hn2⟩ := HVN.out k
      have hsz : (1 : Int) + N k % 64 = ((sz N k : Nat) : Int) := by unfold sz; omega
      have hsz2 := sz_in N k
      have hpl := pos_le N k
      have HPUT0 := put_wt wr.drew g sw (pos N k) (bt V N k) (V k) (sz N k) ((sz N k : Nat) : Int) (wt_drew hwt) hv (by omega) (by omega) (by omega) (by omega)
      obtain ⟨v, hve⟩ : ∃ v, v = V k := ⟨_, rfl⟩
      obtain ⟨n, hne⟩ : ∃ n, n = N k := ⟨_, rfl⟩
      obtain ⟨z, hze⟩ : ∃ z, z = sz N k := ⟨_, rfl⟩
      rw [← hze, ← hve] at HPUT0
      rw [← hve] at hv c1
      rw [← hne] at hn1 hn2 c2 hsz
      rw [← hze] at hsz hsz2
      have HVE := Lib.hid hve
      have HZE := Lib.hid hze
      clear hve hne hze
      have e1 : wr.cell? ⟨b, off + k * 2, none⟩ = some (.int .u64 (v : Nat)) := by rw [hbl.cell (by exact hbW)]; exact c1
      have e2 : wr.cell? ⟨b, off + k * 2 + 1, none⟩ = some (.int .i64 n) := by rw [hbl.cell (by exact hbW)]; exact c2
      have HB8 : Hid (∀ w5, Mv wr.drew w5 g sw → Below W.heap.size wr.drew w5) := Lib.hid fun w5 m5 => m5.below hgW (fun q e => by have := Wt.own hwt q e; omega) (by have := Wt.lt hwt; exact this)
      have HPUT := Lib.hid HPUT0
      have HWT := Lib.hid hwt
      have HBL := Lib.hid hbl
      have HQ : Hid (IntKind.i64.wrap (1 + IntKind.i64.wrap ((IntKind.u64.wrap n).tmod 64)) = (z : Int)) := Lib.hid (size_of n z hsz)
      clear HPUT0 hwt hbl c1 c2 hsz
      go_wp2_with fail
      go_region_held (fun w' => w'.cell? ⟨b, off + k * 2, none⟩ = some (.int .u64 (v : Nat)) ∧ w'.cell? ⟨b, off + k * 2 + 1, none⟩ = some (.int .i64 n)) (first | exact ⟨e1, e2⟩ | exact ⟨f1, f2⟩)
        (first | (go_at_call 11; rw [HQ.out]; refine HPUT.out.mono ?_; rintro e w5 ⟨rfl, s5, h5, m5, o5⟩; have f1 := ((HB8.out _ m5).cell (p := ⟨b, off + k * 2, none⟩) hbW).trans e1; have f2 := ((HB8.out _ m5).cell (p := ⟨b, off + k * 2 + 1, none⟩) hbW).trans e2))
      have B5 := Lib.hid (HBL.out.drew.trans (HB8.out _ m5))
      have H5 : Hid (Wt w5 g s5 (pos N (k + 1)) (bt V N (k + 1))) := by
        rw [HVE.out, HZE.out] at h5
        exact Lib.hid h5
      clear h5 m5 o5 HPUT HB8 HWT HBL f1 f2 e1 e2
      go_wp2_with fail
      go_roundw
      case rel => exact ⟨k + 1, s5, by omega, by go_num, H5.out, B5.out⟩
      case measure => simp [intOf]; omega
    · obtain rfl : k = len := by omega
      clear hkl HW2 HB2
      have HWT := Lib.hid hwt
      have hpl := pos_le N k
      clear hwt
      go_wp2_with (go_at_call 14; refine (bytes_wt _ _ _ _ _ HWT.out (by omega)).mono ?_; rintro e w6 ⟨v6, bs, f, rfl, ow6, b6, has6, len6, hf6⟩)
      refine (new16 w6 v6 bs (is_own ow6) (by omega)).mono ?_
      rintro e w7 ⟨g2, s2, rfl, h7, hg7, ho7, b7⟩
      have hs2 := h7.forms
      obtain ⟨a2, c2, rfl⟩ := hs2
      have B7 := Lib.hid (hbl.trans ((b6.mono hbl.size).trans (b7.mono (by have := hbl.size; have := b6.size; omega))))
      have hgW2 : W.heap.size ≤ g2 := by have := hbl.size; have := b6.size; omega
      have H7 := Lib.hid h7
      have HAS := Lib.hid has6
      have HLEN := Lib.hid len6
      have HCC := HC
      clear h7 ow6 b6 b7 has6 hbl ho7 hg7 len6
      go_wp2_with fail
      go_loopw [38] (fun i wr => ∃ j, j ≤ k ∧ i = .int .i64 (j : Nat) ∧ Rh wr g2 (.slice a2 bs.length c2) bs (pos N j) false ∧ Below W.heap.size W wr) (fun i _ => k - (intOf i).toNat)
      case atStart => exact ⟨0, Nat.zero_le _, rfl, H7.out, B7.out⟩
      case round =>
        obtain ⟨j, hj, rfl, hR, hbl⟩ := hrel
        clear H7 B7
        have HR := Lib.hid hR
        have HBL := Lib.hid hbl
        clear hR
        by_cases hjk : j < k
        · obtain ⟨b, off, rfl, hbW, hcell⟩ := HCC.out.resolve_left (by omega)
          obtain ⟨c1, c2'⟩ := hcell j hjk
          clear hcell
          obtain ⟨hv, hn1, hn2⟩ := HVN.out j
          have hsz : (1 : Int) + N j % 64 = ((sz N j : Nat) : Int) := by unfold sz; omega
          have hsz2 := sz_in N j
          obtain ⟨v, hve⟩ : ∃ v, v = V j := ⟨_, rfl⟩
          obtain ⟨n, hne⟩ : ∃ n, n = N j := ⟨_, rfl⟩
          obtain ⟨z, hze⟩ : ∃ z, z = sz N j := ⟨_, rfl⟩
          rw [← hve] at hv c1
          rw [← hne] at hn1 hn2 c2' hsz
          rw [← hze] at hsz hsz2
          have HVE := Lib.hid hve
          have HZE := Lib.hid hze
          clear hve hne hze
          have e1 : wr.cell? ⟨b, off + j * 2, none⟩ = some (.int .u64 (v : Nat)) := by rw [hbl.cell (by exact hbW)]; exact c1
          have e2 : wr.cell? ⟨b, off + j * 2 + 1, none⟩ = some (.int .i64 n) := by rw [hbl.cell (by exact hbW)]; exact c2'
          have HQ : Hid (IntKind.i64.wrap (1 + IntKind.i64.wrap ((IntKind.u64.wrap n).tmod 64)) = (z : Int)) := Lib.hid (size_of n z hsz)
          clear hbl c1 c2' hsz
          go_upto_region 14 with (fail)
          have HQ64 : wrap64 (1 + wrap64 ((IntKind.u64.wrap n).tmod 64)) = (z : Int) := by rw [← IntWalk.i64_left, ← IntWalk.i64_left]; exact HQ.out
          rw [HQ64]
          clear HQ64
          have hpm := pos_mono N hjk
          have HGET0 := get_ok wr.drew g2 _ bs (pos N j) z (bt V N k) (HR.out.drewN 1) HAS.out hsz2.1 hsz2.2 (by rw [HZE.out]; have := HLEN.out; omega) (by have := HLEN.out; omega)
          rw [HZE.out, read_back V N hjk, ← HZE.out, ← HVE.out] at HGET0
          obtain ⟨R, hRe⟩ : ∃ R, R = v % 2 ^ z := ⟨_, rfl⟩
          have hsh := shifts_of v z hsz2.1 hsz2.2
          rw [← hRe] at HGET0 hsh
          have HGET := Lib.hid HGET0
          have HO19 : Hid (∀ w5, Only wr.drew w5 g2 → Below W.heap.size wr.drew w5) := Lib.hid fun w5 m5 => m5.below hgW2 (by have := HBL.out.size; exact this)
          have hw1 : IntKind.i64.wrap (64 - (z : Int)) = 64 - (z : Int) := IntWalk.i64_in _ (by omega)
          have hw2 : IntKind.u64.wrap (64 - (z : Int)) = 64 - (z : Int) := by rw [IntKind.wrap_u64]; omega
          have hw3 : (0 : Int) ≤ 64 - (z : Int) := by omega
          have hw4 : (64 - (z : Int)).toNat = 64 - z := by omega
          clear HGET0 hRe hpm
          go_region_held (fun w' => w'.cell? ⟨b, off + j * 2, none⟩ = some (.int .u64 (v : Nat))) (first | exact e1 | exact f1)
            (first | (go_at_call 19; refine HGET.out.mono ?_; rintro e w8 ⟨rfl, h8, m8⟩; have f1 := ((HO19.out _ m8).cell (p := ⟨b, off + j * 2, none⟩) hbW).trans e1))
          have H8 : Hid (Rh w8 g2 (.slice a2 bs.length c2) bs (pos N (j + 1)) false) := by
            rw [HZE.out] at h8
            exact Lib.hid h8
          have B8 := Lib.hid (HBL.out.drew.trans (HO19.out _ m8))
          clear h8 m8 HGET HO19 HR HBL
          go_wp2_with fail
          go_roundw
          case rel => exact ⟨j + 1, by omega, by go_num, H8.out, B8.out⟩
          case measure => simp [intOf]; omega
        · obtain rfl : j = k := by omega
          have HLL := left21 wr g2 _ bs _ _ HR.out (by have := HLEN.out; omega) (by have := HLEN.out; omega)
          rw [show 8 * bs.length - pos N j = f from by have := HLEN.out; omega] at HLL
          have HLEFT := Lib.hid HLL
          clear HLL hbl
          go_wp2_with (first
            | (go_at_call 20; refine (bad20 _ _ _ _ _ _ HR.out).mono ?_; rintro e w2 ⟨rfl, rfl⟩)
            | (go_at_call 21; refine HLEFT.out.mono ?_; rintro e w3 ⟨rfl, q3, rfl⟩))
          go_ret
          exact ⟨by simp; omega, bdn q3 HBL.out⟩
end Lb
end Go.Proofs.Ytbpkoneenihfcaa
