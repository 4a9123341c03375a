import Derived.Test.YtjmddomkoholoaaGreatDoorG10
import Derived.Test.YtjmddomkoholoaaGreatDoorG11
import Derived.Test.YtjmddomkoholoaaGreatDoorG17
import Derived.Test.YtjmddomkoholoaaGreatDoorG05
import Derived.Test.YtjmddomkoholoaaGreatDoorG07

/- Two columns compared. -/
namespace Go.Proofs.YtjmddomkoholoaaGreatDoor
open Go.RowKit
namespace Sa
open Cm Wr Cv Vs Fm Fo

theorem eq_of {T U : List Vl} {n : Nat} (hn : n = T.length) (hm : T.length = U.length) (h : ∀ j, j < n → T.getD j z0 = U.getD j z0) : T = U := by
  refine List.ext_getElem hm fun i h1 h2 => ?_
  have := h i (by omega)
  rwa [List.getD_eq_getElem?_getD, List.getD_eq_getElem?_getD, List.getElem?_eq_getElem h1, List.getElem?_eq_getElem h2] at this

theorem str_beq {s t : List Nat} (hs : ∀ x ∈ s, x < 256) (ht : ∀ x ∈ t, x < 256) : ((str s).toList == (str t).toList) = decide (s = t) := by
  by_cases h : s = t
  · rw [h]; simp
  · rw [decide_eq_false h]
    exact toList_ne fun e => h (str_inj hs ht e)
theorem neq35 (w : World) (V X : Vl) (hV : Wv V) (hX : Wv X) :
    (binOp .neq 35 (.agg #[.int .i64 V.1, .int .u64 (V.2.1 : Nat), .string (str V.2.2)]) (.agg #[.int .i64 X.1, .int .u64 (X.2.1 : Nat), .string (str X.2.2)])).run Tryz.prog w = .ok (.bool (!decide (V = X))) w := by
  rw [run_neq_struct, run_equalIn_agg _ _ _ _ _ (by kernel_rfl) Tryz.stoodInHeld35]
  have hs := str_beq hV.2.2.2 hX.2.2.2
  obtain ⟨x1, x2, x3⟩ := V
  obtain ⟨y1, y2, y3⟩ := X
  simp only at hs ⊢
  have hb : decide ((x1, x2, x3) = (y1, y2, y3)) = ((x1 == y1) && ((x2 : Int) == (y2 : Int)) && (decide (x3 = y3))) := by
    rw [Bool.eq_iff_iff]
    simp only [decide_eq_true_eq, Bool.and_eq_true, beq_iff_eq, Prod.mk.injEq, Int.natCast_inj]
    exact ⟨fun ⟨a, b, c⟩ => ⟨⟨a, b⟩, c⟩, fun ⟨⟨a, b⟩, c⟩ => ⟨a, b, c⟩⟩
  rw [hb, ← hs]
  simp [go_sem, Program.fieldsOf, Tryz.underlying35]
  by_cases h1 : x1 = y1 <;> by_cases h2 : (x2 : Int) = (y2 : Int) <;> by_cases h3 : (str x3).toList = (str y3).toList <;> simp [h1, h2, h3]
end Sa
end Go.Proofs.YtjmddomkoholoaaGreatDoor

/- The document's side: how many noughts. -/
namespace Go.Proofs.YtjmddomkoholoaaGreatDoor
open Go.RowKit
namespace Hl
open Cm Wr Bm

theorem and_bit (y : Nat) (hy : y < 18446744073709551616) : bits .and .u64 (y : Int) 1 = ((y % 2 : Nat) : Int) := by
  rw [Sz.and_one _ (by omega) (by omega)]; omega

set_option maxRecDepth 100000 in
theorem high31 (w : World) (x : Nat) (h0 : x ≠ 0) (hx : x < 18446744073709551616) : Calls Tryz.prog 141 #[.int .u64 (x : Nat)] w fun e w' => e = .returned (.int .i64 (hi x : Nat)) ∧ w' = w := by
  have HH := Lib.hid (fun (k : Nat) (h1 : k < 64) (h2 : 2 ^ (63 - k) ≤ x) (h3 : x < 2 ^ (64 - k)) => hi_of h1 h2 h3)
  obtain ⟨H, hH⟩ : ∃ H, H = hi x := ⟨_, rfl⟩
  rw [← hH] at HH ⊢
  clear hH
  go_enter Tryz.func141, Tryz.ntmps141
  go_wp2_with fail
  go_loop [3] (fun i => ∃ k, k ≤ 63 ∧ i = .int .i64 (k : Nat) ∧ x < 2 ^ (64 - k)) (fun i => 64 - (intOf i).toNat)
  case atStart => exact ⟨0, by decide, rfl, hx⟩
  case round =>
    obtain ⟨k, hk, rfl, hlt⟩ := hrel
    have hdiv : ((x : Nat) : Int) / 2 ^ (63 - k) = ((x / 2 ^ (63 - k) : Nat) : Int) := by push_cast; rfl
    have hq : x / 2 ^ (63 - k) < 2 := by
      apply Nat.div_lt_of_lt_mul
      rw [← Nat.pow_succ, show (63 - k).succ = 64 - k from by omega]
      exact hlt
    have hand := and_bit (x / 2 ^ (63 - k)) (by omega)
    have htn : (63 - (k : Int)).toNat = 63 - k := by omega
    have hspec : (x / 2 ^ (63 - k) = 0 → x < 2 ^ (63 - k)) ∧ (x / 2 ^ (63 - k) ≠ 0 → 2 ^ (63 - k) ≤ x) := ⟨fun h => by
      rcases Nat.div_eq_zero_iff.1 h with h | h
      · have := Nat.two_pow_pos (63 - k); omega
      · exact h, fun h => by
      by_cases h2 : 2 ^ (63 - k) ≤ x
      · exact h2
      · exact absurd (Nat.div_eq_of_lt (by omega)) h⟩
    have HS := Lib.hid hspec
    obtain ⟨Q, hQ⟩ : ∃ Q, Q = x / 2 ^ (63 - k) := ⟨_, rfl⟩
    rw [← hQ] at hdiv hq hand HS
    have HLT := Lib.hid hlt
    clear hspec hlt hQ
    by_cases hQ0 : Q = 0
    · subst hQ0
      have hk63 : k < 63 := by
        by_cases h : k < 63
        · exact h
        · exfalso
          have := HS.out.1 rfl
          rw [show 63 - k = 0 from by omega] at this
          simp at this
          exact h0 this
      have HN := Lib.hid (HS.out.1 rfl)
      go_wp2_with fail
      go_round
      case rel => exact ⟨k + 1, by omega, by go_num, by rw [show 64 - (k + 1) = 63 - k from by omega]; exact HN.out⟩
      case measure => simp [intOf]; omega
    · obtain rfl : Q = 1 := by omega
      have HE := Lib.hid (HH.out k (by omega) (HS.out.2 (by decide)) HLT.out)
      go_wp2_with fail
      go_ret
      exact ⟨by rw [HE.out]; rfl, rfl⟩

set_option maxRecDepth 100000 in
theorem low32 (w : World) (x : Nat) (h0 : x ≠ 0) (hx : x < 18446744073709551616) : Calls Tryz.prog 142 #[.int .u64 (x : Nat)] w fun e w' => e = .returned (.int .i64 (lo x : Nat)) ∧ w' = w := by
  have HH := Lib.hid (fun (k : Nat) (h1 : k < 64) (h2 : x % 2 ^ k = 0) (h3 : x / 2 ^ k % 2 = 1) => lo_of h1 h2 h3)
  have HX := Lib.hid (And.intro h0 hx)
  obtain ⟨H, hH⟩ : ∃ H, H = lo x := ⟨_, rfl⟩
  rw [← hH] at HH ⊢
  clear hH
  go_enter Tryz.func142, Tryz.ntmps142
  go_wp2_with fail
  go_loop [3] (fun i => ∃ k, k ≤ 63 ∧ i = .int .i64 (k : Nat) ∧ x % 2 ^ k = 0) (fun i => 64 - (intOf i).toNat)
  case atStart => exact ⟨0, by decide, rfl, by simp [Nat.mod_one]⟩
  case round =>
    obtain ⟨k, hk, rfl, hlt⟩ := hrel
    have hdiv : ((x : Nat) : Int) / 2 ^ k = ((x / 2 ^ k : Nat) : Int) := by push_cast; rfl
    have hand := and_bit (x / 2 ^ k) (Nat.lt_of_le_of_lt (Nat.div_le_self _ _) hx)
    have HS := Lib.hid (show (x / 2 ^ k % 2 = 0 → x % 2 ^ (k + 1) = 0) from fun h => by rw [Nat.pow_succ, Nat.mod_mul, h, hlt, Nat.mul_zero])
    have HW := Lib.hid (show (x % 2 ^ (k + 1) = 0 → k < 63) from fun h => by
      by_cases h63 : k < 63
      · exact h63
      · exfalso
        rw [show k + 1 = 64 from by omega, Nat.mod_eq_of_lt hx] at h
        exact h0 h)
    have HQ := Lib.hid (show x / 2 ^ k % 2 = x / 2 ^ k % 2 from rfl)
    obtain ⟨P, hP⟩ : ∃ P, P = x / 2 ^ k := ⟨_, rfl⟩
    rw [← hP] at hdiv hand HS
    obtain ⟨Q, hQ⟩ : ∃ Q, Q = P % 2 := ⟨_, rfl⟩
    rw [← hQ] at hand HS
    have HLT := Lib.hid (show x % 2 ^ k = 0 ∧ P = x / 2 ^ k ∧ Q = P % 2 from ⟨hlt, hP, hQ⟩)
    have hQ2 : Q < 2 := by omega
    clear hlt hP hQ HQ
    by_cases hQ0 : Q = 0
    · subst hQ0
      have HN := Lib.hid (HS.out rfl)
      have hk63 := HW.out HN.out
      go_wp2_with fail
      go_round
      case rel => exact ⟨k + 1, by omega, by go_num, HN.out⟩
      case measure => simp [intOf]; omega
    · obtain rfl : Q = 1 := by omega
      have HE := Lib.hid (HH.out k (by omega) HLT.out.1 (by rw [← HLT.out.2.1]; exact HLT.out.2.2.symm))
      go_wp2_with fail
      go_ret
      exact ⟨by rw [HE.out]; rfl, rfl⟩
end Hl
end Go.Proofs.YtjmddomkoholoaaGreatDoor

/- The document's bits: what Put, Of, Get and Bytes answer. -/
namespace Go.Proofs.YtjmddomkoholoaaGreatDoor
open Go.RowKit
namespace Rf
open Bm Wr

/-- The first m bits, a bit a place. -/
def bl (β : Nat → Bool) (m : Nat) : List Nat := (List.range m).map fun i => b2n (β i)
theorem bl_len (β : Nat → Bool) (m : Nat) : (bl β m).length = m := by simp [bl]
theorem bl_succ (β : Nat → Bool) (m : Nat) : bl β (m + 1) = bl β m ++ [b2n (β m)] := by simp [bl, List.range_succ]
theorem bl_congr {β γ : Nat → Bool} {m : Nat} (h : ∀ i, i < m → β i = γ i) : bl β m = bl γ m := by
  unfold bl
  apply List.map_congr_left
  intro i hi
  rw [h i (List.mem_range.1 hi)]
theorem bl_get (β : Nat → Bool) {m i : Nat} (h : i < m) : (bl β m).getD i 0 = b2n (β i) := by
  simp [bl, List.getD_eq_getElem?_getD, h]
theorem bit_of (v i : Nat) : v / 2 ^ i % 2 = b2n (v.testBit i) := by
  rw [Nat.testBit_eq_decide_div_mod_eq]
  unfold b2n
  by_cases h : v / 2 ^ i % 2 = 1
  · simp [h]
  · simp [h]; omega

set_option maxRecDepth 100000 in
set_option maxHeartbeats 2000000 in
theorem rput12 (w : World) (B : Nat) (s : Value) (m v N : Nat) (β : Nat → Bool) (h : w.ownsRow B 5 1 s m (u8s (bl β m))) (hB : B ≤ w.heap.size) (hv : v < 18446744073709551616) (n : Int) (hn1 : -9223372036854775808 ≤ n) (hn2 : n ≤ 9223372036854775807)
    (hN : N = (min n 64).toNat) (hb : m ≤ 1048576 * 64) :
    Calls Tryz.prog 104 #[s, .int .u64 (v : Nat), .int .i64 n] w fun e w' => ∃ s', e = .returned s' ∧ w'.ownsRow B 5 1 s' (m + N) (u8s (bl (put β m v N 0) (m + N))) ∧ Mv w w' w.heap.size s ∧ Own w s s' := by
  obtain ⟨i0, hi, hz0, hz1, hz2⟩ := info_parts info5
  have hN64 : N ≤ 64 := by omega
  have h' : w.ownsRow B 5 1 s m (u8s (bl (put β m v N 0) m)) := by
    rw [bl_congr (γ := β) (fun i hi => by unfold put; rw [if_pos hi])]
    exact h
  clear h
  have HR := Lib.hid h'
  clear h'
  obtain ⟨γ, hγ⟩ : ∃ γ, γ = put β m v N 0 := ⟨_, rfl⟩
  have hbit : ∀ r, r < N → γ (m + r) = v.testBit (N - 1 - r) := by
    intro r hr
    rw [hγ]
    unfold put
    rw [if_neg (by omega), if_pos (by omega)]
    congr 1
    omega
  rw [← hγ] at HR ⊢
  clear hγ
  have HBIT := Lib.hid hbit
  clear hbit
  go_enter Tryz.func104, Tryz.ntmps104
  go_wp2_with fail
  all_goals
    go_loopw [0, 7] (fun x i wr => ∃ r, r ≤ N ∧ i = .int .i64 ((N : Int) - 1 - (r : Int)) ∧ wr.ownsRow B 5 1 x (m + r) (u8s (bl γ (m + r))) ∧ Mv w wr w.heap.size s ∧ Own w s x) (fun _ i _ => (intOf i + 1).toNat)
    case atStart => exact ⟨0, Nat.zero_le _, by congr 1; omega, HR.out, Mv.refl _ _ _, Own.refl _ _⟩
    case round =>
      obtain ⟨r, hr, rfl, hown, hmv, ho⟩ := hrel
      clear hN
      have hsz := hmv.size
      by_cases hrN : r < N
      · obtain ⟨Q, hQ⟩ : ∃ Q, Q = b2n (γ (m + r)) := ⟨_, rfl⟩
        have hQ1 : Q ≤ 1 := by rw [hQ]; exact b2n_le _
        have hand : bits .and .u64 ((v : Int) / 2 ^ (N - 1 - r)) 1 = ((Q : Nat) : Int) := by
          rw [show ((v : Int) / 2 ^ (N - 1 - r)) = ((v / 2 ^ (N - 1 - r) : Nat) : Int) from by push_cast; rfl]
          have hlt : v / 2 ^ (N - 1 - r) < 18446744073709551616 := Nat.lt_of_le_of_lt (Nat.div_le_self _ _) hv
          rw [hQ, Sz.and_one _ (Int.natCast_nonneg _) (by omega), HBIT.out r hrN, ← bit_of]
          omega
        have HQ := Lib.hid hQ
        clear hQ
        have htn : ((N : Int) - 1 - (r : Int)).toNat = N - 1 - r := by omega
        have HO := Lib.hid ho
        clear ho
        go_wp2_with (at_builtin; refine wpList_append_own_at _ rfl (.tmp 16) (.tmp 23) 139 rfl B 5 i0 (.int .u8 0) 1 1 Tryz.underlying139 hi hz0 hz1 hz2 rfl (by decide) _ _ _ rfl (hown.alloc _) ⟨wr.heap.size, 0, none⟩ 1 1 [.int .u8 (Q : Int)] rfl rfl ?c1 ?c2 ?c3 ?c4 ?c5 ?_)
        case c1 =>
          intro j u hj
          match j, hj with
          | 0, hj => simp at hj; subst hj; simp [Addr.add]
        case c2 => intro u hu; simp at hu; subst hu; rfl
        case c3 => unfold maxLen; omega
        case c4 => omega
        case c5 => simp; omega
        intro v' w2 hown' hgrow _ hat
        have ho2 : Own wr u0 v' := hat.elim .inl fun e => .inr ⟨_, e, by simp⟩
        have hmv2 : Mv wr w2 w.heap.size u0 := ⟨hgrow.os, hgrow.tape, hgrow.output, Nat.le_trans (by simp) hgrow.size, fun k hk _ hs => (hgrow.block k (by simp; omega) (fun e => hs e.symm)).trans (Below.heap_alloc wr _ k hk)⟩
        have hown2 : w2.ownsRow B 5 1 v' (m + (r + 1)) (u8s (bl γ (m + (r + 1)))) := by
          rw [← Nat.add_assoc, bl_succ, u8s_snoc, ← HQ.out]
          exact hown'
        have HM := Lib.hid (hmv.trans HO.out hmv2)
        have HO2 := Lib.hid (HO.out.trans ho2 hsz)
        clear hgrow hown hown' hmv hmv2 ho2 hat
        go_wp2
        go_roundw
        case rel => exact ⟨r + 1, by omega, by congr 1; omega, hown2, HM.out, HO2.out⟩
        case measure => simp [intOf]; omega
      · obtain rfl : r = N := by omega
        go_wp2_with fail
        go_ret
        exact ⟨_, rfl, hown, hmv, ho⟩
end Rf
end Go.Proofs.YtjmddomkoholoaaGreatDoor

/- The document's bits: Bytes. -/
namespace Go.Proofs.YtjmddomkoholoaaGreatDoor
open Go.RowKit
namespace Rf
open Bm Wr

/-- The first k bits of β, noughts behind them. -/
def cut (β : Nat → Bool) (k : Nat) : Nat → Bool := fun i => if i < k then β i else false
theorem b2n_bit (b : Bool) (i : Nat) : (b2n b).testBit i = (decide (i = 0) && b) := by
  cases b
  · simp [b2n]
  · by_cases h : i = 0
    · subst h; simp [b2n]
    · have : (1 : Nat).testBit i = false := Nat.testBit_lt_two_pow (Nat.one_lt_two_pow h)
      simp [b2n, h, this]
theorem set_bit {bs : List Nat} {β : Nat → Bool} {k : Nat} (h : Has bs (cut β k)) (hk : k / 8 < bs.length) : Has (bs.set (k / 8) (bs.getD (k / 8) 0 ||| b2n (β k) * 2 ^ (7 - k % 8))) (cut β (k + 1)) := by
  have hx : b2n (β k) * 2 ^ (7 - k % 8) < 2 ^ 8 := by
    have h1 := b2n_le (β k)
    have h2 : 2 ^ (7 - k % 8) ≤ 2 ^ 7 := Nat.pow_le_pow_right (by decide) (by omega)
    have h3 := Nat.mul_le_mul h1 h2
    omega
  refine h.set (Nat.or_lt_two_pow (n := 8) (getD_lt h.1 _) hx) hk (fun i hi hij => ?_) (fun q hq => ?_)
  · unfold cut
    by_cases h1 : i < k
    · rw [if_pos h1, if_pos (by omega)]
    · rw [if_neg h1, if_neg (by omega)]
  · rw [Nat.testBit_or, h.2 _ q hk hq, ← Nat.shiftLeft_eq, Nat.testBit_shiftLeft, b2n_bit]
    unfold cut
    by_cases e : q = k % 8
    · rw [if_neg (by omega), if_pos (by omega), decide_eq_true (show 7 - q ≥ 7 - k % 8 by omega), decide_eq_true (show 7 - q - (7 - k % 8) = 0 by omega)]
      simp only [Bool.false_or, Bool.true_and]
      congr 1
      omega
    · by_cases h2 : q < k % 8
      · rw [if_pos (by omega), if_pos (by omega), decide_eq_false (show ¬ 7 - q - (7 - k % 8) = 0 by omega)]
        simp
      · rw [if_neg (by omega), if_neg (by omega), decide_eq_false (show ¬ 7 - q ≥ 7 - k % 8 by omega)]
        simp

theorem made_u8 (n : Nat) : (madeCells #[Value.int .u8 0] n).toList = u8s (List.replicate n 0) := by
  rw [toList_madeCells_one]
  simp [u8s]
theorem has_noughts (n : Nat) (β : Nat → Bool) : Has (List.replicate n 0) (cut β 0) := by
  refine ⟨fun b hb => ?_, fun j k hj hk => ?_⟩
  · rw [List.eq_of_mem_replicate hb]; decide
  · simp at hj
    simp [List.getD_eq_getElem?_getD, hj, cut]

set_option maxRecDepth 100000 in
set_option maxHeartbeats 2000000 in
theorem rbytes15 (w : World) (B : Nat) (s : Value) (m : Nat) (β : Nat → Bool) (h : w.ownsRow B 5 1 s m (u8s (bl β m))) (hm : m ≤ 1048576 * 65) :
    Calls Tryz.prog 105 #[s] w fun e w' => ∃ v bs, e = .returned v ∧ w'.ownsRow w.heap.size 5 1 v bs.length (u8s bs) ∧ bs.length = (m + 7) / 8 ∧ Has bs (cut β m) ∧ Below w.heap.size w w' ∧ ∃ g c, v = .slice (some ⟨g, 0, none⟩) bs.length c := by
  obtain ⟨i0, hi, hz0, hz1, hz2⟩ := info_parts info5
  have hs : ∃ a c, s = .slice a m c := by
    rcases Go.Joins.ownsRow_forms h with ⟨rfl, rfl⟩ | ⟨g, c, rfl⟩
    · exact ⟨_, _, rfl⟩
    · exact ⟨_, _, rfl⟩
  obtain ⟨a, c, rfl⟩ := hs
  obtain ⟨L, hL⟩ : ∃ L, L = (m + 7) / 8 := ⟨_, rfl⟩
  have hLi : ((m : Int) + 7) / 8 = (L : Int) := by omega
  have HO := Lib.hid h
  clear h
  rw [← hL]
  have HL := Lib.hid hL
  clear hL
  go_enter Tryz.func105, Tryz.ntmps105
  go_wp2_with (refine wpList_make_full w rfl (.tmp 8) (.tmp 8) 22 rfl w.heap.size 5 i0 (.int .u8 0) 1 Tryz.underlying22 hi hz0 hz1 .i64 .i64 (((m : Int) + 7) / 8) (((m : Int) + 7) / 8) L rfl rfl hLi hLi (by rw [hz2]; omega) (by unfold maxLen; omega) (Nat.le_refl _) ?_)
  intro w1 hown1 hg1
  have b1 : Below w.heap.size w w1 := (Below.refl _ _).grown hg1 (Nat.le_refl _) (fun r hr => by cases hr)
  rw [made_u8] at hown1
  clear hg1
  go_wp2_with fail
  go_loopw [12] (fun i wr => ∃ k bs, k ≤ m ∧ i = .int .i64 (k : Nat) ∧ wr.ownsRow w.heap.size 5 1 (.slice (some ⟨w.heap.size, 0, none⟩) L L) L (u8s bs) ∧ bs.length = L ∧ Has bs (cut β k) ∧ Below w.heap.size w wr) (fun i _ => m - (intOf i).toNat)
  case atStart => exact ⟨0, _, Nat.zero_le _, rfl, hown1, by simp, has_noughts _ _, b1⟩
  case round =>
    obtain ⟨k, bs, hk, rfl, hown, hbl, hhas, hb⟩ := hrel
    by_cases hkm : k < m
    · have HO' : wr.ownsRow B 5 1 (.slice a m c) m (u8s (bl β m)) := HO.out.kept (row := none) ⟨hb.os, hb.tape, hb.output, hb.size, fun k hk _ => hb.block k hk⟩ (by
        by_cases e : (Value.slice a m c).ownBlock = none
        · exact .inl e
        · exact .inr e)
      obtain ⟨g, c', e'⟩ := Go.Joins.ownsRow_form HO' (by omega)
      simp only [Value.slice.injEq, true_and] at e'
      obtain ⟨rfl, rfl⟩ := e'
      have hgw := (HO.out.lt g rfl).2
      have e2 : wr.cell? ⟨g, k, none⟩ = some (.int .u8 ((bl β m).getD k 0 : Nat)) := by
        rw [HO'.cellAt k (by omega)]
        exact u8s_get _ _ (by rw [bl_len]; exact hkm)
      rw [bl_get β hkm] at e2
      have hk8 : k / 8 < L := by have := HL.out; omega
      have e1 : wr.cell? ⟨w.heap.size, k / 8, none⟩ = some (.int .u8 (bs.getD (k / 8) 0 : Nat)) := by
        rw [hown.cellAt (k / 8) (by omega)]
        exact u8s_get _ _ (by omega)
      have e0 : wr.frozen? ⟨w.heap.size, k / 8, none⟩ = false := hown.frozenAt (k / 8)
      have hset := set_bit hhas (by omega)
      have hX := getD_lt hhas.1 (k / 8)
      obtain ⟨X, hXe⟩ : ∃ X, X = bs.getD (k / 8) 0 := ⟨_, rfl⟩
      obtain ⟨Q, hQe⟩ : ∃ Q, Q = b2n (β k) := ⟨_, rfl⟩
      have hQ1 : Q ≤ 1 := by rw [hQe]; exact b2n_le _
      rw [← hXe] at e1 hX hset
      rw [← hQe] at e2 hset
      obtain ⟨G, hG⟩ : ∃ G, G = w.heap.size := ⟨_, rfl⟩
      rw [← hG] at e1 e0
      have hne : G ≠ g := by omega
      have hY : Q * 2 ^ (7 - k % 8) < 256 := by
        have h2 : 2 ^ (7 - k % 8) ≤ 2 ^ 7 := Nat.pow_le_pow_right (by decide) (by omega)
        have h3 := Nat.mul_le_mul hQ1 h2
        omega
      have hk1 : (k : Int) / 8 < (L : Int) := by omega
      have hk0 : (0 : Int) ≤ (k : Int) / 8 := by omega
      have hk2 : ((k : Int) / 8).toNat = k / 8 := by omega
      have hk3 : (7 - (k : Int) % 8).toNat = 7 - k % 8 := by omega
      have hk4 : (0 : Int) ≤ 7 - (k : Int) % 8 := by omega
      have HS := Lib.hid hset
      have HOWN := Lib.hid hown
      have HB := Lib.hid hb
      have HH := Lib.hid hhas
      have HO2 := Lib.hid HO'
      clear hset hown hb hhas HO' hown1 b1 hXe hQe
      rw [← hG]
      have HG := Lib.hid hG
      clear hG
      go_wp2_with fail
      go_region
      go_wp2
      have hor : bits .or .u8 (X : Int) ((Q : Int) * 2 ^ (7 - k % 8) % 256) = ((X ||| Q * 2 ^ (7 - k % 8) : Nat) : Int) := by
        rw [show ((Q : Int) * 2 ^ (7 - k % 8) % 256) = ((Q * 2 ^ (7 - k % 8) : Nat) : Int) from by
          rw [show (Q : Int) * 2 ^ (7 - k % 8) = ((Q * 2 ^ (7 - k % 8) : Nat) : Int) from by push_cast; rfl]; omega]
        exact u8_or_nat _ _ hX hY
      rw [hor]
      go_roundw
      case rel =>
        refine ⟨k + 1, bs.set (k / 8) (X ||| Q * 2 ^ (7 - k % 8)), by omega, by go_num, ?_, by rw [List.length_set]; exact hbl, HS.out, ?_⟩
        · rw [u8s_set, HG.out]
          exact (HOWN.out.stored (k / 8) _).1.drew
        · rw [HG.out]
          exact (HB.out.setCell (p := ⟨w.heap.size, k / 8, none⟩) (Nat.le_refl _) _).drew
      case measure => simp [intOf]; omega
    · obtain rfl : k = m := by omega
      clear hown1
      go_wp2_with fail
      go_ret
      exact ⟨_, bs, rfl, by rw [hbl]; exact hown, hbl, hhas, hb, w.heap.size, L, by rw [hbl]; rfl⟩
end Rf
end Go.Proofs.YtjmddomkoholoaaGreatDoor
