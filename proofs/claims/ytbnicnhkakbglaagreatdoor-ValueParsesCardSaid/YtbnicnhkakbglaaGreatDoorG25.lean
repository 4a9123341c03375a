import Derived.Test.YtbnicnhkakbglaaGreatDoorG21
import Derived.Test.YtbnicnhkakbglaaGreatDoorG02
import Derived.Deep.CutBlock

/- rightShift. -/
namespace Go.Proofs.YtbnicnhkakbglaaGreatDoor
open Go.RowKit
namespace Dc
open Us Dm

/-- The first f digits are laid. -/
def Fw (w w' : World) (g : Nat) (A : Nat → Nat) (nd : Nat) (dp : Int) (ng tr : Bool) (X f : Nat) : Prop :=
  ∃ A' t', Dh w' g A' nd dp ng t' ∧ (∀ p, p < f → p < 800 → A' p = 48 + sdg X p) ∧ (∀ p, f ≤ p → A' p = A p) ∧
    (t' = true ↔ tr = true ∨ ∃ p, 800 ≤ p ∧ p < f ∧ sdg X p ≠ 0) ∧ Only w w' g
theorem fw_zero {w w' : World} {g : Nat} {A : Nat → Nat} {nd : Nat} {dp : Int} {ng tr : Bool} {X : Nat} (h : Dh w' g A nd dp ng tr) (o : Only w w' g) : Fw w w' g A nd dp ng tr X 0 :=
  ⟨A, tr, h, fun p hp => by omega, fun _ _ => rfl, ⟨fun h => .inl h, fun h => h.elim id fun ⟨p, _, h2, _⟩ => by omega⟩, o⟩
theorem fw_low {w wr : World} {g : Nat} {A : Nat → Nat} {nd : Nat} {dp : Int} {ng tr : Bool} {X f : Nat} (h : Fw w wr g A nd dp ng tr X f) (hf : f < 800) :
    Fw w (wr.setCell ⟨g, f, none⟩ (.int .u8 ((48 + sdg X f : Nat) : Int))) g A nd dp ng tr X (f + 1) := by
  obtain ⟨A', t', h1, h2, h3, h4, h5⟩ := h
  refine ⟨_, t', set_d h1 f (48 + sdg X f) hf, fun p p1 p2 => ?_, fun p hp => ?_, ?_, h5.trans only_set⟩
  · by_cases ep : p = f
    · rw [if_pos ep, ep]
    · rw [if_neg ep]; exact h2 p (by omega) p2
  · rw [if_neg (by omega)]; exact h3 p (by omega)
  · rw [h4]
    constructor
    · rintro (h | ⟨p, p1, p2, p3⟩)
      · exact .inl h
      · omega
    · rintro (h | ⟨p, p1, p2, p3⟩)
      · exact .inl h
      · omega
theorem fw_nought {w wr : World} {g : Nat} {A : Nat → Nat} {nd : Nat} {dp : Int} {ng tr : Bool} {X f : Nat} (h : Fw w wr g A nd dp ng tr X f) (hf : 800 ≤ f) (h0 : sdg X f = 0) :
    Fw w wr g A nd dp ng tr X (f + 1) := by
  obtain ⟨A', t', h1, h2, h3, h4, h5⟩ := h
  refine ⟨A', t', h1, fun p p1 p2 => h2 p (by omega) p2, fun p hp => h3 p (by omega), ?_, h5⟩
  rw [h4]
  constructor
  · rintro (h | ⟨p, p1, p2, p3⟩)
    · exact .inl h
    · exact .inr ⟨p, p1, by omega, p3⟩
  · rintro (h | ⟨p, p1, p2, p3⟩)
    · exact .inl h
    · by_cases ep : p = f
      · rw [ep] at p3; exact absurd h0 p3
      · exact .inr ⟨p, p1, by omega, p3⟩
theorem fw_lost {w wr : World} {g : Nat} {A : Nat → Nat} {nd : Nat} {dp : Int} {ng tr : Bool} {X f : Nat} (h : Fw w wr g A nd dp ng tr X f) (hf : 800 ≤ f) (h0 : sdg X f ≠ 0) :
    Fw w (wr.setCell ⟨g, 803, none⟩ (.bool true)) g A nd dp ng tr X (f + 1) := by
  obtain ⟨A', t', h1, h2, h3, h4, h5⟩ := h
  refine ⟨A', true, set_tr h1 true, fun p p1 p2 => h2 p (by omega) p2, fun p hp => h3 p (by omega), ?_, h5.trans only_set⟩
  exact ⟨fun _ => .inr ⟨f, hf, by omega, h0⟩, fun _ => rfl⟩
theorem pk_le {k : Nat} (hk : k ≤ 60) : 2 ^ k ≤ 1152921504606846976 := by
  have h1 : 2 ^ k ≤ 2 ^ 60 := Nat.pow_le_pow_right (by decide) hk
  have h2 : (2 : Nat) ^ 60 = 1152921504606846976 := by decide
  omega
/-- The rounds that are left till nothing is. -/
def lft (k : Nat) : Nat → Nat → Nat
  | 0, _ => 0
  | m + 1, n => if n = 0 then 0 else lft k m (n % 2 ^ k * 10) + 1
/-- m rounds. -/
def itr (k : Nat) : Nat → Nat → Nat
  | 0, n => n
  | m + 1, n => itr k m (n % 2 ^ k * 10)
theorem lft_same {k m : Nat} : ∀ {F n : Nat}, m ≤ F → itr k m n = 0 → lft k F n = lft k m n := by
  induction m with
  | zero =>
    intro F n _ h
    have h : n = 0 := h
    cases F with
    | zero => rfl
    | succ F => rw [h]; rfl
  | succ m ih =>
    intro F n hF h
    cases F with
    | zero => omega
    | succ F =>
      unfold lft
      by_cases hn : n = 0
      · rw [if_pos hn, if_pos hn]
      · rw [if_neg hn, if_neg hn, ih (by omega) h]
theorem lft_less {k m n : Nat} (hm : m ≤ 1999) (hn : n ≠ 0) (h : itr k m (n % 2 ^ k * 10) = 0) : lft k 2000 (n % 2 ^ k * 10) < lft k 2000 n := by
  have e1 := lft_same (F := 2000) (by omega) h
  have e2 := lft_same (F := 1999) hm h
  have e3 : lft k 2000 n = lft k 1999 (n % 2 ^ k * 10) + 1 := by
    show (if n = 0 then 0 else lft k 1999 (n % 2 ^ k * 10) + 1) = _
    rw [if_neg hn]
  omega
theorem rest_past {N k R f : Nat} (hR : 1 ≤ R) (h : dlen (N * 5 ^ k) + (R - 1) = dlen N + k) (hf : dlen N ≤ R + f) : rest N k R (f + 1) = rest N k R f % 2 ^ k * 10 := by
  rw [(rest_digit hR h f).2, sdg_past _ _ hf, Nat.add_zero]
theorem rest_itr {N k R : Nat} (hR : 1 ≤ R) (h : dlen (N * 5 ^ k) + (R - 1) = dlen N + k) : ∀ (m f : Nat), dlen N ≤ R + f → itr k m (rest N k R f) = rest N k R (f + m) := by
  intro m
  induction m with
  | zero => intro f _; rfl
  | succ m ih =>
    intro f hf
    show itr k m (rest N k R f % 2 ^ k * 10) = _
    rw [← rest_past hR h hf, ih (f + 1) (by omega)]
    congr 1; omega
theorem rest_stop {N k R f : Nat} (hR : 1 ≤ R) (h : dlen (N * 5 ^ k) + (R - 1) = dlen N + k) (hf : dlen N ≤ R + f) (h0 : rest N k R f = 0) : ∀ i, f ≤ i → sdg (N * 5 ^ k) i = 0 := by
  have hz : ∀ d, rest N k R (f + d) = 0 := by
    intro d
    induction d with
    | zero => exact h0
    | succ d ih => rw [show f + (d + 1) = f + d + 1 from by omega, rest_past hR h (by omega), ih]; simp
  intro i hi
  rw [← (rest_digit hR h i).1, show i = f + (i - f) from by omega, hz]
  simp
theorem rest_down {N k R f : Nat} (hR : 1 ≤ R) (h : dlen (N * 5 ^ k) + (R - 1) = dlen N + k) (hf : dlen N ≤ R + f) (hm : dlen (N * 5 ^ k) ≤ 1999) (h0 : rest N k R f ≠ 0) :
    lft k 2000 (rest N k R (f + 1)) < lft k 2000 (rest N k R f) := by
  rw [rest_past hR h hf]
  refine lft_less hm h0 ?_
  rw [← rest_past hR h hf, rest_itr hR h _ _ (by omega), show f + 1 + dlen (N * 5 ^ k) = dlen (N * 5 ^ k) + (f + 1) from by omega]
  exact rest_zero hR h _
theorem and_mask {U k : Nat} (hU : U < 18446744073709551616) (hk : k ≤ 60) : bits .and .u64 (U : Int) ((2 ^ k - 1 : Nat) : Int) = ((U % 2 ^ k : Nat) : Int) := by
  have := pk_le hk
  have h := u64_and_nat U (2 ^ k - 1) hU (by omega)
  rw [Nat.and_two_pow_sub_one_eq_mod] at h
  exact h
set_option maxRecDepth 100000 in
set_option maxHeartbeats 4000000 in
theorem right146 (w : World) (g : Nat) (a : De) (ng : Bool) (k : Nat) (hk1 : 1 ≤ k) (hk : k ≤ 60) (h : Db w g a ng) (hdp : -3000 ≤ a.dp ∧ a.dp ≤ 3000) :
    Calls Tryz.prog 253 #[.pointer (some ⟨g, 0, none⟩), .int .u64 (k : Nat)] w fun e w' => e = .returned (.tuple #[]) ∧ Db w' g (a.shr k) ng ∧ Only w w' g := by
  obtain ⟨⟨hn, h8⟩, A, hD, hA⟩ := h
  obtain ⟨R, hR1, hR20, hRlo, hRhi⟩ := first_part (k := k) hn hk
  have hpos : dlen (a.n * 5 ^ k) + (R - 1) = dlen a.n + k := shr_pos hn (by rw [show R - 1 + 1 = R from by omega]; exact hRhi) hRlo
  have hdpe : a.dp - ((R : Int) - 1) = a.dp + ((dlen (a.n * 5 ^ k) : Int) - (dlen a.n : Int) - (k : Int)) := by omega
  have HT1 := Lib.hid (fun j (hj : j < R) => (show top a.n j < 2 ^ k from by
    have := top_le (n := a.n) (R - 1 - j) j
    rw [show j + (R - 1 - j) = R - 1 from by omega] at this
    omega))
  have HTR := Lib.hid hRhi
  have HTS := Lib.hid (fun j => top_succ a.n j)
  have HTP := Lib.hid (fun j (hj : dlen a.n ≤ j) => (show top a.n j ≠ 0 ∧ top a.n (j + 1) = top a.n j * 10 from by
    have h1 := dlen_one hn
    have h2 := top_first hn (j - 1)
    rw [show j - 1 + 1 = j from by omega] at h2
    have := p10 (j - 1)
    exact ⟨by omega, by rw [top_succ, sdg_past _ _ hj]; rfl⟩))
  have HRL := Lib.hid (fun f => rest_lt hR1 hpos hRlo f)
  have HRD := Lib.hid (fun f => rest_digit hR1 hpos f)
  have HRP := Lib.hid (fun f (hf : dlen a.n ≤ R + f) => rest_past hR1 hpos hf)
  have HRS := Lib.hid (fun f (hf : dlen a.n ≤ R + f) => rest_stop hR1 hpos hf)
  have HRW := Lib.hid (fun f (hf : dlen a.n ≤ R + f) => rest_down hR1 hpos hf (show dlen (a.n * 5 ^ k) ≤ 1999 by omega))
  have HR0 : Hid (rest a.n k R 0 = top a.n R) := Lib.hid (by unfold rest; exact if_pos rfl)
  have hX0 : a.n * 5 ^ k ≠ 0 := by have := Nat.pow_pos (n := k) (show 0 < 5 by decide); intro h0; rcases Nat.mul_eq_zero.1 h0 with h | h; exact hn h; omega
  have hpk := pk_le hk
  have hp1 : 1 ≤ 2 ^ k := Nat.pow_pos (by decide)
  have hM : IntKind.u64.wrap (IntKind.u64.wrap (2 ^ k) - 1) = ((2 ^ k - 1 : Nat) : Int) := by
    have e1 : (2 : Int) ^ k = ((2 ^ k : Nat) : Int) := by push_cast; rfl
    rw [e1, IntKind.wrap_u64, IntKind.wrap_u64]; omega
  have HAM := Lib.hid (fun U (hU : U < 18446744073709551616) => and_mask (U := U) hU hk)
  obtain ⟨M, hMe⟩ : ∃ M, M = 2 ^ k - 1 := ⟨_, rfl⟩
  rw [← hMe] at hM HAM
  have H := Lib.hid hD
  have HA := Lib.hid hA
  obtain ⟨dp, hdpl⟩ : ∃ dp, dp = a.dp := ⟨_, rfl⟩
  have HE : Hid (∀ w', Db w' g ⟨keep (a.n * 5 ^ k), dp - ((R : Int) - 1), a.tr || gone (a.n * 5 ^ k)⟩ ng → Db w' g (a.shr k) ng) := Lib.hid (by
    intro w' h
    rw [hdpl, hdpe] at h
    exact h)
  obtain ⟨tr, htr⟩ : ∃ tr, tr = a.tr := ⟨_, rfl⟩
  obtain ⟨Q, hQ⟩ : ∃ Q : World → Prop, Q = fun w' => Db w' g (a.shr k) ng := ⟨_, rfl⟩
  have HQ : Hid (∀ w', Db w' g (a.shr k) ng → Q w') := Lib.hid (fun w' h => by rw [hQ]; exact h)
  suffices hs : Calls Tryz.prog 253 #[.pointer (some ⟨g, 0, none⟩), .int .u64 (k : Nat)] w fun e w' => e = .returned (.tuple #[]) ∧ Q w' ∧ Only w w' g by
    rw [hQ] at hs; exact hs
  obtain ⟨X, hX⟩ : ∃ X, X = a.n * 5 ^ k := ⟨_, rfl⟩
  obtain ⟨nd, hnd⟩ : ∃ nd, nd = dlen a.n := ⟨_, rfl⟩
  rw [← hnd] at H HA HTP HRP HRS HRW h8
  rw [← htr] at HE H
  rw [← hdpl] at H hdp
  rw [← hX] at HRD HRS HE hX0
  have c0 := H.out.c0
  have hndp : 1 ≤ nd := by rw [hnd]; exact dlen_one hn
  obtain ⟨N, hN⟩ : ∃ N, N = a.n := ⟨_, rfl⟩
  rw [← hN] at HT1 HTR HTS HTP HA HRL HRD HRP HRS HRW HR0
  have HXN := Lib.hid hX0
  clear hD hA hn hRlo hRhi hpos hX hdpe hN hnd hX0 htr hdpl hQ hMe
  obtain ⟨hdp1, hdp2⟩ := hdp
  go_enter Tryz.func253, Tryz.ntmps253
  go_upto_block 0 with (fail)
  go_cut [4, 6] (fun r n wx => r = .int .i64 (R : Nat) ∧ n = .int .u64 (top N R : Nat) ∧ wx = w)
  case first =>
    go_wp2_with fail
    go_loopw [4, 6, 7] (fun r n _ wr => ∃ j : Nat, j ≤ R ∧ r = .int .i64 (j : Nat) ∧ n = .int .u64 (top N j : Nat) ∧ wr = w) (fun r _ _ _ => R - (intOf r).toNat)
    case atStart => exact ⟨0, Nat.zero_le _, rfl, by rw [top_zero]; rfl, by first | rfl | trivial⟩
    case round =>
      obtain ⟨j, hj, rfl, rfl, rfl⟩ := hrel
      obtain ⟨T, hT⟩ : ∃ T, T = top N j := ⟨_, rfl⟩
      have HTT := Lib.hid hT
      rw [← hT]
      by_cases hjR : j < R
      · have h1 := HT1.out j hjR
        rw [← hT] at h1
        have hq0 : T / 2 ^ k = 0 := Nat.div_eq_of_lt h1
        have dq : ((T : Int) / 2 ^ k == 0) = true := by
          have : ((T : Int) / 2 ^ k) = ((T / 2 ^ k : Nat) : Int) := by push_cast; rfl
          rw [this, hq0]; rfl
        have hTs := HTS.out j
        have bT : T < 1152921504606846976 := by omega
        by_cases hjn : j < nd
        · obtain ⟨D, hDe⟩ : ∃ D, D = sdg N j := ⟨_, rfl⟩
          rw [← hDe, ← hT] at hTs
          have bD : D < 10 := by rw [hDe]; exact sdg_lt _ _
          obtain ⟨C, hC⟩ : ∃ C, C = A j := ⟨_, rfl⟩
          have eC : C = 48 + D := by rw [hC, HA.out j hjn, hDe]
          have y0 := (H.out.d j (by omega)).1
          rw [← hC] at y0
          have j8 : j < 800 := by omega
          have bC : C < 58 := by omega
          have bC2 : 48 ≤ C := by omega
          obtain ⟨T2, hT2⟩ : ∃ T2, T2 = top N (j + 1) := ⟨_, rfl⟩
          rw [← hT2] at hTs
          have HT2 := Lib.hid hT2
          have eT2 : (T : Int) * 10 + (C : Int) - 48 = (T2 : Int) := by omega
          have dn : decide ((j : Int) ≥ (nd : Int)) = false := by simp; omega
          clear hT hq0 hT2 hTs hDe hC eC h1
          go_wp2_with fail
          go_roundw
          case rel => exact ⟨j + 1, by omega, by congr 1, by rw [← HT2.out], by first | rfl | trivial⟩
          case measure => simp [intOf]; omega
        · have T0 := (HTP.out j (by omega)).1
          rw [← HTT.out] at T0
          have t0 : ((T : Int) == 0) = false := by simp; omega
          have dn : decide ((j : Int) ≥ (nd : Int)) = true := by simp; omega
          clear T0 h1 hTs hT hq0 bT
          go_wp2_with fail
          obtain ⟨wa, rfl⟩ : ∃ wa, wa = wr := ⟨_, rfl⟩
          go_loopw [4, 6] (fun r n wx => ∃ q : Nat, j ≤ q ∧ q ≤ R ∧ r = .int .i64 (q : Nat) ∧ n = .int .u64 (top N q : Nat) ∧ wx = wa) (fun r _ _ => R - (intOf r).toNat)
          case atStart => exact ⟨j, Nat.le_refl _, hj, rfl, by rw [HTT.out], rfl⟩
          case round =>
            obtain ⟨q, hq1, hq2, rfl, rfl, rfl⟩ := hrel
            obtain ⟨S, hS⟩ : ∃ S, S = top N q := ⟨_, rfl⟩
            rw [← hS]
            by_cases hqR : q < R
            · have h1 := HT1.out q hqR
              rw [← hS] at h1
              have hq0 : S / 2 ^ k = 0 := Nat.div_eq_of_lt h1
              have dq : ((S : Int) / 2 ^ k == 0) = true := by
                have : ((S : Int) / 2 ^ k) = ((S / 2 ^ k : Nat) : Int) := by push_cast; rfl
                rw [this, hq0]; rfl
              have hs := (HTP.out q (by omega)).2
              rw [← hS] at hs
              have bS : S < 1152921504606846976 := by omega
              obtain ⟨S2, hS2⟩ : ∃ S2, S2 = top N (q + 1) := ⟨_, rfl⟩
              rw [← hS2] at hs
              have HS2 := Lib.hid hS2
              have eS2 : (S : Int) * 10 = (S2 : Int) := by omega
              clear hS hq0 hS2 hs h1
              go_wp2_with fail
              go_roundw
              case rel => exact ⟨q + 1, by omega, by omega, by congr 1, by rw [← HS2.out], by first | rfl | trivial⟩
              case measure => simp [intOf]; omega
            · obtain rfl : q = R := by omega
              have h2 := HTR.out
              rw [← hS] at h2
              have dq : ((S : Int) / 2 ^ k == 0) = false := by
                have e : ((S : Int) / 2 ^ k) = ((S / 2 ^ k : Nat) : Int) := by push_cast; rfl
                have h3 : 0 < S / 2 ^ k := Nat.div_pos h2 (Nat.pow_pos (by decide))
                rw [e]; simp; omega
              have HSS := Lib.hid hS
              clear hS h2
              go_wp2_with fail
              go_meet
              exact ⟨rfl, by rw [HSS.out], rfl⟩
      · obtain rfl : j = R := by omega
        have h2 := HTR.out
        rw [← hT] at h2
        have dq : ((T : Int) / 2 ^ k == 0) = false := by
          have e : ((T : Int) / 2 ^ k) = ((T / 2 ^ k : Nat) : Int) := by push_cast; rfl
          have h3 : 0 < T / 2 ^ k := Nat.div_pos h2 (Nat.pow_pos (by decide))
          rw [e]; simp; omega
        clear hT h2
        go_wp2_with fail
        go_meet
        exact ⟨rfl, by rw [HTT.out], rfl⟩
  case rest =>
    obtain ⟨rfl, rfl, rfl⟩ := hcut
    have x1 := H.out.c1
    have f1 := H.out.z1
    go_upto_block 4 with (fail)
    obtain ⟨dq, hdq⟩ : ∃ dq, dq = dp - ((R : Int) - 1) := ⟨_, rfl⟩
    rw [← hdq]
    rw [← hdq] at HE
    obtain ⟨w1, hw1⟩ : ∃ w1, w1 = wc.setCell ⟨g, 801, none⟩ (.int .i64 dq) := ⟨_, rfl⟩
    rw [← hw1]
    have H1 : Hid (Dh w1 g A nd dq ng tr) := Lib.hid (by rw [hw1]; exact set_dp H.out _)
    have O1 : Hid (Only wc w1 g) := Lib.hid (by rw [hw1]; exact only_set)
    clear hw1 x1 f1 c0 hM hdq hdp1 hdp2
    go_wp2_with fail
    go_loopw [4, 5, 6, 9, 10] (fun r wv nv _ _ wr => ∃ f, f ≤ nd - R ∧ r = .int .i64 ((R + f : Nat) : Int) ∧ wv = .int .i64 (f : Nat) ∧ nv = .int .u64 (rest N k R f : Nat) ∧ Fw w1 wr g A nd dq ng tr X f) (fun _ wv _ _ _ _ => nd - (intOf wv).toNat)
    case atStart => exact ⟨0, Nat.zero_le _, rfl, rfl, by rw [HR0.out], fw_zero H1.out (Only.refl _ _)⟩
    case round =>
      obtain ⟨f, hf, rfl, rfl, rfl, hF⟩ := hrel
      have HF := Lib.hid hF
      obtain ⟨A', t', hD, h2, h3, h4, hO⟩ := hF
      have y0 := hD.c0
      obtain ⟨U, hU⟩ : ∃ U, U = rest N k R f := ⟨_, rfl⟩
      have HU := Lib.hid hU
      by_cases hfn : R + f < nd
      · have y1 := (hD.d (R + f) (by omega)).1
        have y2 := (hD.d f (by omega)).1
        have y3 := (hD.d f (by omega)).2
        obtain ⟨D, hDe⟩ : ∃ D, D = sdg N (R + f) := ⟨_, rfl⟩
        have bD : D < 10 := by rw [hDe]; exact sdg_lt _ _
        obtain ⟨C, hC⟩ : ∃ C, C = A' (R + f) := ⟨_, rfl⟩
        have eC : C = 48 + D := by rw [hC, h3 (R + f) (by omega), HA.out (R + f) hfn, hDe]
        rw [← hC] at y1
        obtain ⟨q1, q2⟩ := HRD.out f
        rw [← hU] at q1 q2 ⊢
        rw [← hDe] at q2
        have bU := HRL.out f
        rw [← hU] at bU
        have aU := HAM.out U (by omega)
        obtain ⟨E, hE⟩ : ∃ E, E = sdg X f := ⟨_, rfl⟩
        have bE : E < 10 := by rw [hE]; exact sdg_lt _ _
        rw [← hE] at q1
        have hq : (U : Int) / 2 ^ k = (E : Int) := by rw [← q1]; push_cast; rfl
        have bV : U % 2 ^ k < 2 ^ k := Nat.mod_lt _ hp1
        obtain ⟨V, hV⟩ : ∃ V, V = U % 2 ^ k := ⟨_, rfl⟩
        rw [← hV] at q2 aU bV
        obtain ⟨U2, hU2⟩ : ∃ U2, U2 = rest N k R (f + 1) := ⟨_, rfl⟩
        have HU2 := Lib.hid hU2
        rw [← hU2] at q2
        have bV2 : V < 1152921504606846976 := by omega
        have eU2 : (V : Int) * 10 + (C : Int) - 48 = (U2 : Int) := by omega
        obtain ⟨Y, hY⟩ : ∃ Y, Y = 48 + sdg X f := ⟨_, rfl⟩
        have HY := Lib.hid hY
        have eY : (E : Int) + 48 = (Y : Int) := by rw [hY, ← hE]; omega
        have bY : Y < 58 := by rw [hY, ← hE]; omega
        have bC : C < 58 := by omega
        have bC2 : 48 ≤ C := by omega
        obtain ⟨s, hs⟩ : ∃ s, s = R + f := ⟨_, rfl⟩
        have HSV := Lib.hid hs
        rw [← hs] at y1 ⊢
        have bs : s < nd := by omega
        have dl : decide ((s : Int) < (nd : Int)) = true := by simp; omega
        have f8 : f < 800 := by omega
        have s8 : s < 800 := by omega
        have bU2 : U < 18446744073709551616 := by omega
        clear hD h2 h3 h4 hO hDe hC eC q1 q2 hE hV hU2 hY hs hU hfn bV bU hf
        go_wp2_with fail
        go_roundw
        case rel =>
          have a := fw_low HF.out f8
          rw [← HY.out] at a
          have := HSV.out
          exact ⟨f + 1, by omega, by congr 1; omega, by congr 1, by rw [← HU2.out], a⟩
        case measure => simp [intOf]; have := HSV.out; omega
      · obtain ⟨s, hs⟩ : ∃ s, s = R + f := ⟨_, rfl⟩
        have hs2 : nd ≤ s := by omega
        have HSN : Hid (nd ≤ R + f) := Lib.hid (by omega)
        have dl : decide ((s : Int) < (nd : Int)) = false := by simp; omega
        have f8 : f ≤ 800 := by omega
        rw [← hs, ← hU]
        clear hD h2 h3 h4 hO hs hU hfn hf
        go_wp2_with fail
        go_loopw [5, 6, 11] (fun wv nv _ wx => ∃ e, nd ≤ R + e ∧ wv = .int .i64 ((min e 800 : Nat) : Int) ∧ nv = .int .u64 (rest N k R e : Nat) ∧ Fw w1 wx g A nd dq ng tr X e) (fun _ nv _ _ => lft k 2000 (intOf nv).toNat)
        case atStart => exact ⟨f, HSN.out, by congr 1; omega, by rw [HU.out], HF.out⟩
        case round =>
          clear HF HU y0
          obtain ⟨e, he, rfl, rfl, hF⟩ := hrel
          have HF := Lib.hid hF
          obtain ⟨A', t', hD, h2, h3, h4, hO⟩ := hF
          have HEN := Lib.hid he
          by_cases hz : rest N k R e = 0
          · have y0 := hD.c0
            have y1 := hD.z0
            have HD := Lib.hid hD
            have H2 := Lib.hid h2
            have H4 := Lib.hid h4
            have HO := Lib.hid hO
            have HZ := Lib.hid (HRS.out e he hz)
            have HE1 : Hid (1 ≤ e) := Lib.hid (by
              cases e with
              | zero => rw [HR0.out] at hz; have := HTR.out; omega
              | succ e => omega)
            rw [hz]
            obtain ⟨m, hm⟩ : ∃ m, m = min e 800 := ⟨_, rfl⟩
            have HM := Lib.hid hm
            have bm : m ≤ 800 := by omega
            rw [← hm]
            clear hD h2 h3 h4 hO hz he hm
            go_wp2_with fail
            refine (trim144 _ g A' m dq ng t' ?_ bm).mono ?_
            · exact set_nd HD.out m
            · rintro x w9 ⟨rfl, hd9, ho9⟩
              go_wp2_with fail
              go_end0
              have em := HM.out
              have e1 := HE1.out
              refine ⟨rfl, HQ.out _ (HE.out _ (db_of (A := A') (t := t') (m := m) HXN.out (by omega) bm (fun i h1 h8 => HZ.out i (by omega)) hd9 (fun p hp => H2.out p (by omega) (by omega)) ?_)), ((O1.out.trans HO.out).trans only_set).trans ho9⟩
              rw [H4.out]
              constructor
              · rintro (h | ⟨p, p1, p2, p3⟩)
                · exact .inl h
                · exact .inr ⟨p, p1, p3⟩
              · rintro (h | ⟨p, p1, p3⟩)
                · exact .inl h
                · refine .inr ⟨p, p1, ?_, p3⟩
                  by_cases hpe : p < e
                  · exact hpe
                  · exact absurd (HZ.out p (by omega)) p3
          · have hW := HRW.out e he hz
            have HW := Lib.hid hW
            have hP := HRP.out e he
            have q1 := (HRD.out e).1
            have bU := HRL.out e
            obtain ⟨U, hU⟩ : ∃ U, U = rest N k R e := ⟨_, rfl⟩
            rw [← hU] at hP q1 bU hz HW ⊢
            have aU := HAM.out U (by omega)
            obtain ⟨E, hE⟩ : ∃ E, E = sdg X e := ⟨_, rfl⟩
            have bE : E < 10 := by rw [hE]; exact sdg_lt _ _
            rw [← hE] at q1
            have hq : (U : Int) / 2 ^ k = (E : Int) := by rw [← q1]; push_cast; rfl
            have bV : U % 2 ^ k < 2 ^ k := Nat.mod_lt _ hp1
            obtain ⟨V, hV⟩ : ∃ V, V = U % 2 ^ k := ⟨_, rfl⟩
            rw [← hV] at hP aU bV
            obtain ⟨U2, hU2⟩ : ∃ U2, U2 = rest N k R (e + 1) := ⟨_, rfl⟩
            have HU2 := Lib.hid hU2
            rw [← hU2] at hP HW
            have bV2 : V < 1152921504606846976 := by omega
            have eU2 : (V : Int) * 10 = (U2 : Int) := by omega
            have bU2 : U < 18446744073709551616 := by omega
            have bU0 : 0 < U := by omega
            have dU : (0 : Int) < (U : Int) := by omega
            have HEE := Lib.hid hE
            by_cases he8 : e < 800
            · have y2 := (hD.d e he8).1
              have y3 := (hD.d e he8).2
              obtain ⟨Y, hY⟩ : ∃ Y, Y = 48 + sdg X e := ⟨_, rfl⟩
              have HY := Lib.hid hY
              have eY : (E : Int) + 48 = (Y : Int) := by rw [hY, ← hE]; omega
              have bY : Y < 58 := by rw [hY, ← hE]; omega
              rw [show min e 800 = e from by omega]
              clear hD h2 h3 h4 hO q1 hE hV hU2 hY hU hz bV bU hW hP bU0 he
              go_wp2_with fail
              go_roundw
              case rel =>
                have a := fw_low HF.out he8
                rw [← HY.out] at a
                have := HEN.out
                exact ⟨e + 1, by omega, by congr 1; omega, by rw [← HU2.out], a⟩
              case measure => simpa [intOf] using HW.out
            · rw [show ((min e 800 : Nat) : Int) = 800 from by omega]
              have h8 : 800 ≤ e := by omega
              have y2 := hD.c3
              have y3 := hD.z3
              by_cases hE0 : E = 0
              · rw [hE0] at hq
                have hq : (U : Int) / 2 ^ k = 0 := hq
                have HE0 := Lib.hid hE0
                clear hD h2 h3 h4 hO q1 hE hV hU2 hU hz bV bU hW hP bU0 he hE0 he8
                go_wp2_with fail
                go_roundw
                case rel =>
                  have a := fw_nought HF.out h8 (by rw [← HEE.out, HE0.out])
                  have := HEN.out
                  exact ⟨e + 1, by omega, by congr 1; omega, by rw [← HU2.out], a⟩
                case measure => simpa [intOf] using HW.out
              · have dE : (0 : Int) < (E : Int) := by omega
                have HE0 := Lib.hid hE0
                clear hD h2 h3 h4 hO q1 hE hV hU2 hU hz bV bU hW hP bU0 he hE0 he8
                go_wp2_with fail
                go_roundw
                case rel =>
                  have a := fw_lost HF.out h8 (by rw [← HEE.out]; exact HE0.out)
                  have := HEN.out
                  exact ⟨e + 1, by omega, by congr 1; omega, by rw [← HU2.out], a⟩
                case measure => simpa [intOf] using HW.out
end Dc
end Go.Proofs.YtbnicnhkakbglaaGreatDoor
