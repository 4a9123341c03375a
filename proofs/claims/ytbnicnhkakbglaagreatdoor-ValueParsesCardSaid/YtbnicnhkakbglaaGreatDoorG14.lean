import Derived.Test.YtbnicnhkakbglaaGreatDoorG11
import Derived.Test.YtbnicnhkakbglaaGreatDoorG01

/- leftShift. -/
namespace Go.Proofs.YtbnicnhkakbglaaGreatDoor
open Go.RowKit
namespace Dc
open Us Dm

theorem set_d {w : World} {g : Nat} {A : Nat → Nat} {nd : Nat} {dp : Int} {ng tr : Bool} (h : Dh w g A nd dp ng tr) (i x : Nat) (hi : i < 800) : Dh (w.setCell ⟨g, i, none⟩ (.int .u8 (x : Nat))) g (fun j => if j = i then x else A j) nd dp ng tr := by
  refine ⟨by simpa using h.lt, fun j hj => ⟨?_, by simpa using (h.d j hj).2⟩, ?_, ?_, ?_, ?_, by simpa using h.z0, by simpa using h.z1, by simpa using h.z2, by simpa using h.z3⟩
  · by_cases e : j = i
    · subst e
      rw [cell_same (h.d j hj).1]
      simp
    · rw [cell_other (by simp <;> omega), if_neg e]; exact (h.d j hj).1
  · rw [cell_other (by simp <;> omega)]; exact h.c0
  · rw [cell_other (by simp <;> omega)]; exact h.c1
  · rw [cell_other (by simp <;> omega)]; exact h.c2
  · rw [cell_other (by simp <;> omega)]; exact h.c3
theorem set_tr {w : World} {g : Nat} {A : Nat → Nat} {nd : Nat} {dp : Int} {ng tr : Bool} (h : Dh w g A nd dp ng tr) (t : Bool) : Dh (w.setCell ⟨g, 803, none⟩ (.bool t)) g A nd dp ng t := by
  refine ⟨by simpa using h.lt, fun i hi => ⟨?_, by simpa using (h.d i hi).2⟩, ?_, ?_, ?_, cell_same h.c3, by simpa using h.z0, by simpa using h.z1, by simpa using h.z2, by simpa using h.z3⟩
  · rw [cell_other (by simp <;> omega)]; exact (h.d i hi).1
  · rw [cell_other (by simp)]; exact h.c0
  · rw [cell_other (by simp)]; exact h.c1
  · rw [cell_other (by simp)]; exact h.c2

/-- The table of the left shifts. -/
def LT (w : World) (dlv : Nat → Nat) (CS : Nat → ByteArray) : Prop :=
  16 < w.heap.size ∧ ∃ tb ob, w.cell? ⟨16, 0, none⟩ = some (.slice (some ⟨tb, ob, none⟩) 61 61) ∧ tb < w.heap.size ∧ ∀ k, k ≤ 60 → w.cell? ⟨tb, ob + k * 2, none⟩ = some (.int .i64 (dlv k : Nat)) ∧ w.cell? ⟨tb, ob + k * 2 + 1, none⟩ = some (.string (CS k))
/-- What the table holds. -/
def LF (dlv l5v : Nat → Nat) (CS : Nat → ByteArray) : Prop := ∀ k, 1 ≤ k → k ≤ 60 → Cheat k (dlv k) (l5v k) ∧ l5v k ≤ 800 ∧ sdg (5 ^ k) (l5v k - 1) ≠ 0 ∧ (CS k).size = l5v k ∧ ∀ (i : Nat) (hi : i < (CS k).size), ((CS k)[i]'hi).toNat = 48 + sdg (5 ^ k) i

/-- What stands behind e digits from the right. -/
def At (w w' : World) (g : Nat) (A : Nat → Nat) (nd : Nat) (dp : Int) (ng tr : Bool) (X TT e : Nat) : Prop :=
  ∃ A' t', Dh w' g A' nd dp ng t' ∧ (∀ p, TT - e ≤ p → p < TT → p < 800 → A' p = 48 + sdg X p) ∧ (∀ p, p < nd - e → A' p = A p) ∧
    (t' = true ↔ tr = true ∨ ∃ p, 800 ≤ p ∧ TT - e ≤ p ∧ p < TT ∧ sdg X p ≠ 0) ∧ Only w w' g
theorem at_low {w wr : World} {g : Nat} {A : Nat → Nat} {nd : Nat} {dp : Int} {ng tr : Bool} {X TT e : Nat} (h : At w wr g A nd dp ng tr X TT e) (he : e < TT) (hndT : nd ≤ TT) (hlow : TT - (e + 1) < 800) :
    At w (wr.setCell ⟨g, TT - (e + 1), none⟩ (.int .u8 ((48 + sdg X (TT - (e + 1)) : Nat) : Int))) g A nd dp ng tr X TT (e + 1) := by
  obtain ⟨A', t', h1, h2, h3, h4, h5⟩ := h
  refine ⟨_, t', set_d h1 _ _ hlow, fun p p1 p2 p3 => ?_, fun p hp => ?_, ?_, h5.trans only_set⟩
  · by_cases ep : p = TT - (e + 1)
    · rw [if_pos ep, ep]
    · rw [if_neg ep]; exact h2 p (by omega) p2 p3
  · rw [if_neg (by omega)]; exact h3 p (by omega)
  · rw [h4]
    constructor
    · rintro (h | ⟨p, p1, p2, p3, p4⟩)
      · exact .inl h
      · exact .inr ⟨p, p1, by omega, p3, p4⟩
    · rintro (h | ⟨p, p1, p2, p3, p4⟩)
      · exact .inl h
      · exact .inr ⟨p, p1, by omega, p3, p4⟩
theorem at_nought {w wr : World} {g : Nat} {A : Nat → Nat} {nd : Nat} {dp : Int} {ng tr : Bool} {X TT e : Nat} (h : At w wr g A nd dp ng tr X TT e) (he : e < TT) (hhigh : 800 ≤ TT - (e + 1)) (h0 : sdg X (TT - (e + 1)) = 0) :
    At w wr g A nd dp ng tr X TT (e + 1) := by
  obtain ⟨A', t', h1, h2, h3, h4, h5⟩ := h
  refine ⟨A', t', h1, fun p p1 p2 p3 => h2 p (by omega) p2 p3, fun p hp => h3 p (by omega), ?_, h5⟩
  rw [h4]
  constructor
  · rintro (h | ⟨p, p1, p2, p3, p4⟩)
    · exact .inl h
    · exact .inr ⟨p, p1, by omega, p3, p4⟩
  · rintro (h | ⟨p, p1, p2, p3, p4⟩)
    · exact .inl h
    · refine .inr ⟨p, p1, ?_, p3, p4⟩
      by_cases ep : p = TT - (e + 1)
      · rw [ep] at p4; exact absurd h0 p4
      · omega
theorem at_lost {w wr : World} {g : Nat} {A : Nat → Nat} {nd : Nat} {dp : Int} {ng tr : Bool} {X TT e : Nat} (h : At w wr g A nd dp ng tr X TT e) (he : e < TT) (hhigh : 800 ≤ TT - (e + 1)) (h0 : sdg X (TT - (e + 1)) ≠ 0) :
    At w (wr.setCell ⟨g, 803, none⟩ (.bool true)) g A nd dp ng tr X TT (e + 1) := by
  obtain ⟨A', t', h1, h2, h3, h4, h5⟩ := h
  refine ⟨A', true, set_tr h1 true, fun p p1 p2 p3 => h2 p (by omega) p2 p3, fun p hp => h3 p (by omega), ?_, h5.trans only_set⟩
  exact ⟨fun _ => .inr ⟨_, hhigh, Nat.le_refl _, by omega, h0⟩, fun _ => rfl⟩

set_option maxRecDepth 100000 in
set_option maxHeartbeats 2000000 in
theorem left145 (w : World) (g : Nat) (A : Nat → Nat) (n : Nat) (dp : Int) (ng tr : Bool) (k : Nat) (dlv l5v : Nat → Nat) (CS : Nat → ByteArray) (hT : LT w dlv CS) (hF : LF dlv l5v CS) (hk1 : 1 ≤ k) (hk : k ≤ 60)
    (h : Dh w g A (dlen n) dp ng tr) (hn : n ≠ 0) (hn8 : dlen n ≤ 800) (hA : ∀ i, i < dlen n → A i = 48 + sdg n i) (hdp : -3000 ≤ dp ∧ dp ≤ 3000) :
    Calls Tryz.prog 252 #[.pointer (some ⟨g, 0, none⟩), .int .u64 (k : Nat)] w fun e w' => e = .returned (.tuple #[]) ∧
      ∃ A' t', Dh w' g A' (tz A' (min (dlen (n * 2 ^ k)) 800)) (tdp (tz A' (min (dlen (n * 2 ^ k)) 800)) (dp + ((dlen (n * 2 ^ k) : Int) - (dlen n : Int)))) ng t' ∧
        (∀ p, p < min (dlen (n * 2 ^ k)) 800 → A' p = 48 + sdg (n * 2 ^ k) p) ∧ (t' = true ↔ tr = true ∨ ∃ p, 800 ≤ p ∧ p < dlen (n * 2 ^ k) ∧ sdg (n * 2 ^ k) p ≠ 0) ∧ ∃ m, Only (w.drewN m) w' g := by
  obtain ⟨cT, f8, f5, fs, fc⟩ := hF k hk1 hk
  obtain ⟨_, tb, ob, t0, htb, tall⟩ := hT
  obtain ⟨t1, t2⟩ := tall k hk
  clear tall
  have F156 : Hid (∀ y, Calls Tryz.prog 261 #[.slice (some ⟨g, 0, none⟩) (dlen n) 800, .string (CS k)] (w.drewN y) fun e w' => e = .returned (.bool (less n k (l5v k))) ∧ ∃ m, w' = (w.drewN y).drewN m) :=
    Lib.hid fun y => prefix156 (w.drewN y) g 800 n (5 ^ k) (l5v k) (CS k) hn8 hn8 cT.five f8 f5 fs fc (fun i hi => by rw [← hA i hi]; exact (h.d i (by omega)).1)
  have hlen := shl_len hn cT
  have hlenX : dlen (n * 2 ^ k) ≤ 861 := by
    have : dlv k ≤ 61 := by have := cT.len; omega
    omega
  have hge : dlen n ≤ dlen (n * 2 ^ k) := dlen_mono (Nat.le_mul_of_pos_right _ (Nat.pow_pos (by decide)))
  have hone := cT.one
  have hdl9 : dlv k ≤ 61 := by have := cT.len; omega
  have H := Lib.hid h
  have HA := Lib.hid hA
  have c0 := h.c0
  have HX : Hid (∀ e, e < dlen (n * 2 ^ k) → n * 2 ^ k / 10 ^ e % 10 = sdg (n * 2 ^ k) (dlen (n * 2 ^ k) - (e + 1))) := Lib.hid fun e he => by
    rw [sdg_right _ _ (by omega), show dlen (n * 2 ^ k) - 1 - (dlen (n * 2 ^ k) - (e + 1)) = e from by omega]
  have HN : Hid (∀ e, e < dlen n → n / 10 ^ e % 10 = sdg n (dlen n - (e + 1))) := Lib.hid fun e he => by
    rw [sdg_right _ _ (by omega), show dlen n - 1 - (dlen n - (e + 1)) = e from by omega]
  have HPOS : Hid (∀ e, e < dlen (n * 2 ^ k) ↔ 0 < n * 2 ^ k / 10 ^ e) := Lib.hid fun e => by
    have hX0 : n * 2 ^ k ≠ 0 := by have := Nat.pow_pos (n := k) (show 0 < 2 by decide); intro h0; rcases Nat.mul_eq_zero.1 h0 with h | h; exact hn h; omega
    constructor
    · intro he
      exact Nat.div_pos (Nat.le_trans (Nat.pow_le_pow_right (by decide) (by omega)) (dlen_le hX0)) (p10 _)
    · intro h0
      by_cases he : e < dlen (n * 2 ^ k)
      · exact he
      · rw [Nat.div_eq_of_lt (Nat.lt_of_lt_of_le (lt_dlen _) (Nat.pow_le_pow_right (by decide) (by omega)))] at h0
        omega
  have HCA : Hid (carry n k (dlen n) = n * 2 ^ k / 10 ^ dlen n) := Lib.hid (carry_all k (Nat.le_refl _))
  have hpk : 2 ^ k ≤ 1152921504606846976 := by
    have h1 : 2 ^ k ≤ 2 ^ 60 := Nat.pow_le_pow_right (by decide) hk
    have h2 : (2 : Nat) ^ 60 = 1152921504606846976 := by decide
    omega
  obtain ⟨X, hXe⟩ : ∃ X, X = n * 2 ^ k := ⟨_, rfl⟩
  have HXE := Lib.hid hXe
  rw [← hXe] at hlen hlenX hge HX HPOS HCA ⊢
  obtain ⟨TT, hTT⟩ : ∃ TT, TT = dlen X := ⟨_, rfl⟩
  rw [← hTT] at hlen hlenX hge HX HPOS ⊢
  obtain ⟨nd, hnd⟩ : ∃ nd, nd = dlen n := ⟨_, rfl⟩
  have hndp : 1 ≤ nd := by rw [hnd]; exact dlen_one hn
  rw [← hnd] at F156 hlen hge H HA c0 hn8 HN HCA ⊢
  obtain ⟨B, hB⟩ : ∃ B, B = less n k (l5v k) := ⟨_, rfl⟩
  rw [← hB] at F156 hlen
  obtain ⟨DL, hDL⟩ : ∃ DL, DL = dlv k := ⟨_, rfl⟩
  rw [← hDL] at hlen hone t1 hdl9
  obtain ⟨SS, hSS⟩ : ∃ SS, SS = CS k := ⟨_, rfl⟩
  rw [← hSS] at t2 F156
  obtain ⟨hdp1, hdp2⟩ := hdp
  have hb8 : (nd : Int) ≤ 800 := by omega
  clear hXe hTT hnd hB hDL hSS cT f8 f5 fs fc h hA hn
  go_enter Tryz.func252, Tryz.ntmps252
  go_upto_region 1 with (fail)
  go_quiet (first | (go_at_call 261; exact Calls.quiet_of (F156.out _)))
  obtain ⟨w1, hw1⟩ : ∃ w1, w1 = w.drewN nq := ⟨_, rfl⟩
  have H1 : Hid (Dh w1 g A nd dp ng tr) := by rw [hw1]; exact Lib.hid (H.out.drewN _)
  have HW1 : Hid (∃ m, w1 = w.drewN m) := Lib.hid ⟨_, hw1⟩
  have d0 := H1.out.c0
  rw [← hw1]
  clear hw1 c0 t0 t1 t2 F156 H
  go_upto_if 30 with (fail)
  go_cut [4] (fun d wx => d = .int .i64 ((TT : Int) - (nd : Int)) ∧ wx = w1)
  case first =>
    cases B with
    | true =>
      go_wp2_with fail
      go_meet
      exact ⟨by congr 1; simp at hlen; omega, rfl⟩
    | false =>
      go_wp2_with fail
      go_meet
      exact ⟨by congr 1; simp at hlen; omega, rfl⟩
  case rest =>
    obtain ⟨rfl, rfl⟩ := hcut
    clear hlen hone hdl9
    have hw0 : (nd : Int) + ((TT : Int) - (nd : Int)) = (TT : Int) := by omega
    go_wp2_with fail
    go_loopw [5, 6, 7, 8, 9] (fun r wv nv _ _ wr => ∃ e, e ≤ nd ∧ r = .int .i64 ((nd : Int) - 1 - (e : Int)) ∧ wv = .int .i64 ((TT - e : Nat) : Int) ∧ nv = .int .u64 (carry n k e : Nat) ∧ At wc wr g A nd dp ng tr X TT e) (fun _ wv _ _ _ _ => (intOf wv).toNat)
    case atStart =>
      refine ⟨0, Nat.zero_le _, by congr 1; omega, by congr 1, ?_, A, tr, H1.out, fun p h1 h2 => by omega, fun _ _ => rfl, ?_, Only.refl _ _⟩
      · unfold carry; rw [Nat.pow_zero, Nat.mod_one, Nat.zero_mul, Nat.zero_div]; rfl
      · constructor
        · exact .inl
        · rintro (h | ⟨p, _, h1, h2, _⟩)
          · exact h
          · omega
    case round =>
      obtain ⟨e, he, rfl, rfl, rfl, hAt⟩ := hrel
      have HAT := Lib.hid hAt
      by_cases hen : e < nd
      · have HLT : Hid (e < TT) := Lib.hid (by omega)
        obtain ⟨A', t', hD, h2, h3, _, _⟩ := hAt
        have HDd := Lib.hid hD
        obtain ⟨j, hj⟩ : ∃ j, j = nd - (e + 1) := ⟨_, rfl⟩
        have hr : (nd : Int) - 1 - (e : Int) = (j : Int) := by omega
        have hj8 : j < 800 := by omega
        have ej : A' j = 48 + n / 10 ^ e % 10 := by rw [h3 j (by omega), HA.out j (by omega), HN.out e hen, hj]
        have e1 := (hD.d j hj8).1
        obtain ⟨st1, st2⟩ := carry_step n k e
        have hxe := HX.out e (by omega)
        rw [HXE.out] at hxe
        rw [← HXE.out] at hxe
        have bc := carry_lt n k e
        have hst2 : (carry n k e + n / 10 ^ e % 10 * 2 ^ k) % 10 = sdg X (TT - (e + 1)) := by rw [st2, ← HXE.out]; exact hxe
        have bdg : n / 10 ^ e % 10 < 10 := Nat.mod_lt _ (by decide)
        obtain ⟨dg, hdg⟩ : ∃ dg, dg = n / 10 ^ e % 10 := ⟨_, rfl⟩
        rw [← hdg] at ej st1 hst2 bdg
        obtain ⟨c, hc⟩ : ∃ c, c = carry n k e := ⟨_, rfl⟩
        rw [← hc] at st1 hst2 bc ⊢
        obtain ⟨c2, hc2⟩ : ∃ c2, c2 = carry n k (e + 1) := ⟨_, rfl⟩
        rw [← hc2] at st1
        have HC2 := Lib.hid hc2
        obtain ⟨P, hP⟩ : ∃ P, P = dg * 2 ^ k := ⟨_, rfl⟩
        have bP : P ≤ 9 * 1152921504606846976 := by rw [hP]; exact Nat.mul_le_mul (by omega) hpk
        have eP : (dg : Int) * 2 ^ k = (P : Int) := by rw [hP]; push_cast; rfl
        rw [← hP] at st1 hst2
        have bc' : c < 1152921504606846976 := Nat.lt_of_lt_of_le bc hpk
        obtain ⟨U, hU⟩ : ∃ U, U = c + P := ⟨_, rfl⟩
        have eU : (c : Int) + (P : Int) = (U : Int) := by omega
        have bU : U < 18446744073709551616 := by omega
        rw [← hU] at st1 hst2
        have hq1 : (U : Int) / 10 = (c2 : Int) := by omega
        obtain ⟨C, hC⟩ : ∃ C, C = A' j := ⟨_, rfl⟩
        rw [← hC] at e1 ej
        have hcd : (C : Int) - 48 = (dg : Int) := by omega
        have bC : C < 256 := by omega
        have bC2 : 48 ≤ C := by omega
        obtain ⟨t, hte⟩ : ∃ t, t = TT - (e + 1) := ⟨_, rfl⟩
        have HTE := Lib.hid hte
        obtain ⟨rm, hre⟩ : ∃ rm, rm = sdg X t := ⟨_, rfl⟩
        have HRE : Hid (rm = sdg X (TT - (e + 1))) := Lib.hid (by rw [hre, hte])
        have brm : rm < 10 := by rw [hre]; exact sdg_lt _ _
        obtain ⟨Y, hye⟩ : ∃ Y, Y = 48 + sdg X (TT - (e + 1)) := ⟨_, rfl⟩
        have HYE := Lib.hid hye
        have hyr : (rm : Int) + 48 = (Y : Int) := by rw [hye, ← HRE.out]; omega
        have bY : Y < 256 := by rw [hye]; have := sdg_lt X (TT - (e + 1)); omega
        have hwt : ((TT - e : Nat) : Int) - 1 = (t : Int) := by omega
        obtain ⟨tw, htw⟩ : ∃ tw, tw = TT - e := ⟨_, rfl⟩
        rw [← htw] at hwt ⊢
        have htw9 : tw ≤ 861 := by omega
        have hrm : (U : Int) - 10 * (c2 : Int) = (rm : Int) := by rw [hre, hte]; omega
        clear hD h2 h3 ej st1 st2 hxe bc hst2 hdg hc hc2 hP hU hC hte hre hye htw hj
        rw [hr]
        by_cases ht8 : t < 800
        · have cT' := HDd.out.d t ht8
          have y0 := cT'.1
          have y1 := cT'.2
          clear cT'
          go_wp2_with fail
          go_roundw
          case rel =>
            have a := at_low HAT.out HLT.out hge (by rw [← HTE.out]; exact ht8)
            rw [← HYE.out, ← HTE.out] at a
            exact ⟨e + 1, by omega, by congr 1; omega, by congr 1; have := HTE.out; omega, by rw [HC2.out], a⟩
          case measure => simp [intOf]; omega
        · by_cases hr0 : rm = 0
          · have m0 : ((rm : Int) != 0) = false := by simp; omega
            have HR0 := Lib.hid hr0
            clear hr0
            go_wp2_with fail
            go_roundw
            case rel =>
              have a := at_nought HAT.out HLT.out (by rw [← HTE.out]; omega) (by rw [← HRE.out, HR0.out])
              exact ⟨e + 1, by omega, by congr 1; omega, by congr 1; have := HTE.out; omega, by rw [HC2.out], a⟩
            case measure => simp [intOf]; omega
          · have m0 : ((rm : Int) != 0) = true := by simp; omega
            have HR0 := Lib.hid hr0
            have y0 := HDd.out.c3
            have y1 := HDd.out.z3
            clear hr0
            go_wp2_with fail
            go_roundw
            case rel =>
              have a := at_lost HAT.out HLT.out (by rw [← HTE.out]; omega) (by rw [← HRE.out]; exact HR0.out)
              exact ⟨e + 1, by omega, by congr 1; omega, by congr 1; have := HTE.out; omega, by rw [HC2.out], a⟩
            case measure => simp [intOf]; omega
      · obtain rfl : e = nd := by omega
        rw [HCA.out]
        have hneg : (e : Int) - 1 - (e : Int) = -1 := by omega
        rw [hneg]
        have hcb : X / 10 ^ e < 1152921504606846976 := by
          rw [← HCA.out]
          exact Nat.lt_of_lt_of_le (carry_lt n k e) hpk
        clear hAt
        obtain ⟨nd, hnde⟩ : ∃ nd, nd = e := ⟨_, rfl⟩
        have HNDE := Lib.hid hnde
        obtain ⟨U0, hU0⟩ : ∃ U0, U0 = X / 10 ^ e := ⟨_, rfl⟩
        rw [← hU0] at hcb ⊢
        have HU0 := Lib.hid hU0
        clear hU0 hnde
        go_wp2_with fail
        go_loopw [6, 7, 10, 11] (fun wv nv _ _ wx => ∃ f, e ≤ f ∧ f ≤ TT ∧ wv = .int .i64 ((TT - f : Nat) : Int) ∧ nv = .int .u64 (X / 10 ^ f : Nat) ∧ At wc wx g A e dp ng tr X TT f) (fun wv _ _ _ _ => (intOf wv).toNat)
        case atStart => exact ⟨e, Nat.le_refl _, hge, rfl, by rw [HU0.out], HAT.out⟩
        case round =>
          obtain ⟨f, hf1, hf2, rfl, rfl, hAt⟩ := hrel
          have HAT := Lib.hid hAt
          by_cases hfT : f < TT
          · have HLT := Lib.hid hfT
            obtain ⟨A', t', hD, _, _, _, _⟩ := hAt
            have HDd := Lib.hid hD
            have hpos := (HPOS.out f).1 hfT
            have hmod := HX.out f hfT
            have hdiv : X / 10 ^ f / 10 = X / 10 ^ (f + 1) := by rw [Nat.div_div_eq_div_mul, ← Nat.pow_succ]
            have hub : X / 10 ^ f ≤ U0 := by rw [HU0.out]; exact Nat.div_le_div_left (Nat.pow_le_pow_right (by decide) hf1) (p10 _)
            obtain ⟨U, hU⟩ : ∃ U, U = X / 10 ^ f := ⟨_, rfl⟩
            rw [← hU] at hpos hmod hdiv hub ⊢
            obtain ⟨c2, hc2⟩ : ∃ c2, c2 = X / 10 ^ (f + 1) := ⟨_, rfl⟩
            rw [← hc2] at hdiv
            have HC2 := Lib.hid hc2
            have hq1 : (U : Int) / 10 = (c2 : Int) := by omega
            have hp1 : (0 : Int) < (U : Int) := by omega
            have bU : U < 18446744073709551616 := by omega
            obtain ⟨e, hee⟩ : ∃ e, e = f := ⟨_, rfl⟩
            subst hee
            obtain ⟨t, hte⟩ : ∃ t, t = TT - (e + 1) := ⟨_, rfl⟩
            have HTE := Lib.hid hte
            obtain ⟨rm, hre⟩ : ∃ rm, rm = sdg X t := ⟨_, rfl⟩
            have HRE : Hid (rm = sdg X (TT - (e + 1))) := Lib.hid (by rw [hre, hte])
            have brm : rm < 10 := by rw [hre]; exact sdg_lt _ _
            obtain ⟨Y, hye⟩ : ∃ Y, Y = 48 + sdg X (TT - (e + 1)) := ⟨_, rfl⟩
            have HYE := Lib.hid hye
            have hyr : (rm : Int) + 48 = (Y : Int) := by rw [hye, ← HRE.out]; omega
            have bY : Y < 256 := by rw [hye]; have := sdg_lt X (TT - (e + 1)); omega
            have hwt : ((TT - e : Nat) : Int) - 1 = (t : Int) := by omega
            obtain ⟨tw, htw⟩ : ∃ tw, tw = TT - e := ⟨_, rfl⟩
            rw [← htw] at hwt ⊢
            have htw9 : tw ≤ 861 := by omega
            have hrm : (U : Int) - 10 * (c2 : Int) = (rm : Int) := by rw [hre, hte]; omega
            clear hD hpos hmod hdiv hub hU hc2 hte hre hye htw
            by_cases ht8 : t < 800
            · have cT' := HDd.out.d t ht8
              have y0 := cT'.1
              have y1 := cT'.2
              clear cT'
              go_wp2_with fail
              go_roundw
              case rel =>
                have a := at_low HAT.out HLT.out hge (by rw [← HTE.out]; exact ht8)
                rw [← HYE.out, ← HTE.out] at a
                exact ⟨e + 1, by omega, by omega, by congr 1; have := HTE.out; omega, by rw [HC2.out], a⟩
              case measure => simp [intOf]; omega
            · by_cases hr0 : rm = 0
              · have m0 : ((rm : Int) != 0) = false := by simp; omega
                have HR0 := Lib.hid hr0
                clear hr0
                go_wp2_with fail
                go_roundw
                case rel =>
                  have a := at_nought HAT.out HLT.out (by rw [← HTE.out]; omega) (by rw [← HRE.out, HR0.out])
                  exact ⟨e + 1, by omega, by omega, by congr 1; have := HTE.out; omega, by rw [HC2.out], a⟩
                case measure => simp [intOf]; omega
              · have m0 : ((rm : Int) != 0) = true := by simp; omega
                have HR0 := Lib.hid hr0
                have y0 := HDd.out.c3
                have y1 := HDd.out.z3
                clear hr0
                go_wp2_with fail
                go_roundw
                case rel =>
                  have a := at_lost HAT.out HLT.out (by rw [← HTE.out]; omega) (by rw [← HRE.out]; exact HR0.out)
                  exact ⟨e + 1, by omega, by omega, by congr 1; have := HTE.out; omega, by rw [HC2.out], a⟩
                case measure => simp [intOf]; omega
          · obtain rfl : f = TT := by omega
            have hz : X / 10 ^ f = 0 := by
              have := (HPOS.out f).2
              by_cases h0 : 0 < X / 10 ^ f
              · exact absurd (this h0) hfT
              · exact Nat.eq_zero_of_not_pos h0
            rw [hz]
            obtain ⟨A', t', hD, h2, _, h4, hO⟩ := hAt
            have HD := Lib.hid hD
            have HR := Lib.hid h2
            have H4 := Lib.hid h4
            have HO := Lib.hid hO
            have y0 := hD.c0
            have y1 := hD.c1
            have y2 := hD.z0
            have y3 := hD.z1
            clear hD h2 h4 hO hz hfT
            by_cases h8 : 800 ≤ f
            · have hmin : min f 800 = 800 := by omega
              have HM := Lib.hid hmin
              clear hmin
              go_wp2_with fail
              refine (trim144 _ g A' 800 (dp + ((f : Int) - (e : Int))) ng t' ?_ (Nat.le_refl _)).mono ?_
              · exact set_dp (set_nd (set_nd HD.out f) 800) _
              · rintro x w9 ⟨rfl, hd9, ho9⟩
                go_wp2_with fail
                go_end0
                obtain ⟨m, hm⟩ := HW1.out
                refine ⟨rfl, A', t', by rw [HM.out]; exact hd9, fun p hp => HR.out p (by omega) (by rw [HM.out] at hp; omega) (by rw [HM.out] at hp; omega), ?_, m, ?_⟩
                · rw [H4.out]
                  constructor
                  · rintro (h | ⟨p, p1, _, p3, p4⟩)
                    · exact .inl h
                    · exact .inr ⟨p, p1, p3, p4⟩
                  · rintro (h | ⟨p, p1, p3, p4⟩)
                    · exact .inl h
                    · exact .inr ⟨p, p1, by omega, p3, p4⟩
                · rw [← hm]
                  exact (((HO.out.trans only_set).trans only_set).trans only_set).trans ho9
            · have hmin : min f 800 = f := by omega
              have HM := Lib.hid hmin
              clear hmin
              go_wp2_with fail
              refine (trim144 _ g A' f (dp + ((f : Int) - (e : Int))) ng t' ?_ (by omega)).mono ?_
              · exact set_dp (set_nd HD.out f) _
              · rintro x w9 ⟨rfl, hd9, ho9⟩
                go_wp2_with fail
                go_end0
                obtain ⟨m, hm⟩ := HW1.out
                refine ⟨rfl, A', t', by rw [HM.out]; exact hd9, fun p hp => HR.out p (by omega) (by rw [HM.out] at hp; omega) (by rw [HM.out] at hp; omega), ?_, m, ?_⟩
                · rw [H4.out]
                  constructor
                  · rintro (h | ⟨p, p1, _, p3, p4⟩)
                    · exact .inl h
                    · exact .inr ⟨p, p1, p3, p4⟩
                  · rintro (h | ⟨p, p1, p3, p4⟩)
                    · exact .inl h
                    · exact .inr ⟨p, p1, by omega, p3, p4⟩
                · rw [← hm]
                  exact ((HO.out.trans only_set).trans only_set).trans ho9

end Dc
end Go.Proofs.YtbnicnhkakbglaaGreatDoor
