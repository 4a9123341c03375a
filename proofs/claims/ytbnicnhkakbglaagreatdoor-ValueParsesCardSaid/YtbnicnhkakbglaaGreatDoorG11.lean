import Derived.Test.YtbnicnhkakbglaaGreatDoorG09
import Derived.Test.YtbnicnhkakbglaaGreatDoorG06
import Derived.WalkMore
import Derived.Test.YtbnicnhkakbglaaGreatDoorG10
import Derived.Test.YtbnicnhkakbglaaGreatDoorG00
import Derived.Test.YtbnicnhkakbglaaGreatDoorG01

/- No special text begins with a digit. -/
namespace Go.Proofs.YtbnicnhkakbglaaGreatDoor
open Go.RowKit
namespace Us
open Rm

set_option maxRecDepth 100000 in
set_option maxHeartbeats 1000000 in
theorem common124 (S : ByteArray) (h0 : 0 < S.size) (hc : 48 ≤ S[0].toNat ∧ S[0].toNat ≤ 57) (w : World) :
    Calls Tryz.prog 226 #[.string S, .string { data := #[105, 110, 102, 105, 110, 105, 116, 121] }] w fun e w' => e = .returned (.int .i64 0) ∧ ∃ m, w' = w.drewN m := by
  obtain ⟨C, hC⟩ : ∃ c, c = S[0].toNat := ⟨_, rfl⟩
  rw [← hC] at hc
  have hC' := hC.symm
  clear hC
  obtain ⟨a, b⟩ := hc
  have m1 : ((C : Int) != 105) = true := by simp; omega
  have m2 : ¬ C = 105 := by omega
  by_cases h8 : 8 > S.size
  · have h8b : decide ((8 : Int) > (S.size : Int)) = true := decide_eq_true (by omega)
    go_enter Tryz.func226, Tryz.ntmps226
    go_wp2_with fail
    refine wp_loop_rounds 1 ?_
    rw [rounds_succ]
    go_wp2_with fail
    · go_ret
      exact ⟨rfl, 0, rfl⟩
    · rename_i hc2 _
      have hc3 : ((C : Int) != 105) = false := hc2
      rw [m1] at hc3
      cases hc3
  · have h8b : decide ((8 : Int) > (S.size : Int)) = false := by rw [decide_eq_false_iff_not]; omega
    go_enter Tryz.func226, Tryz.ntmps226
    go_wp2_with fail
    refine wp_loop_rounds 1 ?_
    rw [rounds_succ]
    go_wp2_with fail
    · go_ret
      exact ⟨rfl, 0, rfl⟩
    · rename_i hc2 _
      have hc3 : ((C : Int) != 105) = false := hc2
      rw [m1] at hc3
      cases hc3

set_option maxRecDepth 100000 in
set_option maxHeartbeats 1000000 in
theorem special88 (S : ByteArray) (h0 : 0 < S.size) (hc : (48 ≤ S[0].toNat ∧ S[0].toNat ≤ 57) ∨ (S[0].toNat = 45 ∧ ∃ h1 : 1 < S.size, 48 ≤ (S[1]'h1).toNat ∧ (S[1]'h1).toNat ≤ 57)) (w : World) :
    Calls Tryz.prog 182 #[.string S] w fun e w' => e = .returned (.tuple #[.float .f64 0, .int .i64 0, .bool false]) ∧ ∃ m, w' = w.drewN m := by
  rcases hc with hc | ⟨hc, h1, hd⟩
  · obtain ⟨C, hC⟩ : ∃ c, c = S[0].toNat := ⟨_, rfl⟩
    rw [← hC] at hc
    have hC' := hC.symm
    clear hC
    obtain ⟨a, b⟩ := hc
    go_enter Tryz.func182, Tryz.ntmps182
    go_wp2_with fail
    go_ret3
    exact ⟨rfl, 0, rfl⟩
  · obtain ⟨C, hC⟩ : ∃ c, c = S[0].toNat := ⟨_, rfl⟩
    rw [← hC] at hc
    have hC' := hC.symm
    clear hC
    subst hc
    have e1 : (S.extract 1 S.size).size = S.size - 1 := by rw [ByteArray.size_extract]; omega
    have e2 : ∀ h, (S.extract 1 S.size)[0]'h = S[1] := fun h => by rw [ByteArray.getElem_extract]
    have F124 : Hid (∀ y, Calls Tryz.prog 226 #[.string (S.extract 1 S.size), .string { data := #[105, 110, 102, 105, 110, 105, 116, 121] }] y fun e w' => e = .returned (.int .i64 0) ∧ ∃ m, w' = y.drewN m) := Lib.hid (common124 _ (by omega) (by rw [e2]; exact hd))
    clear hd e2
    go_enter Tryz.func182, Tryz.ntmps182
    go_wp2_with fail
    refine (F124.out w).mono ?_
    rintro e w2 ⟨rfl, m, h2⟩
    rw [h2]
    clear h2 w2
    dsimp only
    go_wp2_with fail
    go_ret3
    exact ⟨rfl, m, rfl⟩
end Us
end Go.Proofs.YtbnicnhkakbglaaGreatDoor

/- A decimal in memory; trim. -/
namespace Go.Proofs.YtbnicnhkakbglaaGreatDoor
open Go.RowKit
namespace Dc
open Us

/-- The decimal at block g. -/
structure Dh (w : World) (g : Nat) (A : Nat → Nat) (nd : Nat) (dp : Int) (ng tr : Bool) : Prop where
  lt : g < w.heap.size
  d : ∀ i, i < 800 → w.cell? ⟨g, i, none⟩ = some (.int .u8 (A i : Nat)) ∧ w.frozen? ⟨g, i, none⟩ = false
  c0 : w.cell? ⟨g, 800, none⟩ = some (.int .i64 (nd : Nat))
  c1 : w.cell? ⟨g, 801, none⟩ = some (.int .i64 dp)
  c2 : w.cell? ⟨g, 802, none⟩ = some (.bool ng)
  c3 : w.cell? ⟨g, 803, none⟩ = some (.bool tr)
  z0 : w.frozen? ⟨g, 800, none⟩ = false
  z1 : w.frozen? ⟨g, 801, none⟩ = false
  z2 : w.frozen? ⟨g, 802, none⟩ = false
  z3 : w.frozen? ⟨g, 803, none⟩ = false
/-- Only block g has turned. -/
structure Only (w w' : World) (g : Nat) : Prop where
  os : w'.os = w.os
  tape : w'.tape = w.tape
  output : w'.output = w.output
  size : w'.heap.size = w.heap.size
  block : ∀ k, k < w.heap.size → k ≠ g → w'.heap[k]? = w.heap[k]?
theorem Only.refl (w : World) (g : Nat) : Only w w g := ⟨rfl, rfl, rfl, rfl, fun _ _ _ => rfl⟩
theorem Only.trans {a b c : World} {g : Nat} (h : Only a b g) (k : Only b c g) : Only a c g :=
  ⟨k.os.trans h.os, k.tape.trans h.tape, k.output.trans h.output, k.size.trans h.size, fun i hi hg => (k.block i (by rw [h.size]; exact hi) hg).trans (h.block i hi hg)⟩
theorem Only.drewN {a b : World} {g : Nat} (h : Only a b g) (n : Nat) : Only a (b.drewN n) g := ⟨h.os, h.tape, h.output, h.size, h.block⟩
theorem Dh.drewN {w : World} {g : Nat} {A : Nat → Nat} {nd : Nat} {dp : Int} {ng tr : Bool} (h : Dh w g A nd dp ng tr) (n : Nat) : Dh (w.drewN n) g A nd dp ng tr := ⟨h.lt, h.d, h.c0, h.c1, h.c2, h.c3, h.z0, h.z1, h.z2, h.z3⟩
theorem only_set {w : World} {g i : Nat} {v : Value} : Only w (w.setCell ⟨g, i, none⟩ v) g := ⟨rfl, rfl, rfl, by simp, fun k hk hg => heap_setCell_other _ _ _ _ (by simpa using hg)⟩
theorem set_nd {w : World} {g : Nat} {A : Nat → Nat} {nd : Nat} {dp : Int} {ng tr : Bool} (h : Dh w g A nd dp ng tr) (n : Nat) : Dh (w.setCell ⟨g, 800, none⟩ (.int .i64 (n : Nat))) g A n dp ng tr := by
  refine ⟨by simpa using h.lt, fun i hi => ⟨?_, by simpa using (h.d i hi).2⟩, cell_same h.c0, ?_, ?_, ?_, by simpa using h.z0, by simpa using h.z1, by simpa using h.z2, by simpa using h.z3⟩
  · rw [cell_other (by simp <;> omega)]; exact (h.d i hi).1
  · rw [cell_other (by simp)]; exact h.c1
  · rw [cell_other (by simp)]; exact h.c2
  · rw [cell_other (by simp)]; exact h.c3
theorem set_dp {w : World} {g : Nat} {A : Nat → Nat} {nd : Nat} {dp : Int} {ng tr : Bool} (h : Dh w g A nd dp ng tr) (p : Int) : Dh (w.setCell ⟨g, 801, none⟩ (.int .i64 p)) g A nd p ng tr := by
  refine ⟨by simpa using h.lt, fun i hi => ⟨?_, by simpa using (h.d i hi).2⟩, ?_, cell_same h.c1, ?_, ?_, by simpa using h.z0, by simpa using h.z1, by simpa using h.z2, by simpa using h.z3⟩
  · rw [cell_other (by simp <;> omega)]; exact (h.d i hi).1
  · rw [cell_other (by simp)]; exact h.c0
  · rw [cell_other (by simp)]; exact h.c2
  · rw [cell_other (by simp)]; exact h.c3

/-- Behind the last digit that is no nought. -/
def tz (A : Nat → Nat) : Nat → Nat
  | 0 => 0
  | j + 1 => if A j = 48 then tz A j else j + 1

/-- The point of a decimal without digits is 0. -/
def tdp (n : Nat) (dp : Int) : Int := if n = 0 then 0 else dp
/-- The digits' number, read in memory. -/
def ndOf (w : World) (g : Nat) : Nat := (intOf ((w.cell? ⟨g, 800, none⟩).getD undef)).toNat

set_option maxRecDepth 100000 in
set_option maxHeartbeats 1000000 in
theorem trim144 (w : World) (g : Nat) (A : Nat → Nat) (nd : Nat) (dp : Int) (ng tr : Bool) (h : Dh w g A nd dp ng tr) (hn : nd ≤ 800) :
    Calls Tryz.prog 251 #[.pointer (some ⟨g, 0, none⟩)] w fun e w' => e = .returned (.tuple #[]) ∧ Dh w' g A (tz A nd) (tdp (tz A nd) dp) ng tr ∧ Only w w' g := by
  have H := Lib.hid h
  clear h
  go_enter Tryz.func251, Tryz.ntmps251
  go_wp2_with fail
  go_loopw [2] (fun _ wr => ∃ j, j ≤ nd ∧ tz A nd = tz A j ∧ Dh wr g A j dp ng tr ∧ Only w wr g) (fun _ wr => ndOf wr g)
  case atStart => exact ⟨nd, Nat.le_refl _, rfl, H.out, Only.refl _ _⟩
  case round =>
    obtain ⟨j, hj, htz, hD, hO⟩ := hrel
    have HD := Lib.hid hD
    have HTZ := Lib.hid htz
    have HO := Lib.hid hO
    have c0 := hD.c0
    have z0 := hD.z0
    have HN : Hid (ndOf wr g = j) := Lib.hid (by unfold ndOf; rw [hD.c0]; simp [intOf])
    cases j with
    | zero =>
      have c1 := hD.c1
      have z1 := hD.z1
      clear hD htz hO
      go_upto_region 0 with (fail)
      go_quiet (fail)
      obtain ⟨w2, hw2⟩ : ∃ w2, w2 = wr.drewN nq := ⟨_, rfl⟩
      have HD2 : Hid (Dh w2 g A 0 dp ng tr) := by rw [hw2]; exact Lib.hid (HD.out.drewN _)
      have HO2 : Hid (Only w w2 g) := by rw [hw2]; exact Lib.hid (HO.out.drewN _)
      have d0 := HD2.out.c0
      have d1 := HD2.out.c1
      have y1 := HD2.out.z1
      rw [← hw2]
      clear hw2 c0 c1 z0 z1
      go_wp2_with fail
      go_end0
      refine ⟨rfl, ?_, HO2.out.trans only_set⟩
      rw [HTZ.out]
      exact set_dp HD2.out 0
    | succ k =>
      have hk8 : k < 800 := by omega
      have ck := (hD.d k hk8).1
      obtain ⟨C, hC⟩ : ∃ C, C = A k := ⟨_, rfl⟩
      rw [← hC] at ck
      have HC := Lib.hid hC
      clear hD htz hO hC
      obtain ⟨j, hjk⟩ : ∃ j, j = k + 1 := ⟨_, rfl⟩
      rw [← hjk] at c0 HD HTZ HN hj
      have HJ := Lib.hid hjk
      have hp : (0 : Int) < (j : Int) := by omega
      have hp2 : 0 < j := by omega
      have hp3 : decide ((0 : Int) < (j : Int)) = true := decide_eq_true hp
      have hp4 : decide (0 < j) = true := decide_eq_true hp2
      have hs1 : IntKind.i64.wrap ((j : Int) - 1) = (k : Int) := by rw [IntWalk.i64_left]; unfold wrap64; omega
      have hs2 : wrap64 ((j : Int) - 1) = (k : Int) := by unfold wrap64; omega
      have hs3 : (j : Int) - 1 = (k : Int) := by omega
      have hs4 : IntKind.i64.wrap (k : Int) = (k : Int) := by rw [IntWalk.i64_left]; unfold wrap64; omega
      have hk8I : (k : Int) < 800 := by omega
      clear hjk
      by_cases h48 : C = 48
      · have m48 : ((C : Int) == 48) = true := by simp; omega
        have H48 := Lib.hid h48
        clear h48
        go_upto_region 0 with (fail)
        go_quiet (fail)
        obtain ⟨w2, hw2⟩ : ∃ w2, w2 = wr.drewN nq := ⟨_, rfl⟩
        have HD2 : Hid (Dh w2 g A j dp ng tr) := by rw [hw2]; exact Lib.hid (HD.out.drewN _)
        have HO2 : Hid (Only w w2 g) := by rw [hw2]; exact Lib.hid (HO.out.drewN _)
        have d0 := HD2.out.c0
        have y0 := HD2.out.z0
        rw [← hw2]
        clear hw2 c0 z0 ck
        go_wp2_with fail
        go_roundw
        case rel =>
          refine ⟨k, by have := HJ.out; omega, ?_, set_nd HD2.out k, HO2.out.trans only_set⟩
          rw [HTZ.out, HJ.out]
          show (if A k = 48 then tz A k else k + 1) = tz A k
          rw [if_pos (by rw [← HC.out]; exact H48.out)]
        case measure =>
          have e : ndOf (w2.setCell ⟨g, 800, none⟩ (.int .i64 (k : Nat))) g = k := by unfold ndOf; rw [(set_nd HD2.out k).c0]; simp [intOf]
          rw [HN.out]
          refine Nat.lt_of_le_of_lt (Nat.le_of_eq e) (by have := HJ.out; omega)
      · have m48 : ((C : Int) == 48) = false := by simp; omega
        have H48 := Lib.hid h48
        have hj0 : ((j : Int) == 0) = false := by simp; omega
        clear h48
        go_upto_region 0 with (fail)
        go_quiet (fail)
        obtain ⟨w2, hw2⟩ : ∃ w2, w2 = wr.drewN nq := ⟨_, rfl⟩
        have HD2 : Hid (Dh w2 g A j dp ng tr) := by rw [hw2]; exact Lib.hid (HD.out.drewN _)
        have HO2 : Hid (Only w w2 g) := by rw [hw2]; exact Lib.hid (HO.out.drewN _)
        have d0 := HD2.out.c0
        have y0 := HD2.out.z0
        rw [← hw2]
        clear hw2 c0 z0 ck
        go_wp2_with fail
        go_end0
        have e : tz A nd = j := by
          rw [HTZ.out, HJ.out]
          show (if A k = 48 then tz A k else k + 1) = k + 1
          rw [if_neg (by rw [← HC.out]; exact H48.out)]
        refine ⟨rfl, ?_, HO2.out⟩
        rw [e, show tdp j dp = dp from if_neg (by omega)]
        exact HD2.out
end Dc
end Go.Proofs.YtbnicnhkakbglaaGreatDoor

/- prefixIsLessThan. -/
namespace Go.Proofs.YtbnicnhkakbglaaGreatDoor
open Go.RowKit
namespace Dc
open Us Dm

set_option maxRecDepth 100000 in
set_option maxHeartbeats 1000000 in
theorem prefix156 (w : World) (g c n f l5 : Nat) (S : ByteArray) (_hc : dlen n ≤ c) (_hn8 : dlen n ≤ 800) (hl : dlen f = l5) (hl8 : l5 ≤ 800) (h5 : sdg f (l5 - 1) ≠ 0) (hsz : S.size = l5)
    (hS : ∀ (i : Nat) (hi : i < S.size), (S[i]'hi).toNat = 48 + sdg f i) (hD : ∀ i, i < dlen n → w.cell? ⟨g, i, none⟩ = some (.int .u8 ((48 + sdg n i : Nat) : Int))) :
    Calls Tryz.prog 261 #[.slice (some ⟨g, 0, none⟩) (dlen n) c, .string S] w fun e w' => e = .returned (.bool (decide (n * 10 ^ l5 < f * 10 ^ dlen n))) ∧ ∃ m, w' = w.drewN m := by
  have HSH : Hid (∀ i, i < l5 → dlen n ≤ i → (∀ j, j < i → sdg n j = sdg f j) → decide (n * 10 ^ l5 < f * 10 ^ dlen n) = true) := Lib.hid fun i h1 h2 h3 => decide_eq_true (less_short hl h1 h2 h3 h5)
  have HLT : Hid (∀ i, (∀ j, j < i → sdg n j = sdg f j) → sdg n i < sdg f i → decide (n * 10 ^ l5 < f * 10 ^ dlen n) = true) := Lib.hid fun i h3 h4 => decide_eq_true (less_top hl (i + 1) (by rw [top_succ, top_succ, top_eq i h3]; omega))
  have HGT : Hid (∀ i, i < l5 → (∀ j, j < i → sdg n j = sdg f j) → sdg f i < sdg n i → decide (n * 10 ^ l5 < f * 10 ^ dlen n) = false) := Lib.hid fun i h1 h3 h4 => decide_eq_false (not_less_top hl (i + 1) (by omega) (by rw [top_succ, top_succ, top_eq i h3]; omega))
  have HNL : Hid ((∀ j, j < l5 → sdg n j = sdg f j) → decide (n * 10 ^ l5 < f * 10 ^ dlen n) = false) := Lib.hid fun h => decide_eq_false (not_less hl h)
  have HS := Lib.hid hS
  obtain ⟨D, hDD⟩ : ∃ D, D = decide (n * 10 ^ l5 < f * 10 ^ dlen n) := ⟨_, rfl⟩
  rw [← hDD] at HSH HLT HGT HNL ⊢
  obtain ⟨nd, hnd⟩ : ∃ nd, nd = dlen n := ⟨_, rfl⟩
  rw [← hnd] at hD HSH ⊢
  have HD := Lib.hid hD
  clear hD hS hDD hnd h5 hl
  go_enter Tryz.func261, Tryz.ntmps261
  go_wp2_with fail
  go_loopw [5] (fun i wr => ∃ k, k ≤ l5 ∧ i = .int .i64 (k : Nat) ∧ (∀ j, j < k → sdg n j = sdg f j) ∧ ∃ m, wr = w.drewN m) (fun i _ => 1000 - (intOf i).toNat)
  case atStart => exact ⟨0, Nat.zero_le _, rfl, fun j hj => by omega, 0, rfl⟩
  case round =>
    obtain ⟨k, hk, rfl, hall, hm⟩ := hrel
    have HA := Lib.hid hall
    have HM := Lib.hid hm
    clear hall
    by_cases hkl : k < l5
    · have hkI : (k : Int) < (S.size : Int) := by omega
      by_cases hkn : k < nd
      · have e1 : wr.cell? ⟨g, k, none⟩ = some (.int .u8 ((48 + sdg n k : Nat) : Int)) := by obtain ⟨m, rfl⟩ := hm; exact HD.out k hkn
        have hks : k < S.size := by omega
        have e2 : (S[k]'hks).toNat = 48 + sdg f k := HS.out k hks
        have b1 := sdg_lt n k
        have b2 := sdg_lt f k
        obtain ⟨X, hX⟩ : ∃ X, X = 48 + sdg n k := ⟨_, rfl⟩
        obtain ⟨Y, hY⟩ : ∃ Y, Y = 48 + sdg f k := ⟨_, rfl⟩
        have HXY : Hid ((X = Y ↔ sdg n k = sdg f k) ∧ (X < Y ↔ sdg n k < sdg f k)) := Lib.hid ⟨by omega, by omega⟩
        rw [← hX] at e1
        rw [← hY] at e2
        have bX : X < 256 := by omega
        have bY : Y < 256 := by omega
        clear hX hY hm b1 b2
        by_cases hXY : X = Y
        · have m1 : ((X : Int) != (Y : Int)) = false := by simp; omega
          have HE := Lib.hid (HXY.out.1.1 hXY)
          clear hXY
          go_upto_region 6 with (fail)
          go_quiet (fail)
          go_wp2_with fail
          go_roundw
          case rel =>
            refine ⟨k + 1, by omega, by go_num, fun j hj => ?_, ?_⟩
            · by_cases e : j = k
              · rw [e]; exact HE.out
              · exact HA.out j (by omega)
            · obtain ⟨m, rfl⟩ := HM.out; exact ⟨m + nq, by rw [World.drewN_drewN]⟩
          case measure => simp [intOf]; omega
        · have m1 : ((X : Int) != (Y : Int)) = true := by simp; omega
          by_cases hlt : X < Y
          · have HR := Lib.hid (HLT.out k HA.out (HXY.out.2.1 hlt))
            have m2 : decide ((X : Int) < (Y : Int)) = true := decide_eq_true (by omega)
            clear hXY
            go_upto_region 6 with (fail)
            go_quiet (fail)
            go_upto_region 7 with (fail)
            go_quiet (fail)
            go_wp2_with fail
            go_ret
            refine ⟨by rw [HR.out]; first | rfl | (simp; omega), ?_⟩
            obtain ⟨m, rfl⟩ := HM.out
            exact ⟨_, by rw [World.drewN_drewN, World.drewN_drewN]⟩
          · have HR := Lib.hid (HGT.out k hkl HA.out (by have := HXY.out.1; have := HXY.out.2; omega))
            have m2 : decide ((X : Int) < (Y : Int)) = false := decide_eq_false (by omega)
            clear hXY
            go_upto_region 6 with (fail)
            go_quiet (fail)
            go_upto_region 7 with (fail)
            go_quiet (fail)
            go_wp2_with fail
            go_ret
            refine ⟨by rw [HR.out]; first | rfl | (simp; omega), ?_⟩
            obtain ⟨m, rfl⟩ := HM.out
            exact ⟨_, by rw [World.drewN_drewN, World.drewN_drewN]⟩
      · have HR := Lib.hid (HSH.out k hkl (by omega) HA.out)
        go_wp2_with fail
        go_ret
        exact ⟨by rw [HR.out]; rfl, HM.out⟩
    · obtain rfl : k = l5 := by omega
      have hkI : ¬ (k : Int) < (S.size : Int) := by omega
      have HR := Lib.hid (HNL.out HA.out)
      go_wp2_with fail
      go_ret
      exact ⟨by rw [HR.out]; rfl, HM.out⟩
end Dc
end Go.Proofs.YtbnicnhkakbglaaGreatDoor
