import Derived.Test.YtbnicnhkakbglaaGreatDoorG13

/- A decimal as a whole number. -/
namespace Go.Proofs.YtbnicnhkakbglaaGreatDoor
open Go.RowKit
namespace Dc
open Us

/-- The first i digits' number, wrapped. -/
def ri (B : Nat → Nat) : Nat → Nat
  | 0 => 0
  | i + 1 => (ri B i * 10 + (B i - 48)) % 18446744073709551616
/-- A nought more, j times. -/
def rz (n : Nat) : Nat → Nat
  | 0 => n
  | j + 1 => (rz n j * 10) % 18446744073709551616
/-- The whole number, a half rounded by b. -/
def whole (B : Nat → Nat) (nd : Nat) (dp : Int) (b : Bool) : Nat :=
  if b then (rz (ri B (min dp.toNat nd)) (dp.toNat - min dp.toNat nd) + 1) % 18446744073709551616 else rz (ri B (min dp.toNat nd)) (dp.toNat - min dp.toNat nd)
theorem ri_lt (B : Nat → Nat) : ∀ i, ri B i < 18446744073709551616
  | 0 => by show 0 < _; decide
  | i + 1 => Nat.mod_lt _ (by decide)
theorem rz_lt (n : Nat) (h : n < 18446744073709551616) : ∀ i, rz n i < 18446744073709551616
  | 0 => h
  | i + 1 => Nat.mod_lt _ (by decide)

set_option maxRecDepth 100000 in
set_option maxHeartbeats 1000000 in
theorem whole133 (B : Nat → Nat) (nd : Nat) (dp : Int) (ng tr : Bool) (hn : nd ≤ 800) (hB : ∀ i, i < nd → 48 ≤ B i ∧ B i ≤ 57) (hdp : -5000 ≤ dp ∧ dp ≤ 5000) :
    ∃ n : Nat, n < 18446744073709551616 ∧ ∀ w g A, Dh w g A nd dp ng tr → (∀ i, i < nd → A i = B i) → Calls Tryz.prog 235 #[.pointer (some ⟨g, 0, none⟩)] w fun x w' => x = .returned (.int .u64 (n : Nat)) ∧ ∃ m, w' = w.drewN m := by
  obtain ⟨b, hb⟩ := round147 B nd dp ng tr dp hn hB hdp
  have F147 := Lib.hid hb
  clear hb
  obtain ⟨hp1, hp2⟩ := hdp
  by_cases h20 : 20 < dp
  · have h20b : decide ((20 : Int) < dp) = true := decide_eq_true h20
    refine ⟨18446744073709551615, by decide, fun w g A hD hA => ?_⟩
    have c1 := hD.c1
    clear hD hA hB
    go_enter Tryz.func235, Tryz.ntmps235
    go_wp2_with fail
    go_ret
    exact ⟨rfl, 0, rfl⟩
  · have h20b : decide ((20 : Int) < dp) = false := by rw [decide_eq_false_iff_not]; omega
    have key : ∀ w g A, Dh w g A nd dp ng tr → (∀ i, i < nd → A i = B i) → Calls Tryz.prog 235 #[.pointer (some ⟨g, 0, none⟩)] w fun x w' => x = .returned (.int .u64 (whole B nd dp b : Nat)) ∧ ∃ m, w' = w.drewN m := by
      intro w g A hD hA
      have c0 := hD.c0
      have c1 := hD.c1
      have HD0 := Lib.hid hD
      go_enter Tryz.func235, Tryz.ntmps235
      go_wp2_with fail
      go_loopw [3, 4] (fun iv nv wr => ∃ i : Nat, i ≤ nd ∧ (i : Int) ≤ max dp 0 ∧ iv = .int .i64 (i : Nat) ∧ nv = .int .u64 (ri B i : Nat) ∧ ∃ m, wr = w.drewN m) (fun iv _ _ => nd - (intOf iv).toNat)
      case atStart => exact ⟨0, Nat.zero_le _, by omega, rfl, rfl, 0, rfl⟩
      case round =>
        obtain ⟨i, hi, hid, rfl, rfl, m, rfl⟩ := hrel
        have d0 : (w.drewN m).cell? ⟨g, 800, none⟩ = some (.int .i64 (nd : Nat)) := c0
        have d1 : (w.drewN m).cell? ⟨g, 801, none⟩ = some (.int .i64 dp) := c1
        have HD : Hid (Dh (w.drewN m) g A nd dp ng tr) := Lib.hid (hD.drewN m)
        have hri := ri_lt B i
        obtain ⟨R, hR⟩ : ∃ r, r = ri B i := ⟨_, rfl⟩
        rw [← hR] at hri ⊢
        have HR := Lib.hid hR
        have HRb := Lib.hid hri
        have hdi := hD.d
        clear hD hR
        by_cases hd : (i : Int) < dp
        · by_cases hn' : i < nd
          · have hnb : decide ((i : Int) < (nd : Int)) = true := decide_eq_true (by omega)
            have hdb : decide ((i : Int) < dp) = true := decide_eq_true hd
            have di : (w.drewN m).cell? ⟨g, i, none⟩ = some (.int .u8 (A i : Nat)) := (hdi i (by omega)).1
            have ha1 := hB i hn'
            rw [← hA i hn'] at ha1
            obtain ⟨C, hC⟩ : ∃ c, c = A i := ⟨_, rfl⟩
            rw [← hC] at ha1 di
            have HC := Lib.hid hC
            have HA := Lib.hid hA
            have HN := Lib.hid hn'
            have hi8 : i < 800 := by omega
            obtain ⟨ha1, ha2⟩ := ha1
            clear hC hdi hA hB
            go_wp2_with fail
            go_roundw
            case rel =>
              have := HN.out
              refine ⟨i + 1, by omega, by omega, by go_num, ?_, m, rfl⟩
              rw [show ri B (i + 1) = (ri B i * 10 + (B i - 48)) % 18446744073709551616 from rfl, ← HR.out, ← HA.out i HN.out, ← HC.out, IntKind.wrap_u64, IntKind.wrap_u64]
              congr 1
              omega
            case measure => have := HN.out; simp [intOf]; omega
          · have hnb : decide ((i : Int) < (nd : Int)) = false := by rw [decide_eq_false_iff_not]; omega
            have hdb : decide ((i : Int) < dp) = true := decide_eq_true hd
            have HA := Lib.hid hA
            clear hA hdi hB
            go_wp2_with fail
            have HI : Hid (i = min dp.toNat nd) := Lib.hid (by omega)
            clear hri hi
            go_loopw [3, 4] (fun iv nv wr => ∃ j : Nat, ((i : Int) + j) ≤ max dp 0 ∧ iv = .int .i64 ((i : Int) + j) ∧ nv = .int .u64 (rz R j : Nat) ∧ ∃ m, wr = w.drewN m) (fun iv _ _ => dp.toNat - (intOf iv).toNat)
            case atStart => exact ⟨0, by omega, by simp, rfl, m, rfl⟩
            case round =>
              obtain ⟨j, hj, rfl, rfl, m2, rfl⟩ := hrel
              have e1 : (w.drewN m2).cell? ⟨g, 801, none⟩ = some (.int .i64 dp) := c1
              have HDw : Hid (Dh (w.drewN m2) g A nd dp ng tr) := Lib.hid (HD0.out.drewN m2)
              have hZ := rz_lt R HRb.out j
              obtain ⟨Z, hZe⟩ : ∃ z, z = rz R j := ⟨_, rfl⟩
              rw [← hZe] at hZ ⊢
              have HZ := Lib.hid hZe
              clear hZe d0 d1
              by_cases hl : (i : Int) + j < dp
              · have hlb : decide ((i : Int) + (j : Int) < dp) = true := decide_eq_true hl
                go_wp2_with fail
                go_roundw
                case rel =>
                  refine ⟨j + 1, by omega, ?_, ?_, m2, rfl⟩
                  · go_num
                  · rw [show rz R (j + 1) = (rz R j * 10) % 18446744073709551616 from rfl, ← HZ.out, IntKind.wrap_u64, show ((Z : Int) * 10) % 18446744073709551616 = ((Z * 10 % 18446744073709551616 : Nat) : Int) from by omega]
                case measure => simp [intOf]; omega
              · have hlb : decide ((i : Int) + (j : Int) < dp) = false := by rw [decide_eq_false_iff_not]; omega
                have HJ : Hid (dp.toNat - min dp.toNat nd = j) := Lib.hid (by have := HI.out; omega)
                go_wp2_with fail
                refine (F147.out _ g A HDw.out HA.out).mono ?_
                rintro x w3 ⟨rfl, m3, h3⟩
                rw [h3]
                clear h3 w3
                dsimp only
                cases b with
                | true =>
                  go_wp2_with fail
                  go_ret
                  refine ⟨?_, m2 + m3, rfl⟩
                  rw [show whole B nd dp true = (rz (ri B (min dp.toNat nd)) (dp.toNat - min dp.toNat nd) + 1) % 18446744073709551616 from rfl, HJ.out, ← HI.out, ← HR.out, ← HZ.out]
                  show Ending.returned (.int .u64 (IntKind.u64.wrap ((Z : Int) + 1))) = _
                  rw [IntKind.wrap_u64, show ((Z : Int) + 1) % 18446744073709551616 = (((Z + 1) % 18446744073709551616 : Nat) : Int) from by omega]
                | false =>
                  go_wp2_with fail
                  go_ret
                  refine ⟨?_, m2 + m3, by rw [World.drewN_drewN]⟩
                  rw [show whole B nd dp false = rz (ri B (min dp.toNat nd)) (dp.toNat - min dp.toNat nd) from rfl, HJ.out, ← HI.out, ← HR.out, ← HZ.out]
                  rfl
        · have hdb : decide ((i : Int) < dp) = false := by rw [decide_eq_false_iff_not]; omega
          have HA := Lib.hid hA
          clear hA hdi hB
          go_wp2_with fail
          have HI : Hid (i = min dp.toNat nd) := Lib.hid (by omega)
          clear hri hi
          go_loopw [3, 4] (fun iv nv wr => ∃ j : Nat, ((i : Int) + j) ≤ max dp 0 ∧ iv = .int .i64 ((i : Int) + j) ∧ nv = .int .u64 (rz R j : Nat) ∧ ∃ m, wr = w.drewN m) (fun iv _ _ => dp.toNat - (intOf iv).toNat)
          case atStart => exact ⟨0, by omega, by simp, rfl, m, rfl⟩
          case round =>
            obtain ⟨j, hj, rfl, rfl, m2, rfl⟩ := hrel
            have e1 : (w.drewN m2).cell? ⟨g, 801, none⟩ = some (.int .i64 dp) := c1
            have HDw : Hid (Dh (w.drewN m2) g A nd dp ng tr) := Lib.hid (HD0.out.drewN m2)
            have hZ := rz_lt R HRb.out j
            obtain ⟨Z, hZe⟩ : ∃ z, z = rz R j := ⟨_, rfl⟩
            rw [← hZe] at hZ ⊢
            have HZ := Lib.hid hZe
            clear hZe d0 d1
            by_cases hl : (i : Int) + j < dp
            · exfalso; omega
            · have hlb : decide ((i : Int) + (j : Int) < dp) = false := by rw [decide_eq_false_iff_not]; omega
              have HJ : Hid (dp.toNat - min dp.toNat nd = j) := Lib.hid (by have := HI.out; omega)
              go_wp2_with fail
              refine (F147.out _ g A HDw.out HA.out).mono ?_
              rintro x w3 ⟨rfl, m3, h3⟩
              rw [h3]
              clear h3 w3
              dsimp only
              cases b with
              | true =>
                go_wp2_with fail
                go_ret
                refine ⟨?_, m2 + m3, rfl⟩
                rw [show whole B nd dp true = (rz (ri B (min dp.toNat nd)) (dp.toNat - min dp.toNat nd) + 1) % 18446744073709551616 from rfl, HJ.out, ← HI.out, ← HR.out, ← HZ.out]
                show Ending.returned (.int .u64 (IntKind.u64.wrap ((Z : Int) + 1))) = _
                rw [IntKind.wrap_u64, show ((Z : Int) + 1) % 18446744073709551616 = (((Z + 1) % 18446744073709551616 : Nat) : Int) from by omega]
              | false =>
                go_wp2_with fail
                go_ret
                refine ⟨?_, m2 + m3, by rw [World.drewN_drewN]⟩
                rw [show whole B nd dp false = rz (ri B (min dp.toNat nd)) (dp.toNat - min dp.toNat nd) from rfl, HJ.out, ← HI.out, ← HR.out, ← HZ.out]
                rfl
    exact ⟨whole B nd dp b, by unfold whole; split <;> first | exact Nat.mod_lt _ (by decide) | exact rz_lt _ (ri_lt _ _) _, key⟩
end Dc
end Go.Proofs.YtbnicnhkakbglaaGreatDoor
