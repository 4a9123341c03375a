import Derived.Test.YtbnicnhkakbglaaGreatDoorG09
import Derived.OwnWalk
import Derived.Test.YtbnicnhkakbglaaGreatDoorG02
import Derived.Lib.Tables
import Derived.Outline
import Derived.Test.YtbnicnhkakbglaaGreatDoorG07

/- uscale. -/
namespace Go.Proofs.YtbnicnhkakbglaaGreatDoor
open Go.RowKit
namespace Us

/-- The unrounded product. -/
def us (x H L s : Nat) : Nat :=
  if x * H / 18446744073709551616 / 2 ^ s * 2 ^ s ≠ x * H / 18446744073709551616 then x * H / 18446744073709551616 / 2 ^ s ||| 1
  else (x * H / 18446744073709551616 + 18446744073709551616 - b2 (decide (x * H % 18446744073709551616 < x * L / 18446744073709551616))) % 18446744073709551616 / 2 ^ s |||
    b2 (decide (1 < (x * H % 18446744073709551616 + 18446744073709551616 - x * L / 18446744073709551616) % 18446744073709551616))
/-- The scaler at block g. -/
def Sc (w : World) (g H L : Nat) (s : Int) : Prop := w.cell? ⟨g, 0, none⟩ = some (.int .u64 (H : Nat)) ∧ w.cell? ⟨g, 1, none⟩ = some (.int .u64 (L : Nat)) ∧ w.cell? ⟨g, 2, none⟩ = some (.int .i64 s)

set_option maxRecDepth 100000 in
set_option maxHeartbeats 1000000 in
theorem uscale129 (w : World) (g x H L s : Nat) (hx : x < 18446744073709551616) (hH : H < 18446744073709551616) (hL : L < 18446744073709551616) (hs : s < 64) (hS : Sc w g H L (s : Nat)) :
    Calls Tryz.prog 231 #[.int .u64 (x : Nat), .pointer (some ⟨g, 0, none⟩)] w fun e w' => e = .returned (.int .u64 (us x H L s : Nat)) ∧ ∃ m, w' = w.drewN m := by
  obtain ⟨c0, c1, c2⟩ := hS
  have FH : Hid (∀ y, Calls Tryz.prog 257 #[.int .u64 (x : Nat), .int .u64 (H : Nat)] y fun e w' => e = .returned (.tuple #[.int .u64 (x * H / 18446744073709551616 : Nat), .int .u64 (x * H % 18446744073709551616 : Nat)]) ∧ w' = y) := Lib.hid fun y => mul152 x H hx hH y
  have FL : Hid (∀ y, Calls Tryz.prog 257 #[.int .u64 (x : Nat), .int .u64 (L : Nat)] y fun e w' => e = .returned (.tuple #[.int .u64 (x * L / 18446744073709551616 : Nat), .int .u64 (x * L % 18446744073709551616 : Nat)]) ∧ w' = y) := Lib.hid fun y => mul152 x L hx hL y
  have big : ∀ a b : Nat, a < 18446744073709551616 → b < 18446744073709551616 → a * b / 18446744073709551616 < 18446744073709551616 := fun a b ha hb => by
    rw [Nat.div_lt_iff_lt_mul (by decide)]
    have : a * b ≤ 18446744073709551615 * 18446744073709551615 := Nat.mul_le_mul (by omega) (by omega)
    omega
  have bHI := big x H hx hH
  have bM2 := big x L hx hL
  have HU : Hid (us x H L s = if x * H / 18446744073709551616 / 2 ^ s * 2 ^ s ≠ x * H / 18446744073709551616 then x * H / 18446744073709551616 / 2 ^ s ||| 1
    else (x * H / 18446744073709551616 + 18446744073709551616 - b2 (decide (x * H % 18446744073709551616 < x * L / 18446744073709551616))) % 18446744073709551616 / 2 ^ s |||
      b2 (decide (1 < (x * H % 18446744073709551616 + 18446744073709551616 - x * L / 18446744073709551616) % 18446744073709551616))) := Lib.hid rfl
  have bMI : x * H % 18446744073709551616 < 18446744073709551616 := Nat.mod_lt _ (by decide)
  obtain ⟨HI, hHI⟩ : ∃ a, a = x * H / 18446744073709551616 := ⟨_, rfl⟩
  obtain ⟨MI, hMI⟩ : ∃ a, a = x * H % 18446744073709551616 := ⟨_, rfl⟩
  obtain ⟨M2, hM2⟩ : ∃ a, a = x * L / 18446744073709551616 := ⟨_, rfl⟩
  obtain ⟨M3, hM3⟩ : ∃ a, a = x * L % 18446744073709551616 := ⟨_, rfl⟩
  rw [← hHI, ← hMI] at FH
  rw [← hM2, ← hM3] at FL
  rw [← hHI, ← hMI, ← hM2] at HU
  rw [← hHI] at bHI
  rw [← hM2] at bM2
  rw [← hMI] at bMI
  have hs63 : bits .and .i64 (s : Int) 63 = (s : Int) := by
    show IntKind.i64.wrap ((BitVec.ofInt 64 (s : Int) &&& BitVec.ofInt 64 63).toNat : Int) = _
    rw [IntWalk.i64_left, BitVec.toNat_and, ofInt_u64 s (by omega), show (BitVec.ofInt 64 63).toNat = 2 ^ 6 - 1 from by decide, Nat.and_two_pow_sub_one_eq_mod]
    unfold wrap64
    omega
  obtain ⟨Q, hQ⟩ : ∃ a, a = HI / 2 ^ s := ⟨_, rfl⟩
  have d1 : (HI : Int) / 2 ^ s = (Q : Int) := by rw [hQ]; push_cast; rfl
  obtain ⟨Q2, hQ2⟩ : ∃ a, a = Q * 2 ^ s := ⟨_, rfl⟩
  have bQ2 : Q2 ≤ HI := by rw [hQ2, hQ]; exact Nat.div_mul_le_self _ _
  have d2 : (Q : Int) * 2 ^ s = (Q2 : Int) := by rw [hQ2]; push_cast; rfl
  have bQ : Q ≤ HI := by rw [hQ]; exact Nat.div_le_self _ _
  rw [← hQ, ← hQ2] at HU
  clear big hHI hMI hM2 hM3 hx hH hL
  by_cases hne : Q2 = HI
  · have hq : ((Q2 : Int) != (HI : Int)) = false := by simp; omega
    obtain ⟨A, hA⟩ : ∃ a, a = b2 (decide (MI < M2)) := ⟨_, rfl⟩
    have bA : A ≤ 1 := by rw [hA]; unfold b2; split <;> omega
    obtain ⟨V, hV⟩ : ∃ a, a = (MI + 18446744073709551616 - M2) % 18446744073709551616 := ⟨_, rfl⟩
    have eV : IntKind.u64.wrap ((MI : Int) - (M2 : Int)) = (V : Int) := by rw [IntKind.wrap_u64]; omega
    obtain ⟨B, hB⟩ : ∃ a, a = b2 (decide (1 < V)) := ⟨_, rfl⟩
    have bB : B ≤ 1 := by rw [hB]; unfold b2; split <;> omega
    obtain ⟨H2, hH2⟩ : ∃ a, a = (HI + 18446744073709551616 - A) % 18446744073709551616 := ⟨_, rfl⟩
    have eH2 : IntKind.u64.wrap ((HI : Int) - (A : Int)) = (H2 : Int) := by rw [IntKind.wrap_u64]; omega
    have bH2 : H2 < 18446744073709551616 := by omega
    obtain ⟨Q3, hQ3⟩ : ∃ a, a = H2 / 2 ^ s := ⟨_, rfl⟩
    have d3 : (H2 : Int) / 2 ^ s = (Q3 : Int) := by rw [hQ3]; push_cast; rfl
    have bQ3 : Q3 < 18446744073709551616 := by have := Nat.div_le_self H2 (2 ^ s); omega
    have e3 : bits .or .u64 (Q3 : Int) (B : Int) = ((Q3 ||| B : Nat) : Int) := u64_or_nat Q3 B bQ3 (by omega)
    have HR : Hid (us x H L s = Q3 ||| B) := Lib.hid (by rw [HU.out, if_neg (by omega), ← hA, ← hV, ← hB, ← hH2, ← hQ3])
    have F1 : Hid (∀ y, Calls Tryz.prog 191 #[.bool (decide (MI < M2))] y fun e w' => e = .returned (.int .u64 (A : Nat)) ∧ w' = y) := Lib.hid fun y => by
      have h := bool97 (decide (MI < M2)) y
      rw [← hA] at h
      exact h
    have F2 : Hid (∀ y, Calls Tryz.prog 191 #[.bool (decide ((1 : Int) < (V : Int)))] y fun e w' => e = .returned (.int .u64 (B : Nat)) ∧ w' = y) := Lib.hid fun y => by
      have h := bool97 (decide (1 < V)) y
      rw [← hB] at h
      rw [show decide ((1 : Int) < (V : Int)) = decide (1 < V) from decide_eq_decide.2 (by omega)]
      exact h
    obtain ⟨R, hR⟩ : ∃ a, a = Q3 ||| B := ⟨_, rfl⟩
    rw [← hR] at e3 HR
    clear hA hV hB hH2 hQ3 hR HU hQ hQ2
    go_enter Tryz.func231, Tryz.ntmps231
    go_wp2_with fail
    refine (FH.out _).mono ?_
    rintro e w2 ⟨rfl, h2⟩
    rw [h2]
    clear h2 w2
    go_wp2_with fail
    refine (FL.out _).mono ?_
    rintro e w2 ⟨rfl, h2⟩
    rw [h2]
    clear h2 w2
    go_wp2_with fail
    refine (F1.out _).mono ?_
    rintro e w2 ⟨rfl, h2⟩
    rw [h2]
    clear h2 w2
    go_upto_region 7 with (fail)
    go_quiet (first | (go_at_call 191; exact Calls.quiet_of_same (F2.out _)))
    go_wp2_with fail
    go_ret
    exact ⟨by rw [HR.out]; rfl, _, rfl⟩
  · have hq : ((Q2 : Int) != (HI : Int)) = true := by simp; omega
    have e3 : bits .or .u64 (Q : Int) 1 = ((Q ||| 1 : Nat) : Int) := u64_or_nat Q 1 (by omega) (by omega)
    have HR : Hid (us x H L s = Q ||| 1) := Lib.hid (by rw [HU.out, if_pos hne])
    obtain ⟨R, hR⟩ : ∃ a, a = Q ||| 1 := ⟨_, rfl⟩
    rw [← hR] at e3 HR
    clear hR HU hQ hQ2 hne
    go_enter Tryz.func231, Tryz.ntmps231
    go_wp2_with fail
    refine (FH.out _).mono ?_
    rintro e w2 ⟨rfl, h2⟩
    rw [h2]
    clear h2 w2
    go_wp2_with fail
    go_ret
    exact ⟨by rw [HR.out]; rfl, 0, rfl⟩
end Us
end Go.Proofs.YtbnicnhkakbglaaGreatDoor

/- prescale. -/
namespace Go.Proofs.YtbnicnhkakbglaaGreatDoor
open Go.RowKit
namespace Us

/-- The powers of ten lie in their table. -/
def PT (w : World) (ph pl : Nat → Nat) : Prop := 13 < w.heap.size ∧ ∀ i, i < 696 → w.cell? ⟨13, i * 2, none⟩ = some (.int .u64 (ph i : Nat)) ∧ w.cell? ⟨13, i * 2 + 1, none⟩ = some (.int .u64 (pl i : Nat))
theorem cell_other {w : World} {a b : Addr} {v : Value} (h : a ≠ b) : (w.setCell a v).cell? b = w.cell? b := by apply World.cell?_setCell_other; exact h
theorem cell_same {w : World} {a : Addr} {u v : Value} (h : w.cell? a = some u) : (w.setCell a v).cell? a = some v := by apply World.cell?_setCell_same; exact h
/-- A scaler that may be written. -/
def Sv (w : World) (g : Nat) : Prop := (∃ u v x, w.cell? ⟨g, 0, none⟩ = some u ∧ w.cell? ⟨g, 1, none⟩ = some v ∧ w.cell? ⟨g, 2, none⟩ = some x) ∧ w.frozen? ⟨g, 0, none⟩ = false ∧ w.frozen? ⟨g, 1, none⟩ = false ∧ w.frozen? ⟨g, 2, none⟩ = false

set_option maxRecDepth 100000 in
set_option maxHeartbeats 1000000 in
theorem prescale128 (w : World) (g : Nat) (e lp : Int) (q : Nat) (ph pl : Nat → Nat) (hT : PT w ph pl) (hS : Sv w g) (hg : 13 < g) (hq : q < 696) (he : -3000 ≤ e ∧ e ≤ 3000) (hlp : -3000 ≤ lp ∧ lp ≤ 3000) :
    Calls Tryz.prog 230 #[.pointer (some ⟨g, 0, none⟩), .int .i64 e, .int .i64 ((q : Int) - 348), .int .i64 lp] w fun x w' => x = .returned (.tuple #[]) ∧ Sc w' g (ph q) (pl q) (-(e + lp + 3)) ∧ w' = ((w.setCell ⟨g, 0, none⟩ (.int .u64 (ph q : Nat))).setCell ⟨g, 1, none⟩ (.int .u64 (pl q : Nat))).setCell ⟨g, 2, none⟩ (.int .i64 (-(e + lp + 3))) := by
  obtain ⟨⟨u, v, x, c0, c1, c2⟩, z0, z1, z2⟩ := hS
  obtain ⟨t0, t1⟩ := hT.2 q hq
  obtain ⟨he1, he2⟩ := he
  obtain ⟨hl1, hl2⟩ := hlp
  have hne : ¬ g = 13 := by omega
  have hne2 : ¬ 13 = g := by omega
  have HC : Hid (w.cell? ⟨g, 0, none⟩ = some u ∧ w.cell? ⟨g, 1, none⟩ = some v ∧ w.cell? ⟨g, 2, none⟩ = some x) := Lib.hid ⟨c0, c1, c2⟩
  obtain ⟨A, hA⟩ : ∃ a, a = ph q := ⟨_, rfl⟩
  obtain ⟨B, hB⟩ : ∃ a, a = pl q := ⟨_, rfl⟩
  rw [← hA] at t0 ⊢
  rw [← hB] at t1 ⊢
  have hq1 : (q : Int) - 348 - -348 = (q : Int) := by omega
  clear hA hB hT
  go_enter Tryz.func230, Tryz.ntmps230
  go_wp2_with fail
  go_end0
  obtain ⟨c0, c1, c2⟩ := HC.out
  refine ⟨rfl, ⟨?_, ?_, ?_⟩, rfl⟩
  · rw [cell_other (by simp), cell_other (by simp), cell_same c0]
  · rw [cell_other (by simp), cell_same (u := v) (by rw [cell_other (by simp)]; exact c1)]
  · rw [cell_same (u := x) (by rw [cell_other (by simp), cell_other (by simp)]; exact c2)]

end Us
end Go.Proofs.YtbnicnhkakbglaaGreatDoor

/- What the scaling answers is one and the same in every world. -/
namespace Go.Proofs.YtbnicnhkakbglaaGreatDoor
open Go.RowKit
namespace Us

theorem pk_fin (s r : Nat) (e : Int) (_ : s ≤ 1) (hr : r < 9007199254740992) (he1 : -1074 ≤ e) : (pkErr r e = true → Fq.Ift (pk s r e)) ∧ (pkErr r e = false → Fq.Fnt (pk s r e)) := by
  unfold pkErr pk Fq.Ift Fq.Fnt
  by_cases h1 : r < 4503599627370496
  · rw [if_pos h1, decide_eq_false (by omega)]
    exact ⟨fun h => (by cases h), fun _ => by omega⟩
  · rw [if_neg h1, decide_eq_true (by omega)]
    by_cases h2 : 972 ≤ e
    · rw [if_pos h2, decide_eq_true h2]
      exact ⟨fun _ => by omega, fun h => (by cases h)⟩
    · rw [if_neg h2, decide_eq_false h2]
      refine ⟨fun h => (by cases h), fun _ => ?_⟩
      have : (1075 + e).toNat ≤ 2046 := by omega
      omega
set_option maxRecDepth 100000 in
set_option maxHeartbeats 1000000 in
theorem pack_det (s r : Nat) (e : Int) (hs : s ≤ 1) (hr : r ≤ 9007199254740992) (he1 : -1074 ≤ e) (he2 : e ≤ 2000) :
    ∃ v b, ((b = true → Fq.Ift v) ∧ (b = false → Fq.Fnt v)) ∧ ∀ w, Calls Tryz.prog 236 #[.int .u64 ((s * 9223372036854775808 + r : Nat) : Int), .int .i64 e] w fun x w' => x = .returned (.tuple #[.float .f64 v, errOf b]) ∧ w' = w := by
  by_cases h : r < 9007199254740992
  · exact ⟨_, _, pk_fin s r e hs h he1, fun w => pack134 s r e hs h he1 he2 w⟩
  · have hr2 : r = 9007199254740992 := by omega
    subst hr2
    have r98 := run98
    obtain ⟨X, hX⟩ : ∃ X, X = s * 9223372036854775808 + 9007199254740992 := ⟨_, rfl⟩
    rw [← hX]
    have bX : X < 18446744073709551616 := by omega
    have ha : bits .and .u64 (X : Int) 4503599627370496 = 0 := by
      have h2 : s = 0 ∨ s = 1 := by omega
      rcases h2 with rfl | rfl
      · rw [hX]; exact (u64_and_nat (0 * 9223372036854775808 + 9007199254740992) 4503599627370496 (by decide) (by decide)).trans (congrArg (fun z : Nat => (z : Int)) (by decide +kernel))
      · rw [hX]; exact (u64_and_nat (1 * 9223372036854775808 + 9007199254740992) 4503599627370496 (by decide) (by decide)).trans (congrArg (fun z : Nat => (z : Int)) (by decide +kernel))
    refine ⟨X, false, ⟨fun h => (by cases h), fun _ => by unfold Fq.Fnt; omega⟩, fun w => ?_⟩
    clear hX
    go_enter Tryz.func236, Tryz.ntmps236
    go_wp2_with fail
    go_ret2
    exact ⟨rfl, rfl⟩
end Us
end Go.Proofs.YtbnicnhkakbglaaGreatDoor

/- parseFloat64: one and the same in every world. -/
namespace Go.Proofs.YtbnicnhkakbglaaGreatDoor
open Go.RowKit
namespace Us

theorem us_lt (x H L s : Nat) (hx : x < 18446744073709551616) (hH : H < 18446744073709551616) (hs : 8 ≤ s) : us x H L s < 2 ^ 56 := by
  have hq : ∀ v, v < 18446744073709551616 → v / 2 ^ s < 2 ^ 56 := fun v hv => by
    have h8 : 2 ^ 8 ≤ 2 ^ s := Nat.pow_le_pow_right (by decide) hs
    have h1 : v / 2 ^ s ≤ v / 2 ^ 8 := Nat.div_le_div_left h8 (by decide)
    omega
  have hHI : x * H / 18446744073709551616 < 18446744073709551616 := by
    rw [Nat.div_lt_iff_lt_mul (by decide)]
    have : x * H ≤ 18446744073709551615 * 18446744073709551615 := Nat.mul_le_mul (by omega) (by omega)
    omega
  unfold us
  split
  · exact Nat.or_lt_two_pow (hq _ hHI) (by decide)
  · refine Nat.or_lt_two_pow (hq _ (Nat.mod_lt _ (by decide))) ?_
    unfold b2
    split <;> decide
theorem lg_in (q : Nat) (hq : q < 696) : -1157 ≤ lg ((q : Int) - 348) ∧ lg ((q : Int) - 348) ≤ 1153 := by unfold lg; omega

set_option maxRecDepth 100000 in
set_option maxHeartbeats 1000000 in
theorem parse_det (ph pl : Nat → Nat) (hph : ∀ i, i < 696 → ph i < 18446744073709551616 ∧ pl i < 18446744073709551616) (D q s : Nat) (hD : D < 18446744073709551616) (hq : q < 696) (hs : s ≤ 1) :
    ∃ v b, ((b = true → Fq.Ift v) ∧ (b = false → Fq.Fnt v)) ∧ ∀ w, PT w ph pl → Calls Tryz.prog 194 #[.int .u64 (D : Nat), .int .i64 ((q : Int) - 348), .int .u64 ((s * 9223372036854775808 : Nat) : Int)] w fun x w' => x = .returned (.tuple #[.float .f64 v, errOf b]) ∧ Below w.heap.size w w' := by
  obtain ⟨Bl, hBl⟩ : ∃ b, b = Lib.bitLen D := ⟨_, rfl⟩
  have hB64 : Bl ≤ 64 := by rw [hBl]; exact Lib.bitLen_le D 64 (by decide) hD
  obtain ⟨hl1, hl2⟩ := lg_in q hq
  have F83 : Hid (∀ y, Calls Tryz.prog 161 #[.int .u64 (D : Nat)] y fun e w' => e = .returned (.int .i64 (Bl : Nat)) ∧ w' = y) := Lib.hid fun y => by
    have h := Tryz.bits_Len64 (D : Int) y (by omega) (by omega)
    rw [Int.toNat_natCast, ← hBl] at h
    exact h
  have F127 : Hid (∀ y, Calls Tryz.prog 229 #[.int .i64 ((q : Int) - 348)] y fun e w' => e = .returned (.int .i64 (lg ((q : Int) - 348))) ∧ w' = y) := Lib.hid fun y => log127 _ (by omega) (by omega) y
  obtain ⟨LP, hLP⟩ : ∃ l, l = lg ((q : Int) - 348) := ⟨_, rfl⟩
  rw [← hLP] at hl1 hl2 F127
  obtain ⟨SG, hSG⟩ : ∃ a, a = s * 9223372036854775808 := ⟨_, rfl⟩
  have hSGb : SG ≤ 9223372036854775808 := by omega
  rw [← hSG]
  have HSG := Lib.hid hSG
  obtain ⟨E, hE⟩ : ∃ E, E = min 1074 (53 - (Bl : Int) - LP) := ⟨_, rfl⟩
  obtain ⟨hph1, hph2⟩ := hph q hq
  have hE1 : -1200 ≤ E := by omega
  have hE2 : E ≤ 1074 := by omega
  obtain ⟨S0, hS0⟩ : ∃ S0 : Nat, (S0 : Int) = -(E - (64 - (Bl : Int)) + LP + 3) := ⟨(-(E - (64 - (Bl : Int)) + LP + 3)).toNat, by omega⟩
  have hS8 : 8 ≤ S0 := by omega
  have hS9 : S0 < 5000 := by omega
  have F128 : Hid (∀ y, PT y ph pl → Calls Tryz.prog 230 #[.pointer (some ⟨y.heap.size, 0, none⟩), .int .i64 (E - (64 - (Bl : Int))), .int .i64 ((q : Int) - 348), .int .i64 LP] (y.alloc (.cells #[.int .u64 0, .int .u64 0, .int .i64 0] 256)) fun x w' => x = .returned (.tuple #[]) ∧ Sc w' y.heap.size (ph q) (pl q) (S0 : Int) ∧ Below y.heap.size y w') := Lib.hid fun y h1 => by
    have h2 : PT (y.alloc (.cells #[.int .u64 0, .int .u64 0, .int .i64 0] 256)) ph pl := by
      refine ⟨by have := h1.1; simp; omega, fun i hi => ?_⟩
      rw [World.cell?_alloc_past _ _ _ h1.1, World.cell?_alloc_past _ _ _ h1.1]
      exact h1.2 i hi
    refine (prescale128 _ y.heap.size (E - (64 - (Bl : Int))) LP q ph pl h2 ?_ h1.1 hq (by omega) (by omega)).mono ?_
    · refine ⟨⟨.int .u64 0, .int .u64 0, .int .i64 0, ?_, ?_, ?_⟩, ?_, ?_, ?_⟩
      · rw [World.cell?_alloc_at (w := y) _ _ y.heap.size _ rfl]; rfl
      · rw [World.cell?_alloc_at (w := y) _ _ y.heap.size _ rfl]; rfl
      · rw [World.cell?_alloc_at (w := y) _ _ y.heap.size _ rfl]; rfl
      · exact World.frozen?_alloc_at (w := y) _ _ y.heap.size _ rfl
      · exact World.frozen?_alloc_at (w := y) _ _ y.heap.size _ rfl
      · exact World.frozen?_alloc_at (w := y) _ _ y.heap.size _ rfl
    · rintro x w' ⟨rfl, h3, rfl⟩
      refine ⟨rfl, by rw [hS0]; exact h3, ?_⟩
      exact ((((Below.refl _ _).alloc (Nat.le_refl _) _).setCell (Nat.le_refl _) _).setCell (Nat.le_refl _) _).setCell (Nat.le_refl _) _
  have hmin : min 1074 (53 - (Bl : Int) - LP) = E := hE.symm
  clear hE hLP hBl hSG hph hS0
  obtain ⟨H, hH⟩ : ∃ h, h = ph q := ⟨_, rfl⟩
  obtain ⟨L, hL⟩ : ∃ h, h = pl q := ⟨_, rfl⟩
  rw [← hH] at hph1 F128
  rw [← hL] at hph2 F128
  clear hH hL
  have r98 := run98
  by_cases h64 : 64 ≤ S0
  · have hz : bits .or .u64 ((SG : Nat) : Int) 0 = (SG : Nat) := by
      have h := u64_or_nat SG 0 (by omega) (by decide)
      rw [Nat.or_zero] at h
      exact h
    refine ⟨(bits .or .u64 (SG : Nat) 0).toNat, false, ⟨fun h => (by cases h), fun _ => by rw [hz]; have := HSG.out; unfold Fq.Fnt; omega⟩, fun w hT => ?_⟩
    clear hz
    go_enter Tryz.func194, Tryz.ntmps194
    go_wp2_with fail
    refine (F83.out _).mono ?_
    rintro e w2 ⟨rfl, h2⟩
    rw [h2]
    clear h2 w2
    go_wp2_with fail
    refine (F127.out _).mono ?_
    rintro e w2 ⟨rfl, h2⟩
    rw [h2]
    clear h2 w2
    go_wp2_with fail
    refine (F128.out w hT).mono ?_
    rintro e w2 ⟨rfl, ⟨c0, c1, c2⟩, hbw⟩
    dsimp only
    go_wp2_with fail
    go_ret2
    exact ⟨rfl, (hbw.mono (Nat.le_refl _))⟩
  · have h64' : decide ((64 : Int) ≤ (S0 : Int)) = false := by rw [decide_eq_false_iff_not]; omega
    obtain ⟨X, hX⟩ : ∃ X : Nat, IntKind.u64.wrap ((D : Int) * 2 ^ (64 - Bl)) = (X : Int) := ⟨(IntKind.u64.wrap ((D : Int) * 2 ^ (64 - Bl))).toNat, by rw [IntKind.wrap_u64]; omega⟩
    have hXb : X < 18446744073709551616 := by rw [IntKind.wrap_u64] at hX; omega
    have hU := us_lt X H L S0 hXb hph1 hS8
    have F129 : Hid (∀ y g, Sc y g H L (S0 : Int) → Calls Tryz.prog 231 #[.int .u64 (X : Nat), .pointer (some ⟨g, 0, none⟩)] y fun e w' => e = .returned (.int .u64 (us X H L S0 : Nat)) ∧ ∃ m, w' = y.drewN m) := Lib.hid fun y g h => uscale129 y g X H L S0 hXb hph1 hph2 (by omega) h
    obtain ⟨U, hUe⟩ : ∃ u, u = us X H L S0 := ⟨_, rfl⟩
    rw [← hUe] at hU F129
    have F130 : Hid (∀ y, Calls Tryz.prog 232 #[.int .u64 9007199254740992] y fun e w' => e = .returned (.int .u64 36028797018963966) ∧ w' = y) := Lib.hid unmin130
    obtain ⟨SH, hSH⟩ : ∃ u, u = b2 (decide (36028797018963966 ≤ U)) := ⟨_, rfl⟩
    have hSHb : SH ≤ 1 := by rw [hSH]; unfold b2; split <;> omega
    have F84 : Hid (∀ y, Calls Tryz.prog 174 #[.bool (decide ((36028797018963966 : Int) ≤ (U : Int)))] y fun e w' => e = .returned (.int .i64 (SH : Nat)) ∧ w' = y) := Lib.hid fun y => by
      have h := bool84 (decide (36028797018963966 ≤ U)) y
      rw [← hSH] at h
      rw [show decide ((36028797018963966 : Int) ≤ (U : Int)) = decide (36028797018963966 ≤ U) from decide_eq_decide.2 (by omega)]
      exact h
    obtain ⟨U2, hU2⟩ : ∃ u, u = U / 2 ^ SH ||| (U &&& 1) := ⟨_, rfl⟩
    have hU2b : U2 < 2 ^ 55 := by
      rw [hU2]
      refine Nat.or_lt_two_pow ?_ (Nat.lt_of_le_of_lt Nat.and_le_right (by decide))
      by_cases h : 36028797018963966 ≤ U
      · have : SH = 1 := by rw [hSH, decide_eq_true h]; rfl
        subst this
        omega
      · have : SH = 0 := by rw [hSH, decide_eq_false h]; rfl
        subst this
        omega
    have eU2 : bits .or .u64 ((U : Int) / 2 ^ SH) (bits .and .u64 (U : Int) 1) = (U2 : Int) := by
      have h1 := u64_and_nat U 1 (by omega) (by omega)
      have h2 : U / 2 ^ SH ≤ U := Nat.div_le_self _ _
      have h3 : U &&& 1 ≤ 1 := Nat.and_le_right
      have h4 := u64_or_nat (U / 2 ^ SH) (U &&& 1) (by omega) (by omega)
      rw [← hU2] at h4
      rw [← h4]
      push_cast at h1 ⊢
      rw [h1]
    have F132 : Hid (∀ y, Calls Tryz.prog 234 #[.int .u64 (U2 : Nat)] y fun e w' => e = .returned (.int .u64 (rnd U2 : Nat)) ∧ w' = y) := Lib.hid fun y => round132 U2 (by omega) y
    obtain ⟨R, hR⟩ : ∃ r, r = rnd U2 := ⟨_, rfl⟩
    have hRb : R ≤ 2 ^ 53 := by rw [hR]; unfold rnd; omega
    rw [← hR] at F132
    obtain ⟨P, hP⟩ : ∃ p, p = SG ||| R := ⟨_, rfl⟩
    have hPb : P < 18446744073709551616 := by rw [hP]; exact Nat.or_lt_two_pow (n := 64) (by omega) (by omega)
    have eP : bits .or .u64 (SG : Int) (R : Int) = (P : Int) := by rw [hP]; exact u64_or_nat SG R (by omega) (by omega)
    have hP2 : P = s * 9223372036854775808 + R := by
      have := HSG.out
      rw [hP]
      have h2 := nat_join 63 SG R (by omega) (by omega)
      omega
    obtain ⟨v, b, hvb, hpk⟩ := pack_det s R (-(E - (SH : Int))) hs (by omega) (by omega) (by omega)
    rw [← hP2] at hpk
    clear hUe hph1 hph2 hXb hSH hU2 hR hP hP2
    have F134 := Lib.hid hpk
    clear hpk
    refine ⟨v, b, hvb, fun w hT => ?_⟩
    go_enter Tryz.func194, Tryz.ntmps194
    go_wp2_with fail
    refine (F83.out _).mono ?_
    rintro e w2 ⟨rfl, h2⟩
    rw [h2]
    clear h2 w2
    go_wp2_with fail
    refine (F127.out _).mono ?_
    rintro e w2 ⟨rfl, h2⟩
    rw [h2]
    clear h2 w2
    go_wp2_with fail
    refine (F128.out w hT).mono ?_
    rintro e w2 ⟨rfl, ⟨c0, c1, c2⟩, hbw⟩
    dsimp only
    go_wp2_with fail
    refine (F129.out _ _ ⟨c0, c1, c2⟩).mono ?_
    rintro e w3 ⟨rfl, m, h3⟩
    have hbw3 : Below w.heap.size w w3 := by rw [h3]; exact hbw.trans ⟨rfl, rfl, rfl, Nat.le_refl _, fun _ _ => rfl⟩
    clear h3 hbw c0 c1 c2
    dsimp only
    go_wp2_with fail
    refine (F130.out _).mono ?_
    rintro e w4 ⟨rfl, h4⟩
    rw [h4]
    clear h4 w4
    dsimp only
    go_wp2_with fail
    refine (F84.out _).mono ?_
    rintro e w4 ⟨rfl, h4⟩
    rw [h4]
    clear h4 w4
    dsimp only
    go_wp2_with fail
    refine (F132.out _).mono ?_
    rintro e w4 ⟨rfl, h4⟩
    rw [h4]
    clear h4 w4
    dsimp only
    go_wp2_with fail
    refine (F134.out _).mono ?_
    rintro e w4 ⟨rfl, h4⟩
    rw [h4]
    clear h4 w4
    dsimp only
    go_wp2_with fail
    go_ret2
    exact ⟨rfl, hbw3⟩
end Us
end Go.Proofs.YtbnicnhkakbglaaGreatDoor
