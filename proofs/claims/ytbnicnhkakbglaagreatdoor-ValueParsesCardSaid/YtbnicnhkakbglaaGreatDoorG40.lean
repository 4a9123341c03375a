import Derived.Test.YtbnicnhkakbglaaGreatDoorG39
import Derived.Test.YtbnicnhkakbglaaGreatDoorG21
import Derived.Laws.StructEq

/- Parse: one answer for the program and the document. -/
namespace Go.Proofs.YtbnicnhkakbglaaGreatDoor
open Go.RowKit
namespace Wa
open Jb Sa Sb Vd Vm Dc Rf Us Fq

/-- The tables, and ErrRange. -/
def TT (pv ph pl dlv : Nat → Nat) (CS : Nat → ByteArray) (w : World) : Prop := ∃ tb tp, AT w pv ph pl dlv CS tb tp ∧ RC w
theorem TT.below {pv ph pl dlv : Nat → Nat} {CS : Nat → ByteArray} {w w' : World} (h : TT pv ph pl dlv CS w) (b : Below w.heap.size w w') : TT pv ph pl dlv CS w' := by
  obtain ⟨tb, tp, h1, h2⟩ := h
  exact ⟨tb, tp, h1.below b, h2.below b⟩
/-- A value, and an error. -/
def ans (A1 A2 A3 : Int) (C : ByteArray) : Value := .tuple #[.agg #[.int .i64 A1, .int .u64 A2, .string C], .int .i64 A3]
def Both (T : World → Prop) (S : ByteArray) (A1 A2 A3 : Int) (C : ByteArray) : Prop :=
  ∀ w, T w → (Calls Tryz.prog 11 #[.string S] w fun e w' => e = .returned (ans A1 A2 A3 C) ∧ Below w.heap.size w w') ∧ Calls Tryz.prog 10 #[.string S] w fun e w' => e = .returned (ans A1 A2 A3 C) ∧ Below w.heap.size w w'
theorem sb_nat (S : ByteArray) : Sb S (nat S) := ⟨(nat_len S).symm, fun i hi => by rw [nat_get, by8_get]⟩
theorem one_i {S : ByteArray} (h1 : S.size = 1) (h : by8 S 0 = 105) : S = ⟨#[105]⟩ := by
  apply bl_inj
  obtain ⟨c, e1, e2, _⟩ := drop_cons S 0 (by omega)
  rw [List.drop_zero] at e1
  have e3 : (bl S).drop 1 = [] := List.drop_eq_nil_of_le (by rw [bl_len]; omega)
  rw [e3] at e1
  rw [e1, show c = 105 from UInt8.toNat.inj (by rw [e2, h]; rfl)]
  rfl
theorem both (pv ph pl dlv l5v : Nat → Nat) (CS : Nat → ByteArray) (hpv : ∀ i, i < 23 → Pw (pv i)) (hph : ∀ i, i < 696 → ph i < 18446744073709551616 ∧ pl i < 18446744073709551616) (hLF : LF dlv l5v CS)
    (S : ByteArray) (hs : S.size ≤ 140737488355328) : ∃ A1 A2 A3 C, Both (TT pv ph pl dlv CS) S A1 A2 A3 C := by
  by_cases h0 : 0 < S.size
  case neg =>
    obtain rfl : S = ⟨#[]⟩ := nil_of (by omega)
    exact ⟨0, 0, 2, ⟨#[]⟩, fun w _ => ⟨pempty w, rempty w⟩⟩
  by_cases ht : ∃ k, k < 5 ∧ word k = S
  · refine ⟨3, 1, 0, ⟨#[]⟩, fun w _ => ⟨?_, rword_t w S ht⟩⟩
    obtain ⟨k, hk, rfl⟩ := ht
    match k, hk with
    | 0, _ => exact word0 w
    | 1, _ => exact word1 w
    | 2, _ => exact word2 w
    | 3, _ => exact word3 w
    | 4, _ => exact word4 w
  have ht' : ∀ k, k < 5 → word k ≠ S := fun k hk e => ht ⟨k, hk, e⟩
  by_cases hf : ∃ k, k < 5 ∧ word (5 + k) = S
  · refine ⟨3, 0, 0, ⟨#[]⟩, fun w _ => ⟨?_, rword_f w S ht' hf⟩⟩
    obtain ⟨k, hk, rfl⟩ := hf
    match k, hk with
    | 0, _ => exact word5 w
    | 1, _ => exact word6 w
    | 2, _ => exact word7 w
    | 3, _ => exact word8 w
    | 4, _ => exact word9 w
  have hw : ∀ k, k < 10 → word k ≠ S := fun k hk e => by
    by_cases h5 : k < 5
    · exact ht' k h5 e
    · exact hf ⟨k - 5, by omega, by rw [show 5 + (k - 5) = k from by omega]; exact e⟩
  by_cases h34 : by8 S 0 = 34
  · exact ⟨_, _, _, _, fun w hT => ⟨pquote w S hs h0 h34 (TT pv ph pl dlv CS) (fun _ _ h b => h.below b) hT _ _ _ _ (fun y _ => parseString y S hs), rquote w S hs h0 h34 hw⟩⟩
  by_cases hl : by8 S (S.size - 1) = 105
  · by_cases h1 : S.size = 1
    · have e := one_i h1 (by rw [h1] at hl; exact hl)
      have hc : okI (cutl S) = false := by rw [e]; decide +kernel
      have hff : ff S = false := by rw [e]; decide +kernel
      refine ⟨0, 0, 2, ⟨#[]⟩, fun w hT => ⟨pint w S hs h0 h34 hl (TT pv ph pl dlv CS) (fun _ _ h b => h.below b) hT _ _ _ _ (fun y hy => parseInteger y S hs h0 hl hy.choose_spec.choose_spec.2 0 0 2 (fun _ => ⟨rfl, rfl, rfl⟩) (fun h => by rw [hc] at h; cases h) (fun h => by rw [hc] at h; cases h)), rno w S hs h0 h34 (.inl h1) hw (by rw [hff]; rfl)⟩⟩
    · obtain ⟨A1, A2, A3, n1, n2, n3⟩ : ∃ A1 A2 A3 : Int, (okI (cutl S) = false → A1 = 0 ∧ A2 = 0 ∧ A3 = 2) ∧ (okI (cutl S) = true → iv (cutl S) = none → A1 = 0 ∧ A2 = 0 ∧ A3 = 3) ∧ (okI (cutl S) = true → ∀ v, iv (cutl S) = some v → A1 = 2 ∧ A2 = IntKind.u64.wrap v ∧ A3 = 0) := by
        cases ho : okI (cutl S) with
        | false => exact ⟨0, 0, 2, fun _ => ⟨rfl, rfl, rfl⟩, fun h => (by cases h), fun h => (by cases h)⟩
        | true =>
          cases hv : iv (cutl S) with
          | none => exact ⟨0, 0, 3, fun h => (by cases h), fun _ _ => ⟨rfl, rfl, rfl⟩, fun _ v h => (by cases h)⟩
          | some u => exact ⟨2, IntKind.u64.wrap u, 0, fun h => (by cases h), fun _ h => (by cases h), fun _ v h => (by cases h; exact ⟨rfl, rfl, rfl⟩)⟩
      exact ⟨A1, A2, A3, ⟨#[]⟩, fun w hT => ⟨pint w S hs h0 h34 hl (TT pv ph pl dlv CS) (fun _ _ h b => h.below b) hT _ _ _ _ (fun y hy => parseInteger y S hs h0 hl hy.choose_spec.choose_spec.2 A1 A2 A3 n1 n2 n3), rint w S hs (by omega) h34 hl hw A1 A2 A3 n1 n2 n3⟩⟩
  cases hff : (ff S && decide (S.size ≤ 400)) with
  | false =>
    have hno : 400 < S.size ∨ ff S = false := by
      by_cases h4 : S.size ≤ 400
      · rw [decide_eq_true h4, Bool.and_true] at hff; exact .inr hff
      · exact .inl (by omega)
    exact ⟨0, 0, 2, ⟨#[]⟩, fun w hT => ⟨pfloat w S hs h0 h34 hl hw (TT pv ph pl dlv CS) (fun _ _ h b => h.below b) hT _ _ _ _ (fun y _ => parseFloat_no y S hs hno), rno w S hs h0 h34 (.inr hl) hw hff⟩⟩
  | true =>
    obtain ⟨hf1, h4⟩ := Bool.and_eq_true_iff.1 hff
    have h4 : S.size ≤ 400 := of_decide_eq_true h4
    obtain ⟨sg, mn, ex, hT⟩ := ff_text hf1
    have hl4 : (nat S).length ≤ 400 := by rw [nat_len]; exact h4
    obtain ⟨v, b, hvb, hR⟩ := float_read pv ph pl dlv l5v CS hpv hph hLF S (nat S) sg mn ex (sb_nat S) hT hl4 (fun w => rf89 w S (nat S) sg mn ex (sb_nat S) hT hl4)
    have hPF : ∀ w, TT pv ph pl dlv CS w → Calls Tryz.prog 29 #[.string S, .int .i64 64] w fun e w' => ∃ er, e = .returned (.tuple #[.float .f64 v, er]) ∧ (b = false → er = .nilIface) ∧ (b = true → ∃ t x, er = .iface t x) ∧ Below w.heap.size w w' := by
      rintro w ⟨tb, tp, h1, h2⟩
      exact hR w tb tp h1 h2
    have hY := fun (y : World) (hy : TT pv ph pl dlv CS y) => parseFloat_yes y S h4 hf1 (TT pv ph pl dlv CS) (fun _ _ h b => h.below b) v b hPF hy
    cases b with
    | true => exact ⟨0, 0, 3, ⟨#[]⟩, fun w hT => ⟨pfloat w S hs h0 h34 hl hw (TT pv ph pl dlv CS) (fun _ _ h b => h.below b) hT _ _ _ _ hY, rfloat_inf w S h4 h0 h34 (.inr hl) hw hf1 (TT pv ph pl dlv CS) (fun _ _ h b => h.below b) v _ _ (hvb.1 rfl) hPF hT⟩⟩
    | false => exact ⟨1, v, 0, ⟨#[]⟩, fun w hT => ⟨pfloat w S hs h0 h34 hl hw (TT pv ph pl dlv CS) (fun _ _ h b => h.below b) hT _ _ _ _ hY, rfloat_fin w S h4 h0 h34 (.inr hl) hw hf1 (TT pv ph pl dlv CS) (fun _ _ h b => h.below b) v _ _ (hvb.2 rfl) hPF hT⟩⟩
end Wa
end Go.Proofs.YtbnicnhkakbglaaGreatDoor

/- The law ValueParses. -/
namespace Go.Proofs.YtbnicnhkakbglaaGreatDoor
open Go.RowKit
namespace Wb
open Vd Wa

theorem eq_run (w : World) (A1 A2 : Int) (C : ByteArray) : (binOp .eql 25 (.agg #[.int .i64 A1, .int .u64 A2, .string C]) (.agg #[.int .i64 A1, .int .u64 A2, .string C])).run Tryz.prog w = .ok (.bool true) w := by
  rw [run_eql_struct, run_equalIn_agg _ _ _ _ _ (by kernel_rfl) Tryz.stoodInHeld25]
  simp [go_sem, Program.fieldsOf, Tryz.underlying25]
/-- A value laid in a block of its own. -/
theorem laid3 (w : World) (a b c : Value) (W : World) (hW : W = w.alloc (.cells #[a, b, c] 25)) :
    W.cell? ⟨w.heap.size, 0, none⟩ = some a ∧ W.cell? ⟨w.heap.size, 1, none⟩ = some b ∧ W.cell? ⟨w.heap.size, 2, none⟩ = some c ∧ Below w.heap.size w W ∧ w.heap.size < W.heap.size := by
  subst hW
  exact ⟨Vm.cell_new _ _ _ 0, Vm.cell_new _ _ _ 1, Vm.cell_new _ _ _ 2, (Below.refl _ w).alloc (Nat.le_refl _) _, by simp⟩
set_option maxRecDepth 100000 in
set_option maxHeartbeats 1000000 in
theorem law (w : World) (S : ByteArray) (T : World → Prop) (hTT : ∀ w w', T w → Below w.heap.size w w' → T w') (haw : ∀ w, T w → Calls Tryz.prog 9 #[] w fun e w' => e = .returned (.bool true) ∧ Below w.heap.size w w') (A1 A2 A3 : Int) (C : ByteArray) (hB : Both T S A1 A2 A3 C) (hw : T w) :
    Calls Tryz.prog 3 #[.string S] w fun e w' => e = .returned (.bool true) ∧ Below w.heap.size w w' := by
  have HA := Lib.hid haw
  have HT := Lib.hid hTT
  have HP : Hid (∀ w, T w → Calls Tryz.prog 11 #[.string S] w fun e w' => e = .returned (.tuple #[.agg #[.int .i64 A1, .int .u64 A2, .string C], .int .i64 A3]) ∧ Below w.heap.size w w') := Lib.hid fun w h => (hB w h).1
  have HR : Hid (∀ w, T w → Calls Tryz.prog 10 #[.string S] w fun e w' => e = .returned (.tuple #[.agg #[.int .i64 A1, .int .u64 A2, .string C], .int .i64 A3]) ∧ Below w.heap.size w w') := Lib.hid fun w h => (hB w h).2
  have HW := Lib.hid hw
  have EQ := fun w : World => eq_run w A1 A2 C
  clear haw hTT hB hw
  go_enter Tryz.func3, Tryz.ntmps3
  go_upto_region 3 with (go_at_call 9; refine (HA.out _ HW.out).mono ?_; rintro e w1 ⟨rfl, b1⟩; have B1 := Lib.hid b1; clear b1)
  have HW1 := Lib.hid (HT.out _ _ HW.out B1.out)
  go_upto_region 4 with (go_at_call 10; refine (HR.out _ HW1.out).mono ?_; rintro e w2 ⟨rfl, b2⟩; have B2 := Lib.hid b2; clear b2)
  obtain ⟨w3, hw3⟩ : ∃ w3, w3 = w2.alloc (.cells #[.int .i64 A1, .int .u64 A2, .string C] 25) := ⟨_, rfl⟩
  rw [← hw3]
  obtain ⟨c0, c1, c2, b3, z3⟩ := laid3 w2 _ _ _ w3 hw3
  clear hw3
  have C0 := Lib.hid c0
  have C1 := Lib.hid c1
  have C2 := Lib.hid c2
  have B3 := Lib.hid b3
  have Z3 := Lib.hid z3
  have HW2 := Lib.hid (HT.out _ _ HW1.out B2.out)
  have HW3 := Lib.hid (HT.out _ _ HW2.out B3.out)
  obtain ⟨g, hg⟩ : ∃ g, g = w2.heap.size := ⟨_, rfl⟩
  rw [← hg] at C0 C1 C2 Z3 B3
  rw [← hg]
  have HG := Lib.hid hg
  clear c0 c1 c2 b3 z3 hg
  go_upto_region 5 with (go_at_call 11; refine (HP.out _ HW3.out).mono ?_; rintro e w4 ⟨rfl, b4⟩; have B4 := Lib.hid b4; clear b4)
  obtain ⟨w5, hw5⟩ : ∃ w5, w5 = w4.alloc (.cells #[.int .i64 A1, .int .u64 A2, .string C] 25) := ⟨_, rfl⟩
  rw [← hw5]
  obtain ⟨d0, d1, d2, b5, z5⟩ := laid3 w4 _ _ _ w5 hw5
  clear hw5
  have B5 := Lib.hid b5
  have hz4 := B4.out.size
  have hz3 := Z3.out
  have e0 : w5.cell? ⟨g, 0, none⟩ = some (.int .i64 A1) := by rw [b5.cell (p := ⟨g, 0, none⟩) (by simp; omega), B4.out.cell (p := ⟨g, 0, none⟩) hz3]; exact C0.out
  have e1 : w5.cell? ⟨g, 1, none⟩ = some (.int .u64 A2) := by rw [b5.cell (p := ⟨g, 1, none⟩) (by simp; omega), B4.out.cell (p := ⟨g, 1, none⟩) hz3]; exact C1.out
  have e2 : w5.cell? ⟨g, 2, none⟩ = some (.string C) := by rw [b5.cell (p := ⟨g, 2, none⟩) (by simp; omega), B4.out.cell (p := ⟨g, 2, none⟩) hz3]; exact C2.out
  obtain ⟨g5, hg5⟩ : ∃ g, g = w4.heap.size := ⟨_, rfl⟩
  rw [← hg5] at d0 d1 d2
  rw [← hg5]
  clear b5 z5 hz4 hz3 hg5
  go_wp2_with fail
  go_ret
  have k1 := B1.out.size
  have k2 := B2.out.size
  have k3 := Nat.le_of_lt Z3.out
  have k4 := B4.out.size
  have hgk := HG.out
  exact ⟨rfl, B1.out.trans ((B2.out.mono k1).trans ((B3.out.mono (by omega)).trans ((B4.out.mono (by omega)).trans (B5.out.mono (by omega)))))⟩
end Wb
end Go.Proofs.YtbnicnhkakbglaaGreatDoor
