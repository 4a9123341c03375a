import Derived.Test.YtbnicnhkakbglaaGreatDoorG30
import Derived.Test.YtbnicnhkakbglaaGreatDoorG26
import Derived.Test.YtbnicnhkakbglaaGreatDoorG15
import Derived.Test.YtbnicnhkakbglaaGreatDoorG10
import Derived.Test.YtbnicnhkakbglaaGreatDoorG11
import Derived.Test.YtbnicnhkakbglaaGreatDoorG29
import Derived.OwnWalk
import Derived.Test.YtbnicnhkakbglaaGreatDoorG27
import Derived.Test.YtbnicnhkakbglaaGreatDoorG08

/- The tables that reading a float wants; floatBits, whatever the point; the number of a text. -/
namespace Go.Proofs.YtbnicnhkakbglaaGreatDoor
open Go.RowKit
namespace Dc
open Us Dm Rm Rf

theorem bits96 (a : De) (ng : Bool) (hg : Gd a) (dlv l5v : Nat → Nat) (CS : Nat → ByteArray) (hF : LF dlv l5v CS) :
    ∃ v o, ((o = true ∧ v = asm 1024 0 ng) ∨ (o = false ∧ ∃ E X : Int, -1023 ≤ E ∧ E ≤ 1023 ∧ v = asm E X ng)) ∧ ∀ w g tb tp, Db w g a ng → GT w dlv CS g tb tp → Calls Tryz.prog 190 #[.pointer (some ⟨g, 0, none⟩), .pointer (some ⟨7, 0, none⟩)] w fun e w' => e = .returned (.tuple #[.int .u64 v, .bool o]) ∧ Only w w' g := by
  by_cases h1 : 310 < a.dp
  · exact ⟨_, _, .inl ⟨rfl, rfl⟩, fun w g tb tp h hG => bits_over w g a ng h h1 dlv CS tb tp hG⟩
  · by_cases h2 : a.dp < -330
    · exact ⟨_, _, .inr ⟨rfl, -1023, 0, by omega, by omega, rfl⟩, fun w g tb tp h hG => bits_none w g a ng h h2 dlv CS tb tp hG⟩
    · exact bits_main a ng hg (by omega) (by omega) dlv l5v CS hF
theorem nval_pos {l : List Nat} (h : Mantissa l) (hm : (rst l).m ≠ 0) : nval l ≠ 0 := by
  intro h0
  have h1 := nval_len h l.length (Nat.le_refl _)
  obtain ⟨i1, _, i3, _⟩ := rst_inv h l.length (Nat.le_refl _)
  rw [List.take_length] at h1 i1 i3
  rw [h0, dlen_zero] at h1
  rw [show (rst l).nm = 0 from by omega] at i1
  omega
theorem nval_short {l : List Nat} (h : Mantissa l) : dlen (nval l) ≤ l.length := by
  have h1 := nval_len h l.length (Nat.le_refl _)
  obtain ⟨_, _, _, i4, _⟩ := rst_inv h l.length (Nat.le_refl _)
  rw [List.take_length] at h1 i4
  omega
theorem cof {w w' : World} {a : Addr} {v : Value} (b : Below w.heap.size w w') (hc : w.cell? a = some v) : w'.cell? a = some v := by
  rw [b.cell (World.block_lt_of_cell? w a hc)]
  exact hc
/-- All tables. -/
structure AT (w : World) (pv ph pl dlv : Nat → Nat) (CS : Nat → ByteArray) (tb tp : Nat × Nat) : Prop where
  ft : Ft w pv
  pt : PT w ph pl
  c5 : w.cell? ⟨6, 0, none⟩ = some (.bool true)
  c16 : w.cell? ⟨16, 0, none⟩ = some (.slice (some ⟨tb.1, tb.2, none⟩) 61 61)
  ctb : ∀ k, k ≤ 60 → w.cell? ⟨tb.1, tb.2 + k * 2, none⟩ = some (.int .i64 (dlv k : Nat)) ∧ w.cell? ⟨tb.1, tb.2 + k * 2 + 1, none⟩ = some (.string (CS k))
  c9 : w.cell? ⟨9, 0, none⟩ = some (.slice (some ⟨tp.1, tp.2, none⟩) 9 9)
  ctp : ∀ m, m < 9 → w.cell? ⟨tp.1, tp.2 + m, none⟩ = some (.int .i64 (Dm.pt m : Nat))
  f1 : w.cell? ⟨7, 1, none⟩ = some (.int .u64 11)
  f2 : w.cell? ⟨7, 2, none⟩ = some (.int .i64 (-1023))
theorem AT.below {w w' : World} {pv ph pl dlv : Nat → Nat} {CS : Nat → ByteArray} {tb tp : Nat × Nat} (h : AT w pv ph pl dlv CS tb tp) (b : Below w.heap.size w w') : AT w' pv ph pl dlv CS tb tp := by
  have hl := Nat.le_refl w.heap.size
  refine ⟨⟨cof b h.ft.mant, ?_⟩, ⟨Nat.lt_of_lt_of_le h.pt.1 b.size, fun i hi => ⟨cof b (h.pt.2 i hi).1, cof b (h.pt.2 i hi).2⟩⟩, cof b h.c5, cof b h.c16, fun k hk => ⟨cof b (h.ctb k hk).1, cof b (h.ctb k hk).2⟩,
    cof b h.c9, fun m hm => cof b (h.ctp m hm), cof b h.f1, cof b h.f2⟩
  obtain ⟨t, ot, t1, t2⟩ := h.ft.tab
  exact ⟨t, ot, cof b t1, fun i hi => cof b (t2 i hi)⟩
theorem AT.gt {w w' : World} {pv ph pl dlv : Nat → Nat} {CS : Nat → ByteArray} {tb tp : Nat × Nat} {g : Nat} (h : AT w pv ph pl dlv CS tb tp) (b : Below w.heap.size w w') (hg : w.heap.size ≤ g) : GT w' dlv CS g tb tp := by
  have k := h.below b
  have hs := b.size
  have s16 := World.block_lt_of_cell? _ _ h.c16
  have stb := World.block_lt_of_cell? _ _ (h.ctb 0 (by decide)).1
  have s9 := World.block_lt_of_cell? _ _ h.c9
  have stp := World.block_lt_of_cell? _ _ (h.ctp 0 (by decide))
  have s6 := World.block_lt_of_cell? _ _ h.f1
  dsimp only at s16 stb s9 stp s6
  exact ⟨⟨by omega, by omega⟩, ⟨by omega, by omega⟩, ⟨by omega, by omega⟩, ⟨by omega, by omega⟩, ⟨by omega, by omega⟩, k.c16, k.ctb, k.c9, k.ctp, k.ft.mant, k.f1, k.f2⟩
theorem only_below {a b c : World} {g N : Nat} (h : Below N a b) (k : Only b c g) (hN : N ≤ g) (hb : N ≤ b.heap.size) : Below N a c :=
  h.trans ⟨k.os, k.tape, k.output, by rw [k.size]; exact Nat.le_refl _, fun i hi => k.block i (by omega) (by omega)⟩
theorem below_drewN {N : Nat} {a w : World} (h : Below N a w) (m : Nat) : Below N a (w.drewN m) := ⟨h.os, h.tape, h.output, h.size, h.block⟩
theorem nv_db {w : World} {g n : Nat} {dp : Int} {ng : Bool} (h : Nv w g n dp ng) (hn : n ≠ 0) (h8 : dlen n ≤ 800) : Db w g ⟨n, dp, false⟩ ng := ⟨⟨hn, h8⟩, h⟩
end Dc
end Go.Proofs.YtbnicnhkakbglaaGreatDoor

/- atof64. -/
namespace Go.Proofs.YtbnicnhkakbglaaGreatDoor
open Go.RowKit
namespace Dc
open Us Dm Rm Rf Fq

theorem expOf_bound {ex : List Nat} (h : Expo ex) : -99999 ≤ expOf ex ∧ expOf ex ≤ 99999 := by
  rcases h with rfl | ⟨c, s, d, rfl, _, hs, hd⟩
  · show -99999 ≤ (0 : Int) ∧ (0 : Int) ≤ 99999; omega
  · have h1 := est_le hd.2 d.length (Nat.le_refl _)
    rw [List.take_length] at h1
    rcases hs with rfl | rfl | rfl
    · rw [List.nil_append, exp_plain c hd]; omega
    · show -99999 ≤ ((est d : Nat) : Int) ∧ ((est d : Nat) : Int) ≤ 99999; omega
    · show -99999 ≤ -((est d : Nat) : Int) ∧ -((est d : Nat) : Int) ≤ 99999; omega

set_option maxRecDepth 100000 in
theorem zero_cells : Tryz.zeroCells216 = Array.replicate 800 (.int .u8 0) ++ #[.int .i64 0, .int .i64 0, .bool false, .bool false] := by kernel_rfl
theorem dh_alloc (w : World) : Dh (w.alloc (.cells Tryz.zeroCells216 216)) w.heap.size (fun _ => 0) 0 0 false false := by
  have hc : ∀ i, (w.alloc (.cells Tryz.zeroCells216 216)).cell? ⟨w.heap.size, i, none⟩ = Tryz.zeroCells216[i]? := fun i => by
    rw [World.cell?_alloc_at (w := w) _ _ w.heap.size _ rfl]
  have hz : ∀ i, (w.alloc (.cells Tryz.zeroCells216 216)).frozen? ⟨w.heap.size, i, none⟩ = false := fun i => World.frozen?_alloc_at (w := w) _ _ w.heap.size _ rfl
  refine ⟨by simp, fun i hi => ⟨?_, hz i⟩, ?_, ?_, ?_, ?_, hz _, hz _, hz _, hz _⟩
  · rw [hc, zero_cells, Array.getElem?_append_left (by simpa using hi), Array.getElem?_replicate, if_pos hi]; rfl
  · rw [hc]; kernel_rfl
  · rw [hc]; kernel_rfl
  · rw [hc]; kernel_rfl
  · rw [hc]; kernel_rfl
theorem sg_fin {SG : Nat} (b : Nat) (hb : b ≤ 1) (h : Hid (SG = b * 9223372036854775808)) : Fnt (bits .or .u64 (SG : Int) 0).toNat := by
  have h := h.out
  have h1 := u64_or_nat SG 0 (by omega) (by decide)
  rw [Nat.or_zero] at h1
  rw [show bits .or .u64 (SG : Int) 0 = (SG : Int) from h1, Int.toNat_natCast]
  unfold Fnt
  omega
theorem sg_inf {SG : Nat} (b : Nat) (hb : b ≤ 1) (h : Hid (SG = b * 9223372036854775808)) : Ift (bits .or .u64 (SG : Int) 9218868437227405312).toNat := by
  have h := h.out
  have h1 := u64_or_nat SG 9218868437227405312 (by omega) (by decide)
  rw [nat_join 63 SG 9218868437227405312 (by omega) (by decide)] at h1
  rw [show bits .or .u64 (SG : Int) 9218868437227405312 = ((SG + 9218868437227405312 : Nat) : Int) from h1, Int.toNat_natCast]
  unfold Ift
  omega
set_option maxRecDepth 100000 in
set_option maxHeartbeats 4000000 in
theorem atof68 (pv ph pl dlv l5v : Nat → Nat) (CS : Nat → ByteArray) (hpv : ∀ i, i < 23 → Pw (pv i)) (hph : ∀ i, i < 696 → ph i < 18446744073709551616 ∧ pl i < 18446744073709551616) (hLF : LF dlv l5v CS)
    (S : ByteArray) (bs sg mn ex : List Nat) (hS : Sb S bs) (hF : FloatText bs sg mn ex) (hl : bs.length ≤ 400)
    (h89 : ∀ w, Calls Tryz.prog 183 #[.string S] w fun e w' => e = .returned (.tuple #[.int .u64 (mantOf mn : Nat), .int .i64 (powOf mn ex), .bool (!sg.isEmpty), .bool (truncOf mn), .bool false, .int .i64 (S.size : Nat), .bool true]) ∧ w' = w)
    (h95 : ∀ w g A0, Dh w g A0 0 0 false false → Calls Tryz.prog 189 #[.pointer (some ⟨g, 0, none⟩), .string S] w fun e w' => e = .returned (.bool true) ∧ Nv w' g (nval mn) (dpOf mn + expOf ex) (!sg.isEmpty) ∧ Only w w' g) :
    ∃ v b, ((b = true → Ift v) ∧ (b = false → Fnt v)) ∧ ∀ w tb tp, AT w pv ph pl dlv CS tb tp → Calls Tryz.prog 141 #[.string S] w fun e w' => e = .returned (.tuple #[.float .f64 v, .int .i64 (S.size : Nat), errOf b]) ∧ Below w.heap.size w w' := by
  obtain ⟨hb, hsg, hM, hE⟩ := id hF
  have hlen : bs.length = sg.length + (mn.length + ex.length) := by rw [hb, List.length_append, List.length_append]
  have hmn := mant_pos hM
  have h0 : 0 < S.size := by rw [hS.1]; omega
  have hl4 : S.size ≤ 400 := by rw [hS.1]; exact hl
  obtain ⟨i1, i2, i3, i4, i5, i6⟩ := rst_inv hM mn.length (Nat.le_refl _)
  rw [List.take_length] at i1 i2 i3 i4 i5 i6
  have hMb : mantOf mn < 10000000000000000000 := by
    have : 10 ^ (rst mn).nm ≤ 10 ^ 19 := Nat.pow_le_pow_right (by decide) i2
    show (rst mn).m < _; omega
  have hxb := expOf_bound hE
  have hdb : -400 ≤ dpOf mn ∧ dpOf mn ≤ 400 := by unfold dpOf; split <;> omega
  have hpb : -100000 - 800 ≤ powOf mn ex ∧ powOf mn ex ≤ 100000 + 800 := by unfold powOf; split <;> omega
  have H88 : Hid (∀ w, Calls Tryz.prog 182 #[.string S] w fun e w' => e = .returned (.tuple #[.float .f64 0, .int .i64 0, .bool false]) ∧ ∃ m, w' = w.drewN m) := Lib.hid fun w => by
    refine special88 S h0 ?_ w
    have d0 := mant_first hM
    rcases hsg with rfl | rfl
    · left
      rw [hS.2 0 h0, hb]
      have h := at_mn hb hmn
      simp only [List.length_nil, Nat.add_zero] at h
      rw [hb] at h
      rw [h]
      exact d0
    · right
      refine ⟨by rw [hS.2 0 h0, hb]; rfl, by rw [hS.1, hlen]; simp; omega, ?_⟩
      rw [hS.2 1]
      have h := at_mn hb hmn
      simp only [List.length_cons, List.length_nil, Nat.add_zero] at h
      rw [show bs.getD 1 0 = mn.getD 0 0 from h]
      exact d0
  have hlenN := nval_short hM
  have hNp : mantOf mn ≠ 0 → nval mn ≠ 0 := fun h => nval_pos hM h
  obtain ⟨M, hMe⟩ : ∃ M, M = mantOf mn := ⟨_, rfl⟩
  obtain ⟨p, hpe⟩ : ∃ p, p = powOf mn ex := ⟨_, rfl⟩
  obtain ⟨tr, htr⟩ : ∃ tr, tr = truncOf mn := ⟨_, rfl⟩
  obtain ⟨nb, hnb⟩ : ∃ nb, nb = !sg.isEmpty := ⟨_, rfl⟩
  obtain ⟨N, hN⟩ : ∃ N, N = nval mn := ⟨_, rfl⟩
  obtain ⟨D, hD⟩ : ∃ D, D = dpOf mn + expOf ex := ⟨_, rfl⟩
  rw [← hMe, ← hpe, ← htr, ← hnb] at h89
  rw [← hN, ← hD, ← hnb] at h95
  rw [← hMe] at hMb hNp
  rw [← hN] at hlenN hNp
  rw [← hpe] at hpb
  have H89 := Lib.hid h89
  have H95 := Lib.hid h95
  clear h89 h95 hMe hpe htr hnb hN hD hb hsg hM hE i1 i2 i3 i4 i5 i6 hxb hdb hF hS
  obtain ⟨hpb1, hpb2⟩ := hpb
  obtain ⟨SG, hSGe⟩ : ∃ SG, SG = b2 nb * 9223372036854775808 := ⟨_, rfl⟩
  have hb2 : b2 nb ≤ 1 := by unfold b2; split <;> omega
  have hSG : IntKind.u64.wrap (((b2 nb : Nat) : Int) * 9223372036854775808) = (SG : Int) := by rw [IntKind.wrap_u64, hSGe]; omega
  have hSGb : SG ≤ 9223372036854775808 := by omega
  have hSGi := Lib.hid hSGe
  have H97 : Hid (∀ w, Calls Tryz.prog 191 #[.bool nb] w fun e w' => e = .returned (.int .u64 (b2 nb : Nat)) ∧ w' = w) := Lib.hid fun w => bool97 nb w
  have r98 := run98
  have hSG2 : ((b2 nb : Nat) : Int) * 9223372036854775808 = (SG : Int) := by omega
  by_cases hM0 : M = 0
  · have dM : ((M : Int) == 0) = true := by simp; omega
    clear hSGe hSG hM0
    refine ⟨(bits .or .u64 (SG : Int) 0).toNat, false, ⟨fun h => (by cases h), fun _ => sg_fin _ hb2 hSGi⟩, fun w tb tp hT => ?_⟩
    have z5 := hT.c5
    go_enter Tryz.func141, Tryz.ntmps141
    go_wp2_with fail
    refine (H88.out _).mono ?_
    rintro x w1 ⟨rfl, m1, hw1⟩
    have T1 : Hid (Below w.heap.size w w1) := Lib.hid (by rw [hw1]; exact below_drewN (Below.refl _ _) _)
    have z5 := cof T1.out hT.c5
    have HT := Lib.hid hT
    clear hw1 hT
    go_wp2_with fail
    refine (H89.out _).mono ?_
    rintro x w2 ⟨rfl, hw2⟩
    rw [hw2]
    clear hw2 w2
    go_wp2_with fail
    refine (H97.out _).mono ?_
    rintro x w2 ⟨rfl, hw2⟩
    rw [hw2]
    clear hw2 w2
    go_wp2_with fail
    go_ret3
    exact ⟨rfl, T1.out⟩
  · have dM : ((M : Int) == 0) = false := by simp; omega
    have hN := hNp hM0
    by_cases hp1 : 310 < p
    · have dp1 : decide (p > 310) = true := by simp; omega
      clear hSGe hSG hM0
      refine ⟨(bits .or .u64 (SG : Int) 9218868437227405312).toNat, true, ⟨fun _ => sg_inf _ hb2 hSGi, fun h => (by cases h)⟩, fun w tb tp hT => ?_⟩
      have z5 := hT.c5
      go_enter Tryz.func141, Tryz.ntmps141
      go_wp2_with fail
      refine (H88.out _).mono ?_
      rintro x w1 ⟨rfl, m1, hw1⟩
      have T1 : Hid (Below w.heap.size w w1) := Lib.hid (by rw [hw1]; exact below_drewN (Below.refl _ _) _)
      have z5 := cof T1.out hT.c5
      have HT := Lib.hid hT
      clear hw1 hT
      go_wp2_with fail
      refine (H89.out _).mono ?_
      rintro x w2 ⟨rfl, hw2⟩
      rw [hw2]
      clear hw2 w2
      go_wp2_with fail
      refine (H97.out _).mono ?_
      rintro x w2 ⟨rfl, hw2⟩
      rw [hw2]
      clear hw2 w2
      go_wp2_with fail
      go_ret3
      exact ⟨rfl, T1.out⟩
    · have dp1 : decide (p > 310) = false := by simp; omega
      by_cases hp2 : p < -345
      · have dp2 : decide (p < -345) = true := by simp; omega
        clear hSGe hSG hM0
        refine ⟨(bits .or .u64 (SG : Int) 0).toNat, false, ⟨fun h => (by cases h), fun _ => sg_fin _ hb2 hSGi⟩, fun w tb tp hT => ?_⟩
        have z5 := hT.c5
        go_enter Tryz.func141, Tryz.ntmps141
        go_wp2_with fail
        refine (H88.out _).mono ?_
        rintro x w1 ⟨rfl, m1, hw1⟩
        have T1 : Hid (Below w.heap.size w w1) := Lib.hid (by rw [hw1]; exact below_drewN (Below.refl _ _) _)
        have z5 := cof T1.out hT.c5
        have HT := Lib.hid hT
        clear hw1 hT
        go_wp2_with fail
        refine (H89.out _).mono ?_
        rintro x w2 ⟨rfl, hw2⟩
        rw [hw2]
        clear hw2 w2
        go_wp2_with fail
        refine (H97.out _).mono ?_
        rintro x w2 ⟨rfl, hw2⟩
        rw [hw2]
        clear hw2 w2
        go_wp2_with fail
        go_ret3
        exact ⟨rfl, T1.out⟩
      · have dp2 : decide (p < -345) = false := by simp; omega
        obtain ⟨v9, b9, i9, h99⟩ := exact99 pv hpv M p nb (by omega) (by omega)
        obtain ⟨q, hq1, hq2⟩ : ∃ q : Nat, (q : Int) - 348 = p ∧ q < 696 := ⟨(p + 348).toNat, by omega, by omega⟩
        obtain ⟨v1, e1, i1, h1⟩ := parse_det ph pl hph M q (b2 nb) (by omega) hq2 hb2
        obtain ⟨v2, e2, _, h2⟩ := parse_det ph pl hph (M + 1) q (b2 nb) (by omega) hq2 hb2
        rw [hq1, ← hSGe] at h1 h2
        obtain ⟨v3, o3, i3, h96⟩ := bits96 ⟨N, D, false⟩ nb ⟨hN, by show dlen N ≤ 800; omega⟩ dlv l5v CS hLF
        obtain ⟨B, hB⟩ : ∃ B, (FloatKind.f64.format.order v1 v2 == some Ordering.eq) = B := ⟨_, rfl⟩
        have i3 : (o3 = true → Ift v3.toNat) ∧ (o3 = false → Fnt v3.toNat) := by
          rcases i3 with ⟨rfl, rfl⟩ | ⟨rfl, E, X, h1, h2, rfl⟩
          · exact ⟨fun _ => asm_inf nb, fun h => (by cases h)⟩
          · exact ⟨fun h => (by cases h), fun _ => asm_fin X nb h1 h2⟩
        have H99 := Lib.hid h99
        have H1 := Lib.hid h1
        have H2 := Lib.hid h2
        have H96 := Lib.hid h96
        have hM1 : M + 1 < 18446744073709551616 := by omega
        obtain ⟨M1, hM1e⟩ : ∃ M1 : Nat, (M : Int) + 1 = (M1 : Int) ∧ M1 = M + 1 := ⟨M + 1, by omega, rfl⟩
        obtain ⟨hM1e, hM1f⟩ := hM1e
        rw [← hM1f] at H2 hM1
        obtain ⟨v, b, hvb, f1, f2, f3, f4⟩ : ∃ v b, ((b = true → Ift v) ∧ (b = false → Fnt v)) ∧ (tr = false → b9 = true → v = v9 ∧ b = false) ∧ (tr = false → b9 = false → v = v1 ∧ b = e1) ∧ (tr = true → B = true → v = v1 ∧ b = e1) ∧ (tr = true → B = false → v = v3.toNat ∧ b = o3) := by
          cases tr with
          | false =>
            cases b9 with
            | true => exact ⟨_, _, ⟨fun h => (by cases h), fun _ => i9 rfl⟩, fun _ _ => ⟨rfl, rfl⟩, fun _ h => (by cases h), fun h => (by cases h), fun h => (by cases h)⟩
            | false => exact ⟨_, _, i1, fun _ h => (by cases h), fun _ _ => ⟨rfl, rfl⟩, fun h => (by cases h), fun h => (by cases h)⟩
          | true =>
            cases B with
            | true => exact ⟨_, _, i1, fun h => (by cases h), fun h => (by cases h), fun _ _ => ⟨rfl, rfl⟩, fun _ h => (by cases h)⟩
            | false => exact ⟨_, _, i3, fun h => (by cases h), fun h => (by cases h), fun _ h => (by cases h), fun _ _ => ⟨rfl, rfl⟩⟩
        have F1 := Lib.hid f1
        have F2 := Lib.hid f2
        have F3 := Lib.hid f3
        have F4 := Lib.hid f4
        clear f1 f2 f3 f4 h99 h1 h2 h96 hq1 hq2 hM0 hp1 hp2 hM1f hSGe hSG
        clear i1 i3 i9
        refine ⟨v, b, hvb, fun w tb tp hT => ?_⟩
        clear hvb
        have z5 := hT.c5
        go_enter Tryz.func141, Tryz.ntmps141
        go_wp2_with fail
        refine (H88.out _).mono ?_
        rintro x w1 ⟨rfl, m1, hw1⟩
        have T1 : Hid (Below w.heap.size w w1) := Lib.hid (by rw [hw1]; exact below_drewN (Below.refl _ _) _)
        have z5 := cof T1.out hT.c5
        have HT := Lib.hid hT
        clear hw1 hT
        go_wp2_with fail
        refine (H89.out _).mono ?_
        rintro x w2 ⟨rfl, hw2⟩
        rw [hw2]
        clear hw2 w2
        go_wp2_with fail
        refine (H97.out _).mono ?_
        rintro x w2 ⟨rfl, hw2⟩
        rw [hw2]
        clear hw2 w2
        cases tr with
        | false =>
          cases b9 with
          | true =>
            obtain ⟨rfl, rfl⟩ := F1.out (by trivial) (by trivial)
            go_wp2_with fail
            refine (H99.out _ (HT.out.below T1.out).ft).mono ?_
            rintro x w2 ⟨rfl, m, hw2⟩
            have T2 : Hid (Below w.heap.size w w2) := Lib.hid (by rw [hw2]; exact below_drewN T1.out _)
            clear hw2
            go_wp2_with fail
            go_ret3
            exact ⟨rfl, T2.out⟩
          | false =>
            obtain ⟨rfl, rfl⟩ := F2.out (by trivial) (by trivial)
            go_wp2_with fail
            refine (H99.out _ (HT.out.below T1.out).ft).mono ?_
            rintro x w2 ⟨rfl, m, hw2⟩
            have T2 : Hid (Below w.heap.size w w2) := Lib.hid (by rw [hw2]; exact below_drewN T1.out _)
            clear hw2
            go_wp2_with fail
            refine (H1.out _ (HT.out.below T2.out).pt).mono ?_
            rintro x w3 ⟨rfl, hb3⟩
            have T3 : Hid (Below w.heap.size w w3) := Lib.hid (T2.out.trans (hb3.mono T2.out.size))
            clear hb3
            go_wp2_with fail
            go_ret3
            exact ⟨rfl, T3.out⟩
        | true =>
          go_wp2_with fail
          refine (H1.out _ (HT.out.below T1.out).pt).mono ?_
          rintro x w3 ⟨rfl, hb3⟩
          have T3 : Hid (Below w.heap.size w w3) := Lib.hid (T1.out.trans (hb3.mono T1.out.size))
          clear hb3
          go_wp2_with fail
          refine (H2.out _ (HT.out.below T3.out).pt).mono ?_
          rintro x w4 ⟨rfl, hb4⟩
          have T4 : Hid (Below w.heap.size w w4) := Lib.hid (T3.out.trans (hb4.mono T3.out.size))
          clear hb4
          cases B with
          | true =>
            obtain ⟨rfl, rfl⟩ := F3.out (by trivial) (by trivial)
            go_wp2_with fail
            go_ret3
            exact ⟨rfl, T4.out⟩
          | false =>
            obtain ⟨rfl, rfl⟩ := F4.out (by trivial) (by trivial)
            go_wp2_with fail
            have T5 : Hid (Below w.heap.size w (w4.alloc (.cells Tryz.zeroCells216 216))) := Lib.hid (T4.out.alloc T4.out.size _)
            obtain ⟨w5, hw5⟩ : ∃ w5, w5 = w4.alloc (.cells Tryz.zeroCells216 216) := ⟨_, rfl⟩
            have HD5 : Hid (Dh w5 w4.heap.size (fun _ => 0) 0 0 false false) := Lib.hid (by rw [hw5]; exact dh_alloc w4)
            have HS5 : Hid (w5.heap.size = w4.heap.size + 1) := Lib.hid (by rw [hw5]; simp)
            rw [← hw5] at T5 ⊢
            clear hw5
            refine (H95.out _ _ _ HD5.out).mono ?_
            rintro x w6 ⟨rfl, hv6, ho6⟩
            have T6 : Hid (Below w.heap.size w w6) := Lib.hid (only_below T5.out ho6 T4.out.size T5.out.size)
            have HB6 : Hid (Db w6 w4.heap.size ⟨N, D, false⟩ nb) := Lib.hid (nv_db hv6 hN (by omega))
            clear hv6 ho6
            go_wp2_with fail
            refine (H96.out _ _ tb tp HB6.out (HT.out.gt T6.out T4.out.size)).mono ?_
            rintro x w7 ⟨rfl, ho7⟩
            have T7 : Hid (Below w.heap.size w w7) := Lib.hid (only_below T6.out ho7 T4.out.size T6.out.size)
            clear ho7
            cases b with
            | true =>
              go_wp2_with fail
              go_ret3
              exact ⟨rfl, T7.out⟩
            | false =>
              go_wp2_with fail
              go_ret3
              exact ⟨rfl, T7.out⟩
end Dc
end Go.Proofs.YtbnicnhkakbglaaGreatDoor

/- strconv.ParseFloat. -/
namespace Go.Proofs.YtbnicnhkakbglaaGreatDoor
open Go.RowKit
namespace Dc
open Us Dm Rm Rf Fq

set_option maxRecDepth 100000 in
theorem prefix44 (S : ByteArray) (v : Nat) (b : Bool) (pv ph pl dlv : Nat → Nat) (CS : Nat → ByteArray)
    (h68 : ∀ w tb tp, AT w pv ph pl dlv CS tb tp → Calls Tryz.prog 141 #[.string S] w fun e w' => e = .returned (.tuple #[.float .f64 v, .int .i64 (S.size : Nat), errOf b]) ∧ Below w.heap.size w w')
    (w : World) (tb tp : Nat × Nat) (hT : AT w pv ph pl dlv CS tb tp) :
    Calls Tryz.prog 99 #[.string S, .int .i64 64] w fun e w' => e = .returned (.tuple #[.float .f64 v, .int .i64 (S.size : Nat), errOf b]) ∧ Below w.heap.size w w' := by
  have F := Lib.hid (h68 w tb tp hT)
  clear h68 hT
  go_enter Tryz.func99, Tryz.ntmps99
  go_wp2_with fail
  refine F.out.mono ?_
  rintro x w1 ⟨rfl, h1⟩
  have T1 := Lib.hid h1
  clear h1
  go_wp2_with fail
  go_ret3
  exact ⟨rfl, T1.out⟩
set_option maxRecDepth 100000 in
theorem parse26 (S : ByteArray) (_ : S.size ≤ 400) (v : Nat) (b : Bool) (pv ph pl dlv : Nat → Nat) (CS : Nat → ByteArray)
    (h68 : ∀ w tb tp, AT w pv ph pl dlv CS tb tp → Calls Tryz.prog 141 #[.string S] w fun e w' => e = .returned (.tuple #[.float .f64 v, .int .i64 (S.size : Nat), errOf b]) ∧ Below w.heap.size w w')
    (w : World) (tb tp : Nat × Nat) (hT : AT w pv ph pl dlv CS tb tp) :
    Calls Tryz.prog 61 #[.string S, .int .i64 64] w fun e w' => e = .returned (.tuple #[.float .f64 v, errOf b]) ∧ Below w.heap.size w w' := by
  have F := Lib.hid (prefix44 S v b pv ph pl dlv CS h68 w tb tp hT)
  clear h68 hT
  go_enter Tryz.func61, Tryz.ntmps61
  go_wp2_with fail
  refine F.out.mono ?_
  rintro x w1 ⟨rfl, h1⟩
  have T1 := Lib.hid h1
  clear h1
  go_wp2_with fail
  go_ret2
  exact ⟨rfl, T1.out⟩
set_option maxRecDepth 100000 in
theorem parse13 (S : ByteArray) (hl : S.size ≤ 400) (v : Nat) (b : Bool) (pv ph pl dlv : Nat → Nat) (CS : Nat → ByteArray)
    (h68 : ∀ w tb tp, AT w pv ph pl dlv CS tb tp → Calls Tryz.prog 141 #[.string S] w fun e w' => e = .returned (.tuple #[.float .f64 v, .int .i64 (S.size : Nat), errOf b]) ∧ Below w.heap.size w w')
    (RC : World → Prop) (hRC : ∀ w w', RC w → Below w.heap.size w w' → RC w')
    (h27 : ∀ w, RC w → Calls Tryz.prog 62 #[.string { data := #[80, 97, 114, 115, 101, 70, 108, 111, 97, 116] }, .string S, .int .i64 0, .int .i64 64, .iface 137 (.int .i64 1)] w fun e w' => ∃ t x, e = .returned (.iface t x) ∧ Below w.heap.size w w')
    (w : World) (tb tp : Nat × Nat) (hT : AT w pv ph pl dlv CS tb tp) (hR : RC w) :
    Calls Tryz.prog 29 #[.string S, .int .i64 64] w fun e w' => ∃ er, e = .returned (.tuple #[.float .f64 v, er]) ∧ (b = false → er = .nilIface) ∧ (b = true → ∃ t x, er = .iface t x) ∧ Below w.heap.size w w' := by
  have F := Lib.hid (parse26 S hl v b pv ph pl dlv CS h68 w tb tp hT)
  have F27 := Lib.hid h27
  have HR := Lib.hid (fun w' => hRC w w' hR)
  clear h68 hT hRC h27 hR
  cases b with
  | false =>
    have F2 : Hid (Calls Tryz.prog 61 #[.string S, .int .i64 64] w fun e w' => e = .returned (.tuple #[.float .f64 v, .nilIface]) ∧ Below w.heap.size w w') := F
    clear F
    go_enter Tryz.func29, Tryz.ntmps29
    go_wp2_with fail
    refine F2.out.mono ?_
    rintro x w1 ⟨rfl, h1⟩
    have T1 := Lib.hid h1
    clear h1
    go_wp2_with fail
    go_ret2
    exact ⟨_, rfl, fun _ => rfl, fun h => (by cases h), T1.out⟩
  | true =>
    have F2 : Hid (Calls Tryz.prog 61 #[.string S, .int .i64 64] w fun e w' => e = .returned (.tuple #[.float .f64 v, .iface 137 (.int .i64 1)]) ∧ Below w.heap.size w w') := F
    clear F
    go_enter Tryz.func29, Tryz.ntmps29
    go_wp2_with fail
    refine F2.out.mono ?_
    rintro x w1 ⟨rfl, h1⟩
    have T1 := Lib.hid h1
    clear h1
    go_wp2_with fail
    refine (F27.out _ (HR.out _ T1.out)).mono ?_
    rintro x w2 ⟨t, y, rfl, h2⟩
    have T2 := Lib.hid (T1.out.trans (h2.mono T1.out.size))
    clear h2
    go_wp2_with fail
    go_ret2
    exact ⟨_, rfl, fun h => (by cases h), fun _ => ⟨_, _, rfl⟩, T2.out⟩
end Dc
end Go.Proofs.YtbnicnhkakbglaaGreatDoor

/- ParseFloat on a text of a float: one answer in every world. -/
namespace Go.Proofs.YtbnicnhkakbglaaGreatDoor
open Go.RowKit
namespace Dc
open Us Dm Rm Rf Fq

/-- ErrRange is laid. -/
def RC (w : World) : Prop := ∃ ev, w.cell? ⟨2, 0, none⟩ = some ev ∧ (ev = .nilIface ∨ ∃ te pe, ev = .iface te pe)
theorem RC.below {w w' : World} (h : RC w) (b : Below w.heap.size w w') : RC w' := by
  obtain ⟨ev, h1, h2⟩ := h
  exact ⟨ev, cof b h1, h2⟩
theorem float_read (pv ph pl dlv l5v : Nat → Nat) (CS : Nat → ByteArray) (hpv : ∀ i, i < 23 → Pw (pv i)) (hph : ∀ i, i < 696 → ph i < 18446744073709551616 ∧ pl i < 18446744073709551616) (hLF : LF dlv l5v CS)
    (S : ByteArray) (bs sg mn ex : List Nat) (hS : Sb S bs) (hF : FloatText bs sg mn ex) (hl : bs.length ≤ 400)
    (h89 : ∀ w, Calls Tryz.prog 183 #[.string S] w fun e w' => e = .returned (.tuple #[.int .u64 (mantOf mn : Nat), .int .i64 (powOf mn ex), .bool (!sg.isEmpty), .bool (truncOf mn), .bool false, .int .i64 (S.size : Nat), .bool true]) ∧ w' = w) :
    ∃ v b, ((b = true → Ift v) ∧ (b = false → Fnt v)) ∧ ∀ w tb tp, AT w pv ph pl dlv CS tb tp → RC w → Calls Tryz.prog 29 #[.string S, .int .i64 64] w fun e w' => ∃ er, e = .returned (.tuple #[.float .f64 v, er]) ∧ (b = false → er = .nilIface) ∧ (b = true → ∃ t x, er = .iface t x) ∧ Below w.heap.size w w' := by
  have hs4 : S.size ≤ 400 := by rw [hS.1]; exact hl
  obtain ⟨v, b, hvb, h68⟩ := atof68 pv ph pl dlv l5v CS hpv hph hLF S bs sg mn ex hS hF hl h89 (fun w g A0 h => set95 w g S bs sg mn ex hS hF hl A0 h)
  refine ⟨v, b, hvb, fun w tb tp hT hR => parse13 S hs4 v b pv ph pl dlv CS h68 RC (fun _ _ h b => h.below b) (fun w hw => ?_) w tb tp hT hR⟩
  obtain ⟨ev, h1, h2⟩ := hw
  refine (Tryz.strconv_toError_range _ S 0 64 ev w (by omega) h1 h2).mono ?_
  rintro e w' ⟨N, rfl, _, _, hb⟩
  exact ⟨_, _, rfl, hb⟩
end Dc
end Go.Proofs.YtbnicnhkakbglaaGreatDoor
