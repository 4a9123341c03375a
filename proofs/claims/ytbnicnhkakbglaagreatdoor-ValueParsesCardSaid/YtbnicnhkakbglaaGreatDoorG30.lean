import Derived.Test.YtbnicnhkakbglaaGreatDoorG28

/- floatBits, between. -/
namespace Go.Proofs.YtbnicnhkakbglaaGreatDoor
open Go.RowKit
namespace Dc
open Us Dm

theorem db_drewN {w : World} {g : Nat} {a : De} {ng : Bool} (h : Db w g a ng) (n : Nat) : Db (w.drewN n) g a ng := by
  obtain ⟨h0, A, h1, h2⟩ := h
  exact ⟨h0, A, h1.drewN n, h2⟩
theorem shrN_small {a : De} {n : Nat} (hn : n ≤ 60) : shrN a n = a.shr n := by
  unfold shrN
  rw [show (n - 1) / 60 = 0 from by omega]
  rfl
theorem pt_big {m : Nat} (h : 9 ≤ m) : pt m = 27 := by
  unfold pt
  match m, h with
  | k + 9, _ => simp
set_option maxRecDepth 100000 in
set_option maxHeartbeats 4000000 in
theorem bits_main (a : De) (ng : Bool) (hg : Gd a) (hdp1 : -330 ≤ a.dp) (hdp2 : a.dp ≤ 310) (dlv l5v : Nat → Nat) (CS : Nat → ByteArray) (hF : LF dlv l5v CS) :
    ∃ v o, ((o = true ∧ v = asm 1024 0 ng) ∨ (o = false ∧ ∃ E X : Int, -1023 ≤ E ∧ E ≤ 1023 ∧ v = asm E X ng)) ∧ ∀ w g tb tp, Db w g a ng → GT w dlv CS g tb tp → Calls Tryz.prog 190 #[.pointer (some ⟨g, 0, none⟩), .pointer (some ⟨7, 0, none⟩)] w fun e w' => e = .returned (.tuple #[.int .u64 v, .bool o]) ∧ Only w w' g := by
  obtain ⟨J1, j1, j2, j3⟩ := loop1 hg hdp1 hdp2
  obtain ⟨p1, hp1⟩ : ∃ p1, p1 = iter f1 (a, 0) J1 := ⟨_, rfl⟩
  obtain ⟨g1, g2, g3, g4, g5⟩ := j3 J1 (Nat.le_refl _)
  rw [← hp1] at j1 g1 g2 g3 g4 g5
  have g6 : p1.1.dp ≤ 0 := by have := of_decide_eq_false j1; omega
  obtain ⟨J2, k1, k2, k3⟩ := loop2 g1 g2 g6 g4 g5
  obtain ⟨p2, hp2⟩ : ∃ p2, p2 = iter f2 p1 J2 := ⟨_, rfl⟩
  obtain ⟨q1, q2, q3, q4, q5⟩ := k3 J2 (Nat.le_refl _)
  rw [← hp2] at k1 q1 q2 q3 q4 q5
  obtain ⟨b3, e3, h31, h32⟩ : ∃ b3 e3, (p2.2 - 1 < -1022 → b3 = shrN p2.1 (-1022 - (p2.2 - 1)).toNat ∧ e3 = -1022) ∧ (-1022 ≤ p2.2 - 1 → b3 = p2.1 ∧ e3 = p2.2 - 1) := by
    by_cases h : p2.2 - 1 < -1022
    · exact ⟨_, _, fun _ => ⟨rfl, rfl⟩, fun h' => absurd h (by omega)⟩
    · exact ⟨_, _, fun h' => absurd h' h, fun _ => ⟨rfl, rfl⟩⟩
  have hb3 : Gd b3 ∧ -420 ≤ b3.dp ∧ b3.dp ≤ 0 ∧ -1022 ≤ e3 ∧ e3 ≤ 1056 := by
    by_cases h : p2.2 - 1 < -1022
    · obtain ⟨r1, r2⟩ := h31 h
      have := shrN_good q1 (n := (-1022 - (p2.2 - 1)).toNat) (by omega)
      rw [← r1] at this
      obtain ⟨s1, s2, s3⟩ := this
      exact ⟨s1, by omega, by omega, by omega, by omega⟩
    · obtain ⟨r1, r2⟩ := h32 (by omega)
      rw [r1]
      exact ⟨q1, by omega, by omega, by omega, by omega⟩
  obtain ⟨t1, t2, t3, t4, t5⟩ := hb3
  have hb4 := shl_dp t1 53
  have gb4 := t1.shl 53
  obtain ⟨b4, hb4e⟩ : ∃ b4, b4 = b3.shl 53 := ⟨_, rfl⟩
  rw [← hb4e] at hb4 gb4
  obtain ⟨M, hM, F133⟩ := whole133 (fun i => 48 + sdg b4.n i) (dlen b4.n) b4.dp ng b4.tr gb4.2 (fun i _ => ⟨Nat.le_add_right _ _, by have := sdg_lt b4.n i; show 48 + sdg b4.n i ≤ 57; omega⟩) (by constructor <;> omega)
  obtain ⟨v, o, hv1, hv2, hv3, hv4, hv5⟩ : ∃ v o, (1024 ≤ e3 → v = asm 1024 0 ng ∧ o = true) ∧ (e3 < 1024 → M = 9007199254740992 → 1024 ≤ e3 + 1 → v = asm 1024 0 ng ∧ o = true) ∧
      (e3 < 1024 → M = 9007199254740992 → e3 + 1 < 1024 → v = asm (e3 + 1) 4503599627370496 ng ∧ o = false) ∧
      (e3 < 1024 → M ≠ 9007199254740992 → bits .and .u64 (M : Int) 4503599627370496 = 0 → v = asm (-1023) (M : Int) ng ∧ o = false) ∧
      (e3 < 1024 → M ≠ 9007199254740992 → bits .and .u64 (M : Int) 4503599627370496 ≠ 0 → v = asm e3 (M : Int) ng ∧ o = false) := by
    by_cases z1 : 1024 ≤ e3
    · exact ⟨_, _, fun _ => ⟨rfl, rfl⟩, by omega, by omega, by omega, by omega⟩
    · by_cases z2 : M = 9007199254740992
      · by_cases z3 : 1024 ≤ e3 + 1
        · exact ⟨_, _, by omega, fun _ _ _ => ⟨rfl, rfl⟩, fun _ _ h => absurd z3 (by omega), fun _ h => absurd z2 h, fun _ h => absurd z2 h⟩
        · exact ⟨_, _, by omega, fun _ _ h => absurd h z3, fun _ _ _ => ⟨rfl, rfl⟩, fun _ h => absurd z2 h, fun _ h => absurd z2 h⟩
      · by_cases z3 : bits .and .u64 (M : Int) 4503599627370496 = 0
        · exact ⟨_, _, by omega, fun _ h => absurd h z2, fun _ h => absurd h z2, fun _ _ _ => ⟨rfl, rfl⟩, fun _ _ h => absurd z3 h⟩
        · exact ⟨_, _, by omega, fun _ h => absurd h z2, fun _ h => absurd h z2, fun _ _ h => absurd h z3, fun _ _ _ => ⟨rfl, rfl⟩⟩
  have hfin : (o = true ∧ v = asm 1024 0 ng) ∨ (o = false ∧ ∃ E X : Int, -1023 ≤ E ∧ E ≤ 1023 ∧ v = asm E X ng) := by
    by_cases z1 : 1024 ≤ e3
    · exact .inl ⟨(hv1 z1).2, (hv1 z1).1⟩
    · by_cases z2 : M = 9007199254740992
      · by_cases z3 : 1024 ≤ e3 + 1
        · have h := hv2 (by omega) z2 z3
          exact .inl ⟨h.2, h.1⟩
        · have h := hv3 (by omega) z2 (by omega)
          exact .inr ⟨h.2, e3 + 1, _, by omega, by omega, h.1⟩
      · by_cases z3 : bits .and .u64 (M : Int) 4503599627370496 = 0
        · have h := hv4 (by omega) z2 z3
          exact .inr ⟨h.2, -1023, _, by omega, by omega, h.1⟩
        · have h := hv5 (by omega) z2 z3
          exact .inr ⟨h.2, e3, _, by omega, by omega, h.1⟩
  refine ⟨v, o, hfin, fun w g tb tp h hG => ?_⟩
  clear hfin
  have HL := Lib.hid hF
  have HJ1 := Lib.hid j1
  have HJ2 := Lib.hid j2
  have HJ3 := Lib.hid j3
  have HP1 := Lib.hid hp1
  have HK1 := Lib.hid k1
  have HK2 := Lib.hid k2
  have HK3 := Lib.hid k3
  have HP2 := Lib.hid hp2
  have H31 := Lib.hid h31
  have H32 := Lib.hid h32
  have HB4 := Lib.hid hb4e
  have HF133 := Lib.hid F133
  have HV1 := Lib.hid hv1
  have HV2 := Lib.hid hv2
  have HV3 := Lib.hid hv3
  have HV4 := Lib.hid hv4
  have HV5 := Lib.hid hv5
  have HT := Lib.hid (And.intro t2 t3)
  have HG4 := Lib.hid gb4
  clear hF j1 j2 j3 hp1 k1 k2 k3 hp2 h31 h32 hb4e F133 hv1 hv2 hv3 hv4 hv5 g6 t2 t3 hb4 g1 g2 g3 g4 g5 q1 q2 q3 t1 hg gb4
  have HG := Lib.hid hG
  have HB := Lib.hid h
  obtain ⟨⟨hn, h8⟩, A, hD, hA⟩ := h
  have c0 := hD.c0
  have c1 := hD.c1
  have b1 := dlen_one hn
  obtain ⟨nd, hnd⟩ : ∃ nd, nd = dlen a.n := ⟨_, rfl⟩
  rw [← hnd] at c0 b1
  have d0 : ((nd : Int) == 0) = false := by simp; omega
  obtain ⟨dp, hdpl⟩ : ∃ dp, dp = a.dp := ⟨_, rfl⟩
  rw [← hdpl] at c1 hdp1 hdp2
  have d1 : decide (dp > 310) = false := by simp; omega
  have d2 : decide (dp < -330) = false := by simp; omega
  clear hn h8 hD hA hnd hdpl hG
  go_enter Tryz.func190, Tryz.ntmps190
  go_wp2_with fail
  refine wp_ahead _ _ (by rfl) (by rfl) ?_
  go_wp2_with fail
  go_loopw [6, 8] (fun ev _ wr => ∃ j, j ≤ J1 ∧ ev = .int .i64 (iter f1 (a, 0) j).2 ∧ Db wr g (iter f1 (a, 0) j).1 ng ∧ Only w wr g) (fun ev _ _ => (2000 - intOf ev).toNat)
  case atStart => exact ⟨0, Nat.zero_le _, rfl, HB.out, Only.refl _ _⟩
  case round =>
    clear c0 c1 d0 d1 d2 HB
    obtain ⟨j, hj, rfl, hb, ho⟩ := hrel
    have HO := Lib.hid ho
    have HBJ := Lib.hid hb
    obtain ⟨z1, z2, z3, z4, z5⟩ := HJ3.out j hj
    obtain ⟨b, hbe⟩ : ∃ b, b = (iter f1 (a, 0) j).1 := ⟨_, rfl⟩
    obtain ⟨e, hee⟩ : ∃ e, e = (iter f1 (a, 0) j).2 := ⟨_, rfl⟩
    rw [← hbe] at z1 z2 z3 hb HBJ
    rw [← hee] at z4 z5 ⊢
    have HBE := Lib.hid hbe
    have HEE := Lib.hid hee
    have hgt := HG.out.only ho
    obtain ⟨_, A', hD, hA⟩ := hb
    have y1 := hD.c1
    obtain ⟨dq, hdq⟩ : ∃ dq, dq = b.dp := ⟨_, rfl⟩
    rw [← hdq] at z2 z3 y1
    have HDQ := Lib.hid hdq
    by_cases hjJ : j < J1
    · have hc := of_decide_eq_true (HJ2.out j hjJ)
      rw [← hbe, ← hdq] at hc
      obtain ⟨m, hm⟩ : ∃ m : Nat, dq = (m : Int) := ⟨dq.toNat, by omega⟩
      have hm1 : 1 ≤ m := by omega
      have hm2 : m ≤ 310 := by omega
      have HM := Lib.hid hm
      rw [hm] at y1
      have y2 := hgt.c9
      have hpt := pt_bound m
      obtain ⟨n, hn⟩ : ∃ n, n = pt m := ⟨_, rfl⟩
      rw [← hn] at hpt
      obtain ⟨n1, n2⟩ := hpt
      have HN := Lib.hid hn
      have d0 : decide ((m : Int) > 0) = true := by simp; omega
      have HS : Hid (∀ y, Db y g b ng → Calls Tryz.prog 223 #[.pointer (some ⟨g, 0, none⟩), .int .i64 (-(n : Int))] y fun e w' => e = .returned (.tuple #[]) ∧ Db w' g (f1 (iter f1 (a, 0) j)).1 ng ∧ Only y w' g) := Lib.hid fun y hy => by
        have := shift_right y g b ng n n1 (by omega) hy (by rw [← HDQ.out]; constructor <;> omega)
        rw [shrN_small (by omega)] at this
        refine this.mono ?_
        rintro x w9 ⟨rfl, r1, r2⟩
        refine ⟨rfl, ?_, r2⟩
        show Db w9 g ((iter f1 (a, 0) j).1.shr (pt (iter f1 (a, 0) j).1.dp.toNat)) ng
        rw [← HBE.out, ← HDQ.out, HM.out, Int.toNat_natCast, ← HN.out]
        exact r1
      have HE2 : Hid ((f1 (iter f1 (a, 0) j)).2 = e + (n : Int)) := Lib.hid (by
        show (iter f1 (a, 0) j).2 + ((pt (iter f1 (a, 0) j).1.dp.toNat : Nat) : Int) = _
        rw [← HEE.out, ← HBE.out, ← HDQ.out, HM.out, Int.toNat_natCast, ← HN.out])
      clear hj hbe hee hdq hc hm hn hD hA ho z1
      by_cases h9 : 9 ≤ m
      · have en : n = 27 := by rw [HN.out]; exact pt_big h9
        have d9 : decide ((m : Int) ≥ 9) = true := by simp; omega
        have HS2 : Hid (∀ y, Db y g b ng → Calls Tryz.prog 223 #[.pointer (some ⟨g, 0, none⟩), .int .i64 (-27)] y fun e w' => e = .returned (.tuple #[]) ∧ Db w' g (f1 (iter f1 (a, 0) j)).1 ng ∧ Only y w' g) := Lib.hid (by have h := HS.out; rw [en] at h; exact h)
        have HE3 : Hid ((f1 (iter f1 (a, 0) j)).2 = e + 27) := Lib.hid (by rw [HE2.out, en]; rfl)
        clear hgt HS HE2 en
        go_upto_region 13 with (fail)
        go_quiet (fail)
        go_wp2_with fail
        refine (HS2.out _ (db_drewN HBJ.out _)).mono ?_
        rintro x w9 ⟨rfl, r1, r2⟩
        have R1 := Lib.hid r1
        have R2 := Lib.hid ((HO.out.drewN _).trans r2)
        clear r1 r2
        go_wp2_with fail
        go_roundw
        case rel => exact ⟨j + 1, by omega, by rw [← HE3.out]; rfl, R1.out, R2.out⟩
        case measure => simp [intOf]; omega
      · have d9 : decide ((m : Int) ≥ 9) = false := by simp; omega
        have y3 := hgt.ctp m (by omega)
        rw [← HN.out] at y3
        have hm9 : m < 9 := by omega
        clear hgt
        go_upto_region 13 with (fail)
        go_quiet (fail)
        go_wp2_with fail
        go_quiet (fail)
        go_wp2_with fail
        refine (HS.out _ (db_drewN HBJ.out _)).mono ?_
        rintro x w9 ⟨rfl, r1, r2⟩
        have R1 := Lib.hid r1
        have R2 := Lib.hid ((HO.out.drewN _).trans r2)
        clear r1 r2
        go_wp2_with fail
        go_roundw
        case rel => exact ⟨j + 1, by omega, by rw [← HE2.out]; rfl, R1.out, R2.out⟩
        case measure => simp [intOf]; omega
    · obtain rfl : j = J1 := by omega
      have hc := of_decide_eq_false HJ1.out
      rw [HP1.out, ← hbe, ← hdq] at hc
      have d0 : decide (dq > 0) = false := by simp; omega
      rw [← HP1.out] at hbe hee
      clear hj hdq hc hD hA ho z1 hgt hjJ HBE HEE HDQ
      subst hbe hee
      go_wp2_with fail
      obtain ⟨wa, rfl⟩ : ∃ wa, wa = wr := ⟨_, rfl⟩
      clear y1 d0
      go_loopw [6, 9] (fun ev _ wx => ∃ i, i ≤ J2 ∧ ev = .int .i64 (iter f2 p1 i).2 ∧ Db wx g (iter f2 p1 i).1 ng ∧ Only w wx g) (fun ev _ _ => (60000 + intOf ev).toNat)
      case atStart => exact ⟨0, Nat.zero_le _, rfl, HBJ.out, HO.out⟩
      case round =>
        clear HBJ HO z2 z3 z4 z5
        obtain ⟨i, hi, rfl, hb, ho⟩ := hrel
        have HO := Lib.hid ho
        have HBJ := Lib.hid hb
        obtain ⟨z1, z2, z3, z4, z5⟩ := HK3.out i hi
        obtain ⟨b, hbe⟩ : ∃ b, b = (iter f2 p1 i).1 := ⟨_, rfl⟩
        obtain ⟨e, hee⟩ : ∃ e, e = (iter f2 p1 i).2 := ⟨_, rfl⟩
        rw [← hbe] at z1 z2 z3 hb HBJ
        rw [← hee] at z4 z5 ⊢
        have HBE := Lib.hid hbe
        have HEE := Lib.hid hee
        have hgt := HG.out.only ho
        obtain ⟨_, A', hD, hA⟩ := hb
        have y1 := hD.c1
        have y0 := (hD.d 0 (by decide)).1
        obtain ⟨D, hDd⟩ : ∃ D, D = A' 0 := ⟨_, rfl⟩
        have eD : D = 48 + sdg b.n 0 := by rw [hDd]; exact hA 0 (dlen_one z1.1)
        have bD : D < 58 := by have := sdg_lt b.n 0; omega
        rw [← hDd] at y0
        obtain ⟨dq, hdq⟩ : ∃ dq, dq = b.dp := ⟨_, rfl⟩
        rw [← hdq] at z2 z3 y1
        have HDQ := Lib.hid hdq
        by_cases hiJ : i < J2
        · have hc : dq < 0 ∨ (dq = 0 ∧ D < 53) := by
            have h := HK2.out i hiJ
            unfold c2 at h
            rw [← hbe, ← hdq, Bool.or_eq_true, Bool.and_eq_true, decide_eq_true_eq, decide_eq_true_eq, decide_eq_true_eq] at h
            omega
          obtain ⟨m, hm⟩ : ∃ m : Nat, -dq = (m : Int) := ⟨(-dq).toNat, by omega⟩
          have hm2 : m ≤ 330 := by omega
          have HM := Lib.hid hm
          have y2 := hgt.c9
          have hpt := pt_bound m
          obtain ⟨n, hn⟩ : ∃ n, n = pt m := ⟨_, rfl⟩
          rw [← hn] at hpt
          obtain ⟨n1, n2⟩ := hpt
          have HN := Lib.hid hn
          have HS : Hid (∀ y, Only wr y g → Db y g b ng → Calls Tryz.prog 223 #[.pointer (some ⟨g, 0, none⟩), .int .i64 (n : Nat)] y fun e w' => e = .returned (.tuple #[]) ∧ Db w' g (f2 (iter f2 p1 i)).1 ng ∧ Only y w' g) := Lib.hid fun y hyo hy => by
            have := shift_left y g b ng n dlv l5v CS (hgt.only hyo).lt HL.out n1 (by omega) hy (by rw [← HDQ.out]; constructor <;> omega)
            refine this.mono ?_
            rintro x w9 ⟨rfl, r1, r2⟩
            refine ⟨rfl, ?_, r2⟩
            show Db w9 g ((iter f2 p1 i).1.shl (pt (-(iter f2 p1 i).1.dp).toNat)) ng
            rw [← HBE.out, ← HDQ.out, HM.out, Int.toNat_natCast, ← HN.out]
            exact r1
          have HE2 : Hid ((f2 (iter f2 p1 i)).2 = e - (n : Int)) := Lib.hid (by
            show (iter f2 p1 i).2 - ((pt (-(iter f2 p1 i).1.dp).toNat : Nat) : Int) = _
            rw [← HEE.out, ← HBE.out, ← HDQ.out, HM.out, Int.toNat_natCast, ← HN.out])
          obtain ⟨B, hB1, hB2⟩ : ∃ B : Bool, decide (dq < 0) = B ∧ (B = false → ((dq == 0) = true ∧ decide ((D : Int) < 53) = true)) := by
            by_cases h : dq < 0
            · exact ⟨true, decide_eq_true h, fun h => by simp at h⟩
            · exact ⟨false, decide_eq_false h, fun _ => ⟨by simp; omega, by simp; omega⟩⟩
          have y3 : m < 9 → wr.cell? ⟨tp.1, tp.2 + m, none⟩ = some (.int .i64 (n : Nat)) := fun h => by rw [HN.out]; exact hgt.ctp m h
          clear hi hbe hee hdq hc hn hD hA ho z1 hgt eD hDd z3 HM
          by_cases h9 : 9 ≤ m
          · have en : n = 27 := by rw [HN.out]; exact pt_big h9
            have d9 : decide ((m : Int) ≥ 9) = true := by simp; omega
            have HS2 : Hid (∀ y, Only wr y g → Db y g b ng → Calls Tryz.prog 223 #[.pointer (some ⟨g, 0, none⟩), .int .i64 27] y fun e w' => e = .returned (.tuple #[]) ∧ Db w' g (f2 (iter f2 p1 i)).1 ng ∧ Only y w' g) := Lib.hid (by have h := HS.out; rw [en] at h; exact h)
            have HE3 : Hid ((f2 (iter f2 p1 i)).2 = e - 27) := Lib.hid (by rw [HE2.out, en]; rfl)
            clear HS HE2 en y3
            cases B with
            | true =>
              clear hB2
              go_upto_region 20 with (fail)
              go_quiet (fail)
              go_wp2_with fail
              refine (HS2.out _ ((Only.refl _ _).drewN _) (db_drewN HBJ.out _)).mono ?_
              rintro x w9 ⟨rfl, r1, r2⟩
              have R1 := Lib.hid r1
              have R2 := Lib.hid ((HO.out.drewN _).trans r2)
              clear r1 r2
              go_wp2_with fail
              go_roundw
              case rel => exact ⟨i + 1, by omega, by rw [← HE3.out]; rfl, R1.out, R2.out⟩
              case measure => simp [intOf]; omega
            | false =>
              obtain ⟨u1, u2⟩ := hB2 rfl
              clear hB2
              go_upto_region 20 with (fail)
              go_quiet (fail)
              go_wp2_with fail
              refine (HS2.out _ ((Only.refl _ _).drewN _) (db_drewN HBJ.out _)).mono ?_
              rintro x w9 ⟨rfl, r1, r2⟩
              have R1 := Lib.hid r1
              have R2 := Lib.hid ((HO.out.drewN _).trans r2)
              clear r1 r2
              go_wp2_with fail
              go_roundw
              case rel => exact ⟨i + 1, by omega, by rw [← HE3.out]; rfl, R1.out, R2.out⟩
              case measure => simp [intOf]; omega
          · have y4 := y3 (by omega)
            have d9 : decide ((m : Int) ≥ 9) = false := by simp; omega
            have hm9 : m < 9 := by omega
            clear y3
            cases B with
            | true =>
              clear hB2
              go_upto_region 20 with (fail)
              go_quiet (fail)
              go_wp2_with fail
              go_quiet (fail)
              go_wp2_with fail
              refine (HS.out _ ((Only.refl _ _).drewN _) (db_drewN HBJ.out _)).mono ?_
              rintro x w9 ⟨rfl, r1, r2⟩
              have R1 := Lib.hid r1
              have R2 := Lib.hid ((HO.out.drewN _).trans r2)
              clear r1 r2
              go_wp2_with fail
              go_roundw
              case rel => exact ⟨i + 1, by omega, by rw [← HE2.out]; rfl, R1.out, R2.out⟩
              case measure => simp [intOf]; omega
            | false =>
              obtain ⟨u1, u2⟩ := hB2 rfl
              clear hB2
              go_upto_region 20 with (fail)
              go_quiet (fail)
              go_wp2_with fail
              go_quiet (fail)
              go_wp2_with fail
              refine (HS.out _ ((Only.refl _ _).drewN _) (db_drewN HBJ.out _)).mono ?_
              rintro x w9 ⟨rfl, r1, r2⟩
              have R1 := Lib.hid r1
              have R2 := Lib.hid ((HO.out.drewN _).trans r2)
              clear r1 r2
              go_wp2_with fail
              go_roundw
              case rel => exact ⟨i + 1, by omega, by rw [← HE2.out]; rfl, R1.out, R2.out⟩
              case measure => simp [intOf]; omega
        · obtain rfl : i = J2 := by omega
          have hc : dq = 0 ∧ 53 ≤ D := by
            have h := HK1.out
            unfold c2 at h
            rw [HP2.out, ← hbe, ← hdq, Bool.or_eq_false_iff, Bool.and_eq_false_iff, decide_eq_false_iff_not, decide_eq_false_iff_not, decide_eq_false_iff_not] at h
            omega
          obtain ⟨hc1, hc2⟩ := hc
          have l1 : decide (dq < 0) = false := by simp; omega
          have l2 : (dq == 0) = true := by simp; omega
          have l3 : decide ((D : Int) < 53) = false := by simp; omega
          rw [← HP2.out] at hbe hee
          have x0 := hgt.f0
          have x1 := hgt.f1
          have x2 := hgt.f2
          clear hi hdq hD hA ho z1 hgt eD hDd hiJ hc1 hc2 HBE HEE
          subst hbe
          obtain ⟨E2, hE2⟩ : ∃ E2, E2 = e - 1 := ⟨_, rfl⟩
          have e2 : e - 1 = E2 := hE2.symm
          have hEp : E2 = p2.2 - 1 := by rw [hE2, hee]
          have HEp := Lib.hid hEp
          rw [← hee] at q4 q5
          have q6 : -1103 ≤ E2 := by omega
          have q7 : E2 ≤ 1056 := by omega
          have HO2 := Lib.hid HO.out
          have HB2 := Lib.hid HBJ.out
          clear hE2 hEp hee HO HBJ
          go_upto_if 111 with (fail)
          go_cut [6] (fun ev wx => ev = .int .i64 e3 ∧ Db wx g b3 ng ∧ Only w wx g)
          case first =>
            by_cases hm : E2 < -1022
            · obtain ⟨r1, r2⟩ := H31.out (by rw [← HEp.out]; exact hm)
              rw [← HEp.out] at r1
              obtain ⟨n, hn⟩ : ∃ n : Nat, -1022 - E2 = (n : Int) := ⟨(-1022 - E2).toNat, by omega⟩
              have hn1 : 1 ≤ n := by omega
              have hn2 : n ≤ 81 := by omega
              have eN : E2 + (n : Int) = -1022 := by omega
              have dm : decide (E2 < -1022) = true := decide_eq_true hm
              have HR1 : Hid (b3 = shrN p2.1 n) := Lib.hid (by rw [r1, hn, Int.toNat_natCast])
              have HR2 := Lib.hid r2
              clear r1 r2 hm
              go_wp2_with fail
              refine (shift_right wr g p2.1 ng n hn1 (by omega) HB2.out (by have := HDQ.out; constructor <;> omega)).mono ?_
              rintro x w9 ⟨rfl, r1, r2⟩
              rw [← HR1.out] at r1
              have R1 := Lib.hid r1
              have R2 := Lib.hid (HO2.out.trans r2)
              clear r1 r2
              go_wp2_with fail
              go_meet
              exact ⟨by rw [HR2.out], R1.out, R2.out⟩
            · obtain ⟨r1, r2⟩ := H32.out (by rw [← HEp.out]; omega)
              rw [← HEp.out] at r2
              have dm : decide (E2 < -1022) = false := decide_eq_false hm
              have hm3 : -1022 ≤ E2 := by omega
              have HR1 := Lib.hid r1
              have HR2 := Lib.hid r2
              clear r1 r2 hm
              go_wp2_with fail
              go_meet
              exact ⟨by rw [HR2.out], by rw [HR1.out]; exact HB2.out, HO2.out⟩
          case rest =>
            obtain ⟨rfl, hb, ho⟩ := hcut
            have HO := Lib.hid ho
            have HB := Lib.hid hb
            have hgt := HG.out.only ho
            have x0 := hgt.f0
            have x1 := hgt.f1
            have x2 := hgt.f2
            clear hgt ho hb HO2 HB2 HEp H31 H32
            by_cases hov : 1024 ≤ e3
            · obtain ⟨_, A', hD, _⟩ := HB.out
              have c2 := hD.c2
              obtain ⟨rfl, rfl⟩ := HV1.out hov
              have h2 : 2047 ≤ e3 + 1023 := by omega
              clear hD HV1 HV2 HV3 HV4 HV5
              go_upto_region 30 with (fail)
              go_quiet (fail)
              go_wp2_with fail
              cases ng with
              | true =>
                go_step3
                refine Or.inr ⟨rfl, ?_⟩
                go_wp2_with fail
                go_quiet (fail)
                go_wp2_with fail
                go_step3
                go_wp2_with fail
                go_quiet (fail)
                go_wp2_with fail
                go_quiet (fail)
                go_wp2_with fail
                rw [Exit.noGoto_ret]
                go_ret2
                exact ⟨rfl, by first | exact HO.out.drewN _ | exact (HO.out.drewN _).drewN _ | exact ((HO.out.drewN _).drewN _).drewN _⟩
              | false =>
                go_step3
                refine Or.inr ⟨rfl, ?_⟩
                go_wp2_with fail
                go_quiet (fail)
                go_wp2_with fail
                go_step3
                go_wp2_with fail
                go_quiet (fail)
                go_wp2_with fail
                rw [Exit.noGoto_ret]
                go_ret2
                exact ⟨rfl, by first | exact HO.out.drewN _ | exact (HO.out.drewN _).drewN _ | exact ((HO.out.drewN _).drewN _).drewN _⟩
            · have hlt : e3 + 1023 < 2047 := by omega
              go_upto_region 30 with (fail)
              go_quiet (fail)
              go_wp2_with fail
              refine (shift_left _ g b3 ng 53 dlv l5v CS (HG.out.only (HO.out.drewN _)).lt HL.out (by decide) (by decide) (db_drewN HB.out _) (by have := HT.out; constructor <;> omega)).mono ?_
              rintro x w9 ⟨rfl, r1, r2⟩
              have R1 : Hid (Db w9 g b4 ng) := Lib.hid (by rw [HB4.out]; exact r1)
              have R2 : Hid (Only w w9 g) := Lib.hid ((HO.out.drewN _).trans r2)
              clear r1 r2 x0 x1 x2 HO HB
              go_wp2_with fail
              obtain ⟨_, A', hD, hA'⟩ := R1.out
              refine (HF133.out w9 g A' hD (fun i hi => hA' i hi)).mono ?_
              rintro x wz ⟨rfl, m, hwz⟩
              have R3 : Hid (Only w wz g) := Lib.hid (by rw [hwz]; exact R2.out.drewN _)
              have hgt := HG.out.only R3.out
              have x0 := hgt.f0
              have x1 := hgt.f1
              have x2 := hgt.f2
              have c2 : wz.cell? ⟨g, 802, none⟩ = some (.bool ng) := by rw [hwz]; exact hD.c2
              clear hwz hgt hD hA' R1 R2 HF133
              by_cases hM2 : M = 9007199254740992
              · obtain ⟨E4, hE4⟩ : ∃ E4, e3 + 1 = E4 := ⟨_, rfl⟩
                by_cases hov2 : 1024 ≤ e3 + 1
                · obtain ⟨rfl, rfl⟩ := HV2.out (by omega) hM2 hov2
                  have h2 : 2047 ≤ E4 + 1023 := by omega
                  clear HV1 HV2 HV3 HV4 HV5
                  subst hM2
                  go_wp2_with fail
                  go_quiet (fail)
                  go_wp2_with fail
                  cases ng with
                  | true =>
                    go_step3
                    refine Or.inr ⟨rfl, ?_⟩
                    go_wp2_with fail
                    go_quiet (fail)
                    go_wp2_with fail
                    go_step3
                    go_wp2_with fail
                    go_quiet (fail)
                    go_wp2_with fail
                    go_quiet (fail)
                    go_wp2_with fail
                    rw [Exit.noGoto_ret]
                    go_ret2
                    exact ⟨rfl, by first | exact R3.out.drewN _ | exact (R3.out.drewN _).drewN _ | exact ((R3.out.drewN _).drewN _).drewN _⟩
                  | false =>
                    go_step3
                    refine Or.inr ⟨rfl, ?_⟩
                    go_wp2_with fail
                    go_quiet (fail)
                    go_wp2_with fail
                    go_step3
                    go_wp2_with fail
                    go_quiet (fail)
                    go_wp2_with fail
                    rw [Exit.noGoto_ret]
                    go_ret2
                    exact ⟨rfl, by first | exact R3.out.drewN _ | exact (R3.out.drewN _).drewN _ | exact ((R3.out.drewN _).drewN _).drewN _⟩
                · obtain ⟨v1, v2⟩ := HV3.out (by omega) hM2 (by omega)
                  rw [hE4] at v1
                  subst v1 v2
                  have h2 : E4 + 1023 < 2047 := by omega
                  have h3 : bits .and .u64 4503599627370496 4503599627370496 = 4503599627370496 := by decide
                  clear HV1 HV2 HV3 HV4 HV5
                  subst hM2
                  go_wp2_with fail
                  go_quiet (fail)
                  go_wp2_with fail
                  cases ng with
                  | true =>
                    go_step3
                    refine Or.inl ⟨rfl, ?_⟩
                    go_wp2_with fail
                    go_quiet (fail)
                    go_wp2_with fail
                    go_quiet (fail)
                    go_wp2_with fail
                    rw [Exit.noGoto_ret]
                    go_ret2
                    exact ⟨rfl, by first | exact R3.out.drewN _ | exact (R3.out.drewN _).drewN _ | exact ((R3.out.drewN _).drewN _).drewN _⟩
                  | false =>
                    go_step3
                    refine Or.inl ⟨rfl, ?_⟩
                    go_wp2_with fail
                    go_quiet (fail)
                    go_wp2_with fail
                    rw [Exit.noGoto_ret]
                    go_ret2
                    exact ⟨rfl, by first | exact R3.out.drewN _ | exact (R3.out.drewN _).drewN _ | exact ((R3.out.drewN _).drewN _).drewN _⟩
              · have dM : ((M : Int) == 9007199254740992) = false := by simp; omega
                obtain ⟨Z, hZ⟩ : ∃ Z, bits .and .u64 (M : Int) 4503599627370496 = Z := ⟨_, rfl⟩
                by_cases hz : bits .and .u64 (M : Int) 4503599627370496 = 0
                · obtain ⟨rfl, rfl⟩ := HV4.out (by omega) hM2 hz
                  have dZ : (Z == 0) = true := by rw [← hZ, hz]; rfl
                  clear HV1 HV2 HV3 HV4 HV5 hz hM2
                  go_wp2_with fail
                  cases ng with
                  | true =>
                    go_step3
                    refine Or.inl ⟨rfl, ?_⟩
                    go_wp2_with fail
                    go_quiet (fail)
                    go_wp2_with fail
                    go_quiet (fail)
                    go_wp2_with fail
                    rw [Exit.noGoto_ret]
                    go_ret2
                    exact ⟨rfl, by first | exact R3.out.drewN _ | exact (R3.out.drewN _).drewN _ | exact ((R3.out.drewN _).drewN _).drewN _⟩
                  | false =>
                    go_step3
                    refine Or.inl ⟨rfl, ?_⟩
                    go_wp2_with fail
                    go_quiet (fail)
                    go_wp2_with fail
                    rw [Exit.noGoto_ret]
                    go_ret2
                    exact ⟨rfl, by first | exact R3.out.drewN _ | exact (R3.out.drewN _).drewN _ | exact ((R3.out.drewN _).drewN _).drewN _⟩
                · obtain ⟨rfl, rfl⟩ := HV5.out (by omega) hM2 hz
                  have dZ : (Z == 0) = false := by rw [← hZ]; simpa using hz
                  clear HV1 HV2 HV3 HV4 HV5 hz hM2
                  go_wp2_with fail
                  cases ng with
                  | true =>
                    go_step3
                    refine Or.inl ⟨rfl, ?_⟩
                    go_wp2_with fail
                    go_quiet (fail)
                    go_wp2_with fail
                    go_quiet (fail)
                    go_wp2_with fail
                    rw [Exit.noGoto_ret]
                    go_ret2
                    exact ⟨rfl, by first | exact R3.out.drewN _ | exact (R3.out.drewN _).drewN _ | exact ((R3.out.drewN _).drewN _).drewN _⟩
                  | false =>
                    go_step3
                    refine Or.inl ⟨rfl, ?_⟩
                    go_wp2_with fail
                    go_quiet (fail)
                    go_wp2_with fail
                    rw [Exit.noGoto_ret]
                    go_ret2
                    exact ⟨rfl, by first | exact R3.out.drewN _ | exact (R3.out.drewN _).drewN _ | exact ((R3.out.drewN _).drewN _).drewN _⟩
end Dc
end Go.Proofs.YtbnicnhkakbglaaGreatDoor
