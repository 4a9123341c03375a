import Derived.Test.YtbnicnhkakbglaaGreatDoorG09
import Derived.Deep.CutBlock
import Derived.Deep.DeepCutAuto
import Derived.BigQuiet
import Derived.RegionTactic

/- What is written as a float is: the document's test and the program's. -/
namespace Go.Proofs.YtbnicnhkakbglaaGreatDoor
open Go.RowKit
namespace Vd
open Sa Sb Fm Rm

theorem by8_get (s : ByteArray) (k : Nat) (hk : k < s.size) : (s[k]'hk).toNat = by8 s k := by
  have h1 : k < s.data.toList.length := by simpa using hk
  unfold by8
  rw [List.getD_eq_getElem?_getD, List.getElem?_eq_getElem h1]
  simp
  rfl
theorem d1_none {s : ByteArray} (h : run s (pS s) = pS s) : d1 s = none := by unfold d1 go1; rw [if_pos h]; rfl
theorem d1_plain {s : ByteArray} (h : run s (pS s) ≠ pS s) (h2 : ¬ (run s (pS s) < s.size ∧ by8 s (run s (pS s)) = 46)) : d1 s = some (run s (pS s)) := by
  unfold d1 go1; rw [if_neg h]; show dotp s _ = _; unfold dotp; rw [if_neg h2]
theorem d1_dot {s : ByteArray} (h : run s (pS s) ≠ pS s) (h2 : run s (pS s) < s.size ∧ by8 s (run s (pS s)) = 46) : d1 s = go1 s (run s (pS s) + 1) := by
  unfold d1; rw [show go1 s (pS s) = some (run s (pS s)) from by unfold go1; rw [if_neg h]]; show dotp s _ = _; unfold dotp; rw [if_pos h2]
theorem go1_none {s : ByteArray} {p : Nat} (h : run s p = p) : go1 s p = none := by unfold go1; rw [if_pos h]
theorem go1_some {s : ByteArray} {p : Nat} (h : run s p ≠ p) : go1 s p = some (run s p) := by unfold go1; rw [if_neg h]
theorem d2_plain {s : ByteArray} {a : Nat} (h : d1 s = some a) (h2 : ¬ (a < s.size ∧ (by8 s a = 101 ∨ by8 s a = 69))) : d2 s = some a := by
  unfold d2; rw [h]; show expq s a = _; unfold expq; rw [if_neg h2]
theorem d2_exp {s : ByteArray} {a : Nat} (h : d1 s = some a) (h2 : a < s.size ∧ (by8 s a = 101 ∨ by8 s a = 69)) : d2 s = go1 s (pX s (a + 1)) := by
  unfold d2; rw [h]; show expq s a = _; unfold expq; rw [if_pos h2]
theorem d2_none {s : ByteArray} (h : d1 s = none) : d2 s = none := by unfold d2; rw [h]; rfl
theorem ff_none {s : ByteArray} (h : d2 s = none) : ff s = false := by unfold ff; rw [h]; exact decide_eq_false (by intro e; cases e)
theorem ff_some {s : ByteArray} {a : Nat} (h : d2 s = some a) : ff s = decide (a = s.size) := by unfold ff; rw [h]; exact decide_eq_decide.2 ⟨fun e => by injection e, fun e => by rw [e]⟩
set_option maxRecDepth 100000 in
set_option maxHeartbeats 1000000 in
theorem isFloat (w : World) (s : ByteArray) (hs : s.size ≤ 140737488355328) :
    Calls Tryz.prog 28 #[.string s] w fun e w' => e = .returned (.bool (ff s && decide (s.size ≤ 400))) ∧ w' = w := by
  have HQ := Lib.hid (fun (y : World) (k : Nat) (hk : k < s.size) => idx y s k hk)
  have HD := Lib.hid (fun (y : World) (p : Nat) (hp : p ≤ s.size) => digits y s hs p hp)
  have HD : Hid (∀ (y : World) (p : Nat), p ≤ s.size → Calls Tryz.prog 59 #[.string s, .int .i64 (p : Nat)] y fun e w' => e = .returned (.int .i64 (run s p : Nat)) ∧ w' = y) := HD
  obtain ⟨A, hA⟩ : ∃ A, A = (ff s && decide (s.size ≤ 400)) := ⟨_, rfl⟩
  rw [← hA]
  have HA := Lib.hid hA
  clear hA
  obtain ⟨n, hn⟩ : ∃ n, n = s.size := ⟨_, rfl⟩
  have hlen : ∀ (ty : TypeId) (y : World), (Builtin.len_ #[9] ty #[.string s]).run Tryz.prog y = .ok (.int .i64 (n : Nat)) y := fun ty y => by rw [hn]; exact run_len_string y 9 ty s Tryz.underlying9
  rw [← hn] at hs HQ HD HA
  have HN := Lib.hid hn
  clear hn
  obtain ⟨B0, hB0⟩ : ∃ B, B = decide (0 < n ∧ by8 s 0 = 45) := ⟨_, rfl⟩
  have HB0 := Lib.hid hB0
  have HP0 : Hid (pS s = if B0 = true then 1 else 0) := Lib.hid (by
    unfold pS; rw [hB0, HN.out]
    by_cases c : 0 < s.size ∧ by8 s 0 = 45
    · rw [if_pos c, if_pos (decide_eq_true c)]
    · rw [if_neg c, if_neg (by rw [decide_eq_false c]; decide)])
  have hp0n := pS_le s
  rw [← HN.out] at hp0n
  have hrun : ∀ p, p ≤ n → p ≤ run s p ∧ run s p ≤ n := fun p hp => ⟨run_ge s p, by rw [HN.out] at hp ⊢; exact run_le s p hp⟩
  have HR := Lib.hid hrun
  clear hB0 hrun
  obtain ⟨P0, hP0⟩ : ∃ P, P = pS s := ⟨_, rfl⟩
  rw [← hP0] at HP0 hp0n
  have HPS := Lib.hid hP0
  clear hP0
  go_enter Tryz.func28, Tryz.ntmps28
  go_upto_region 2 with (fail)
  go_cut [14] (fun t wx => t = .bool B0 ∧ wx = w)
  case first =>
    by_cases hp : 0 < n
    · have hz0 : 0 < s.size := by rw [← HN.out]; exact hp
      have hi := by8_get s 0 hz0
      have hb0 := HB0.out
      obtain ⟨b, hb⟩ : ∃ b, b = by8 s 0 := ⟨_, rfl⟩
      rw [← hb] at hi hb0
      have HB0 := Lib.hid hb0
      clear hb hb0
      have g0 : decide ((0 : Int) < (n : Int)) = true := decide_eq_true (by omega)
      by_cases h45 : b = 45
      · have g45 : ((b : Int) == 45) = true := by simp; omega
        have e : B0 = true := by rw [HB0.out]; exact decide_eq_true (by omega)
        subst e
        clear HB0
        go_wp2_with fail
        go_meet
        exact ⟨rfl, rfl⟩
      have g45 : ((b : Int) == 45) = false := by simp; omega
      have e : B0 = false := by rw [HB0.out]; exact decide_eq_false (by omega)
      subst e
      clear HB0
      go_wp2_with fail
      go_meet
      exact ⟨rfl, rfl⟩
    · have g0 : decide ((0 : Int) < (n : Int)) = false := decide_eq_false (by omega)
      have e : B0 = false := by rw [HB0.out]; exact decide_eq_false (by omega)
      subst e
      go_wp2_with fail
      go_meet
      exact ⟨rfl, rfl⟩
  case rest =>
  obtain ⟨rfl, rfl⟩ := hcut
  clear HB0
  go_upto_if 14 with (fail)
  go_cut [3] (fun i wx => i = .int .i64 (P0 : Nat) ∧ wx = wc)
  case first =>
    cases B0 with
    | true =>
      obtain rfl : P0 = 1 := HP0.out
      go_wp2_with fail
      go_meet
      exact ⟨rfl, rfl⟩
    | false =>
      obtain rfl : P0 = 0 := HP0.out
      go_wp2_with fail
      go_meet
      exact ⟨rfl, rfl⟩
  case rest =>
  obtain ⟨rfl, rfl⟩ := hcut
  clear HP0
  obtain ⟨r1, r2⟩ := HR.out P0 hp0n
  have F0 := Lib.hid (HD.out wc P0 hp0n)
  obtain ⟨E0, hE0⟩ : ∃ E, E = run s P0 := ⟨_, rfl⟩
  rw [← hE0] at r1 r2 F0
  have HE0 := Lib.hid hE0
  clear hE0
  by_cases x1 : E0 = P0
  · have e : A = false := by rw [HA.out, ff_none (d2_none (d1_none (by rw [← HPS.out, ← HE0.out]; exact x1)))]; rfl
    subst e
    have g1 : ((E0 : Int) == (P0 : Int)) = true := by simp; omega
    clear x1
    go_wp2_with (go_at_call 59; refine F0.out.mono ?_; clear F0; rintro e w2 ⟨rfl, h2⟩; rw [h2]; clear h2 w2)
    go_ret
    exact ⟨rfl, rfl⟩
  have g1 : ((E0 : Int) == (P0 : Int)) = false := by simp; omega
  by_cases x2 : 400 < n
  · have e : A = false := by rw [HA.out, decide_eq_false (by omega), Bool.and_false]
    subst e
    have g2 : decide ((n : Int) > 400) = true := decide_eq_true (by omega)
    clear x1 x2
    go_wp2_with (go_at_call 59; refine F0.out.mono ?_; clear F0; rintro e w2 ⟨rfl, h2⟩; rw [h2]; clear h2 w2)
    go_ret
    exact ⟨rfl, rfl⟩
  have g2 : decide ((n : Int) > 400) = false := decide_eq_false (by omega)
  have HA2 : Hid (A = ff s) := Lib.hid (by rw [HA.out, decide_eq_true (by omega), Bool.and_true])
  have HX1 : Hid (run s (pS s) ≠ pS s) := Lib.hid (by rw [← HPS.out, ← HE0.out]; exact x1)
  have HE : Hid (E0 = run s (pS s)) := Lib.hid (by rw [← HPS.out, ← HE0.out])
  clear x1 x2 HA HPS HE0
  obtain ⟨B1, hB1⟩ : ∃ B, B = decide (E0 < n ∧ by8 s E0 = 46) := ⟨_, rfl⟩
  have HB1 := Lib.hid hB1
  clear hB1
  go_upto_region 8 with (go_at_call 59; refine F0.out.mono ?_; clear F0; rintro e w2 ⟨rfl, h2⟩; rw [h2]; clear h2 w2)
  clear g1 g2
  go_upto_region 8 with (fail)
  go_cut [38] (fun t wx => t = .bool B1 ∧ wx = wc)
  case first =>
    by_cases hp : E0 < n
    · have hi := fun (y : World) => HQ.out y E0 hp
      have hb0 := HB1.out
      obtain ⟨b, hb⟩ : ∃ b, b = by8 s E0 := ⟨_, rfl⟩
      rw [← hb] at hi hb0
      have HB0 := Lib.hid hb0
      clear hb hb0
      have g0 : decide ((E0 : Int) < (n : Int)) = true := decide_eq_true (by omega)
      by_cases h46 : b = 46
      · have g46 : ((b : Int) == 46) = true := by simp; omega
        have e : B1 = true := by rw [HB0.out]; exact decide_eq_true (by omega)
        subst e
        clear HB0
        go_wp2_with fail
        go_meet
        exact ⟨rfl, rfl⟩
      have g46 : ((b : Int) == 46) = false := by simp; omega
      have e : B1 = false := by rw [HB0.out]; exact decide_eq_false (by omega)
      subst e
      clear HB0
      go_wp2_with fail
      go_meet
      exact ⟨rfl, rfl⟩
    · have g0 : decide ((E0 : Int) < (n : Int)) = false := decide_eq_false (by omega)
      have e : B1 = false := by rw [HB1.out]; exact decide_eq_false (by omega)
      subst e
      go_wp2_with fail
      go_meet
      exact ⟨rfl, rfl⟩
  case rest =>
  obtain ⟨rfl, rfl⟩ := hcut
  go_upto_if 38 with (fail)
  go_cut [3] (fun i wx => ∃ a : Nat, i = .int .i64 (a : Nat) ∧ a ≤ n ∧ d1 s = some a ∧ wx = wc)
  case first =>
    cases B1 with
    | true =>
      have hc : E0 < n ∧ by8 s E0 = 46 := of_decide_eq_true HB1.out.symm
      have hd : d1 s = go1 s (E0 + 1) := by
        rw [HE.out]
        exact d1_dot HX1.out (by rw [← HE.out, ← HN.out]; exact hc)
      have hc1 : E0 + 1 ≤ n := hc.1
      obtain ⟨q1, q2⟩ := HR.out (E0 + 1) hc1
      have F1 := Lib.hid (HD.out wc (E0 + 1) hc1)
      obtain ⟨E1, hE1⟩ : ∃ E, E = run s (E0 + 1) := ⟨_, rfl⟩
      rw [← hE1] at q1 q2 F1
      have HE1 := Lib.hid hE1
      have HDD := Lib.hid hd
      clear hc hd hE1
      by_cases y1 : E1 = E0 + 1
      · have e : A = false := by rw [HA2.out, ff_none (d2_none (HDD.out.trans (go1_none (by rw [← HE1.out]; exact y1))))]
        subst e
        have g3 : ((E1 : Int) == (E0 : Int) + 1) = true := by simp; omega
        clear y1
        go_wp2_with (go_at_call 59; refine F1.out.mono ?_; clear F1; rintro e w2 ⟨rfl, h2⟩; rw [h2]; clear h2 w2)
        go_ret
        exact ⟨rfl, rfl⟩
      · have g3 : ((E1 : Int) == (E0 : Int) + 1) = false := by simp; omega
        have HY := Lib.hid y1
        clear y1
        go_wp2_with (go_at_call 59; refine F1.out.mono ?_; clear F1; rintro e w2 ⟨rfl, h2⟩; rw [h2]; clear h2 w2)
        go_meet
        exact ⟨E1, rfl, q2, HDD.out.trans (by rw [HE1.out]; exact go1_some (by rw [← HE1.out]; exact HY.out)), rfl⟩
    | false =>
      have hc : ¬ (E0 < n ∧ by8 s E0 = 46) := of_decide_eq_false HB1.out.symm
      have hd : d1 s = some E0 := by
        rw [HE.out]
        exact d1_plain HX1.out (by rw [← HE.out, ← HN.out]; exact hc)
      have HDD := Lib.hid hd
      clear hc hd
      go_wp2_with fail
      go_meet
      exact ⟨E0, rfl, r2, HDD.out, rfl⟩
  case rest =>
  obtain ⟨a, rfl, ha, hd, rfl⟩ := hcut
  have HD1 := Lib.hid hd
  clear hd HB1 HX1 HE r1 r2
  obtain ⟨B2, hB2⟩ : ∃ B, B = decide (a < n ∧ (by8 s a = 101 ∨ by8 s a = 69)) := ⟨_, rfl⟩
  have HB2 := Lib.hid hB2
  clear hB2
  go_upto_region 13 with (fail)
  go_cut [63] (fun t wx => t = .bool B2 ∧ wx = wc)
  case first =>
    by_cases hp : a < n
    · have hi := fun (y : World) => HQ.out y a hp
      have hb0 := HB2.out
      obtain ⟨b, hb⟩ : ∃ b, b = by8 s a := ⟨_, rfl⟩
      rw [← hb] at hi hb0
      have HB0 := Lib.hid hb0
      clear hb hb0
      have g0 : decide ((a : Int) < (n : Int)) = true := decide_eq_true (by omega)
      by_cases h101 : b = 101
      · have g101 : ((b : Int) == 101) = true := by simp; omega
        have e : B2 = true := by rw [HB0.out]; exact decide_eq_true (by omega)
        subst e
        clear HB0
        go_wp2_with fail
        go_meet
        exact ⟨rfl, rfl⟩
      have g101 : ((b : Int) == 101) = false := by simp; omega
      by_cases h69 : b = 69
      · have g69 : ((b : Int) == 69) = true := by simp; omega
        have e : B2 = true := by rw [HB0.out]; exact decide_eq_true (by omega)
        subst e
        clear HB0
        go_wp2_with fail
        go_meet
        exact ⟨rfl, rfl⟩
      have g69 : ((b : Int) == 69) = false := by simp; omega
      have e : B2 = false := by rw [HB0.out]; exact decide_eq_false (by omega)
      subst e
      clear HB0
      go_wp2_with fail
      go_meet
      exact ⟨rfl, rfl⟩
    · have g0 : decide ((a : Int) < (n : Int)) = false := decide_eq_false (by omega)
      have e : B2 = false := by rw [HB2.out]; exact decide_eq_false (by omega)
      subst e
      go_wp2_with fail
      go_meet
      exact ⟨rfl, rfl⟩
  case rest =>
  obtain ⟨rfl, rfl⟩ := hcut
  go_upto_if 63 with (fail)
  go_cut [3] (fun i wx => ∃ b : Nat, i = .int .i64 (b : Nat) ∧ d2 s = some b ∧ wx = wc)
  case first =>
    cases B2 with
    | true =>
      have hc : a < n ∧ (by8 s a = 101 ∨ by8 s a = 69) := of_decide_eq_true HB2.out.symm
      have hd : d2 s = go1 s (pX s (a + 1)) := d2_exp HD1.out (by rw [← HN.out]; exact hc)
      have hc1 : a + 1 ≤ n := hc.1
      have HDD := Lib.hid hd
      clear hc hd HB2
      obtain ⟨a1, ha1⟩ : ∃ a1, a1 = a + 1 := ⟨_, rfl⟩
      have ha1i : (a : Int) + 1 = (a1 : Int) := by omega
      rw [← ha1] at HDD hc1
      obtain ⟨B3, hB3⟩ : ∃ B, B = decide (a1 < n ∧ (by8 s a1 = 43 ∨ by8 s a1 = 45)) := ⟨_, rfl⟩
      have HB3 := Lib.hid hB3
      have HPX : Hid (pX s a1 = if B3 = true then a1 + 1 else a1) := Lib.hid (by
        unfold pX; rw [hB3, HN.out]
        by_cases c : a1 < s.size ∧ (by8 s a1 = 43 ∨ by8 s a1 = 45)
        · rw [if_pos c, if_pos (decide_eq_true c)]
        · rw [if_neg c, if_neg (by rw [decide_eq_false c]; decide)])
      have hpx : pX s a1 ≤ n := by rw [HN.out] at hc1 ⊢; exact pX_le s a1 hc1
      clear hB3 ha1
      go_upto_region 15 with (fail)
      clear ha1i
      go_upto_region 15 with (fail)
      go_cut [81] (fun t wx => t = .bool B3 ∧ wx = wc)
      case first =>
        by_cases hp : a1 < n
        · have hi := fun (y : World) => HQ.out y a1 hp
          have hb0 := HB3.out
          obtain ⟨b, hb⟩ : ∃ b, b = by8 s a1 := ⟨_, rfl⟩
          rw [← hb] at hi hb0
          have HB0 := Lib.hid hb0
          clear hb hb0
          have g0 : decide ((a1 : Int) < (n : Int)) = true := decide_eq_true (by omega)
          by_cases h43 : b = 43
          · have g43 : ((b : Int) == 43) = true := by simp; omega
            have e : B3 = true := by rw [HB0.out]; exact decide_eq_true (by omega)
            subst e
            clear HB0
            go_wp2_with fail
            go_meet
            exact ⟨rfl, rfl⟩
          have g43 : ((b : Int) == 43) = false := by simp; omega
          by_cases h45 : b = 45
          · have g45 : ((b : Int) == 45) = true := by simp; omega
            have e : B3 = true := by rw [HB0.out]; exact decide_eq_true (by omega)
            subst e
            clear HB0
            go_wp2_with fail
            go_meet
            exact ⟨rfl, rfl⟩
          have g45 : ((b : Int) == 45) = false := by simp; omega
          have e : B3 = false := by rw [HB0.out]; exact decide_eq_false (by omega)
          subst e
          clear HB0
          go_wp2_with fail
          go_meet
          exact ⟨rfl, rfl⟩
        · have g0 : decide ((a1 : Int) < (n : Int)) = false := decide_eq_false (by omega)
          have e : B3 = false := by rw [HB3.out]; exact decide_eq_false (by omega)
          subst e
          go_wp2_with fail
          go_meet
          exact ⟨rfl, rfl⟩
      case rest =>
      obtain ⟨rfl, rfl⟩ := hcut
      clear HB3
      obtain ⟨X, hX⟩ : ∃ X, X = pX s a1 := ⟨_, rfl⟩
      rw [← hX] at HPX hpx HDD
      clear hX
      go_upto_if 81 with (fail)
      go_cut [3] (fun i wx => i = .int .i64 (X : Nat) ∧ wx = wc)
      case first =>
        cases B3 with
        | true =>
          have hx : X = a1 + 1 := HPX.out
          have HXX := Lib.hid hx
          clear hx
          go_wp2_with fail
          go_meet
          exact ⟨by rw [HXX.out]; go_num, rfl⟩
        | false =>
          obtain rfl : X = a1 := HPX.out
          go_wp2_with fail
          go_meet
          exact ⟨rfl, rfl⟩
      case rest =>
      obtain ⟨rfl, rfl⟩ := hcut
      clear HPX
      have F2 := Lib.hid (HD.out wc X hpx)
      obtain ⟨E2, hE2⟩ : ∃ E, E = run s X := ⟨_, rfl⟩
      rw [← hE2] at F2
      have HE2 := Lib.hid hE2
      clear hE2
      by_cases y1 : E2 = X
      · have e : A = false := by rw [HA2.out, ff_none (HDD.out.trans (go1_none (by rw [← HE2.out]; exact y1)))]
        subst e
        have g3 : ((E2 : Int) == (X : Int)) = true := by simp; omega
        clear y1
        go_wp2_with (go_at_call 59; refine F2.out.mono ?_; clear F2; rintro e w2 ⟨rfl, h2⟩; rw [h2]; clear h2 w2)
        go_ret
        exact ⟨rfl, rfl⟩
      · have g3 : ((E2 : Int) == (X : Int)) = false := by simp; omega
        have HY := Lib.hid y1
        clear y1
        go_wp2_with (go_at_call 59; refine F2.out.mono ?_; clear F2; rintro e w2 ⟨rfl, h2⟩; rw [h2]; clear h2 w2)
        go_meet
        exact ⟨E2, rfl, HDD.out.trans (by rw [HE2.out]; exact go1_some (by rw [← HE2.out]; exact HY.out)), rfl⟩
    | false =>
      have hc : ¬ (a < n ∧ (by8 s a = 101 ∨ by8 s a = 69)) := of_decide_eq_false HB2.out.symm
      have hd : d2 s = some a := d2_plain HD1.out (by rw [← HN.out]; exact hc)
      have HDD := Lib.hid hd
      clear hc hd
      go_wp2_with fail
      go_meet
      exact ⟨a, rfl, HDD.out, rfl⟩
  case rest =>
  obtain ⟨b, rfl, hd, rfl⟩ := hcut
  have e : A = ((b : Int) == (n : Int)) := by
    rw [HA2.out, ff_some hd, HN.out]
    by_cases c : b = s.size
    · rw [decide_eq_true c, c]; simp
    · rw [decide_eq_false c]
      symm
      rw [beq_eq_false_iff_ne]
      omega
  subst e
  clear hd
  go_wp2_with fail
  go_ret
  exact ⟨rfl, rfl⟩
end Vd
end Go.Proofs.YtbnicnhkakbglaaGreatDoor
