import Derived.Test.YtbnicnhkakbglaaGreatDoorG21
import Derived.Test.YtbnicnhkakbglaaGreatDoorG07
import Derived.Deep.CutBlock
import Derived.Deep.DeepCutAuto

/- The program's test of a float's form, whole. -/
namespace Go.Proofs.YtbnicnhkakbglaaGreatDoor
open Go.RowKit
namespace Vd
open Jb Sa Sb Sj Fm Rm

theorem go1_some' {s : ByteArray} {p : Nat} (h : p < run s p) : go1 s p = some (run s p) := go1_some (by omega)
theorem run_not {s : ByteArray} {p : Nat} (h : ¬ p < run s p) : run s p = p := by have := run_ge s p; omega
set_option maxRecDepth 100000 in
set_option maxHeartbeats 1000000 in
theorem floatForm (w : World) (s : ByteArray) (hs : s.size ≤ 140737488355328) :
    Calls Tryz.prog 67 #[.string s] w fun e w' => e = .returned (.bool (ff s)) ∧ Below w.heap.size w w' := by
  have HT := Lib.hid (fun (y : World) => trimP y s)
  have HK := Lib.hid (fun (y : World) (p : Nat) => skip_at y s hs p)
  have HH := Lib.hid (fun (y : World) (p : Nat) => hasP y s p)
  have HS := Lib.hid (fun (y : World) (p : Nat) (hp : p ≤ s.size) => skipSign y s p hp)
  have HTL := Lib.hid (fun (p : Nat) (hp : p < s.size) (y : World) => tail_run s p hp y)
  obtain ⟨A, hA⟩ : ∃ A, A = ff s := ⟨_, rfl⟩
  rw [← hA]
  have HA := Lib.hid hA
  clear hA
  have hp0 := pS_le s
  have hrn := run_le s (pS s) hp0
  have K0 := Lib.hid (fun (y : World) => HK.out y (pS s))
  obtain ⟨k0, hk0⟩ : ∃ k, k = decide (pS s < run s (pS s)) := ⟨_, rfl⟩
  obtain ⟨R0, hR0⟩ : ∃ R, R = sub s (run s (pS s)) := ⟨_, rfl⟩
  obtain ⟨Q0, hQ0⟩ : ∃ R, R = sub s (pS s) := ⟨_, rfl⟩
  rw [← hQ0] at HT K0
  rw [← hk0, ← hR0] at K0
  clear hQ0
  have HK0 := Lib.hid hk0
  clear hk0
  cases k0 with
  | false =>
    have e : A = false := by rw [HA.out, ff_none (d2_none (d1_none (run_not (of_decide_eq_false HK0.out.symm))))]
    subst e
    clear HK0 hR0 hp0 hrn
    go_enter Tryz.func67, Tryz.ntmps67
    go_wp2_with (first | (go_at_call 64; refine (HT.out _).mono ?_; clear HT; rintro e wr ⟨rfl, hw⟩; rw [hw]; clear hw wr) | (go_at_call 65; refine (K0.out _).mono ?_; clear K0; rintro e w2 ⟨rfl, b2⟩; have B2 := Lib.hid b2; clear b2))
    go_ret
    exact ⟨rfl, B2.out⟩
  | true =>
  have hlt : pS s < run s (pS s) := of_decide_eq_true HK0.out.symm
  have HNE : Hid (run s (pS s) ≠ pS s) := Lib.hid (by omega)
  have H0 := Lib.hid (fun (y : World) => HH.out y (run s (pS s)))
  obtain ⟨E0, hE0⟩ : ∃ E, E = run s (pS s) := ⟨_, rfl⟩
  have HE0 := Lib.hid hE0
  rw [← hE0] at hrn hR0 H0
  rw [← hR0] at H0
  have HR0 := Lib.hid hR0
  obtain ⟨B1, hB1⟩ : ∃ B, B = decide (E0 < s.size ∧ by8 s E0 = 46) := ⟨_, rfl⟩
  rw [← hB1] at H0
  have HB1 := Lib.hid hB1
  clear hR0 hE0 hlt hp0 HK0 hB1
  go_enter Tryz.func67, Tryz.ntmps67
  go_upto_if 15 with (first | (go_at_call 64; refine (HT.out _).mono ?_; clear HT; rintro e wr ⟨rfl, hw⟩; rw [hw]; clear hw wr) | (go_at_call 65; refine (K0.out _).mono ?_; clear K0; rintro e w2 ⟨rfl, b2⟩; have B2 := Lib.hid b2; clear b2) | (go_at_call 108; refine (H0.out _).mono ?_; clear H0; rintro e wr ⟨rfl, hw⟩; rw [hw]; clear hw wr))
  go_cut [3, 4] (fun r o wx => ∃ R ok, r = .string R ∧ o = .bool ok ∧ Hid (ok = true → ∃ a, a ≤ s.size ∧ d1 s = some a ∧ R = sub s a) ∧ Hid (ok = false → d1 s = none) ∧ Hid (Below w.heap.size w wx))
  case first =>
    cases B1 with
    | true =>
      have hc : E0 < s.size ∧ by8 s E0 = 46 := of_decide_eq_true HB1.out.symm
      have hd : d1 s = go1 s (E0 + 1) := by
        rw [HE0.out]
        exact d1_dot HNE.out (by rw [← HE0.out]; exact hc)
      have ht := HTL.out E0 hc.1
      have K1 := Lib.hid (fun (y : World) => HK.out y (E0 + 1))
      have hE1 := run_le s (E0 + 1) hc.1
      obtain ⟨T, hT⟩ : ∃ T, T = sub s (E0 + 1) := ⟨_, rfl⟩
      rw [← hT] at K1 ht
      rw [← HR0.out] at ht
      obtain ⟨k1, hk1⟩ : ∃ k, k = decide (E0 + 1 < run s (E0 + 1)) := ⟨_, rfl⟩
      obtain ⟨R1, hR1⟩ : ∃ R, R = sub s (run s (E0 + 1)) := ⟨_, rfl⟩
      rw [← hk1, ← hR1] at K1
      have Y := Lib.hid (show (k1 = true → ∃ a, a ≤ s.size ∧ d1 s = some a ∧ R1 = sub s a) ∧ (k1 = false → d1 s = none) from ⟨fun h => ⟨_, hE1, by rw [hd]; exact go1_some' (of_decide_eq_true (hk1.symm.trans h)), hR1⟩, fun h => by rw [hd]; exact go1_none (run_not (of_decide_eq_false (hk1.symm.trans h)))⟩)
      clear hc hd hE1 hT hk1 hR1
      go_wp2_with (go_at_call 65; refine (K1.out _).mono ?_; clear K1; rintro e w3 ⟨rfl, b3⟩; have B3 := Lib.hid b3; clear b3)
      go_meet
      exact ⟨R1, k1, rfl, rfl, Lib.hid Y.out.1, Lib.hid Y.out.2, Lib.hid (B2.out.trans (B3.out.mono B2.out.size))⟩
    | false =>
      have hc : ¬ (E0 < s.size ∧ by8 s E0 = 46) := of_decide_eq_false HB1.out.symm
      have Y := Lib.hid (show d1 s = some E0 by
        rw [HE0.out]
        exact d1_plain HNE.out (by rw [← HE0.out]; exact hc))
      clear hc
      go_wp2_with fail
      go_meet
      exact ⟨R0, true, rfl, rfl, Lib.hid fun _ => ⟨E0, hrn, Y.out, HR0.out⟩, Lib.hid (fun h => by cases h), B2⟩
  case rest =>
  obtain ⟨R, ok, rfl, rfl, Y1, Y2, B3⟩ := hcut
  clear HB1 HNE HE0 HR0 hrn B2
  cases ok with
  | false =>
    have e : A = false := by rw [HA.out, ff_none (d2_none (Y2.out rfl))]
    subst e
    clear Y1 Y2
    go_wp2_with fail
    go_ret
    exact ⟨rfl, B3.out⟩
  | true =>
    obtain ⟨a, ha, hd, hR⟩ := Y1.out rfl
    have HD := Lib.hid hd
    have HR := Lib.hid hR
    clear hd Y1 Y2
    by_cases han : a < s.size
    · obtain ⟨h0, hb⟩ := first_get s a han
      have ht := HTL.out a han
      have hb2 : ∃ h : 0 < R.size, (R[0]'h).toNat = by8 s a := by subst hR; exact ⟨h0, hb⟩
      rw [← hR] at ht
      have hRn : R ≠ ⟨#[]⟩ := by rw [hR]; exact sub_ne s a han
      clear hR h0 hb
      obtain ⟨es, es2⟩ := nil_no hRn
      clear hRn
      obtain ⟨h0, hb⟩ := hb2
      obtain ⟨b, hbe⟩ : ∃ b, b = by8 s a := ⟨_, rfl⟩
      rw [← hbe] at hb
      have HBE := Lib.hid hbe
      clear hbe
      obtain ⟨T, hT⟩ : ∃ T, T = sub s (a + 1) := ⟨_, rfl⟩
      rw [← hT] at ht
      by_cases c : b = 101 ∨ b = 69
      · have hd2 : d2 s = go1 s (pX s (a + 1)) := d2_exp HD.out ⟨han, by rw [← HBE.out]; exact c⟩
        have S1 := Lib.hid (fun (y : World) => HS.out y (a + 1) han)
        have K1 := Lib.hid (fun (y : World) => HK.out y (pX s (a + 1)))
        have hpx := pX_le s (a + 1) han
        obtain ⟨X, hX⟩ : ∃ X, X = pX s (a + 1) := ⟨_, rfl⟩
        rw [← hX] at S1 K1 hd2 hpx
        rw [← hT] at S1
        have hE2 := run_le s X hpx
        obtain ⟨U, hU⟩ : ∃ U, U = sub s X := ⟨_, rfl⟩
        rw [← hU] at S1 K1
        obtain ⟨k1, hk1⟩ : ∃ k, k = decide (X < run s X) := ⟨_, rfl⟩
        obtain ⟨R1, hR1⟩ : ∃ R, R = sub s (run s X) := ⟨_, rfl⟩
        rw [← hk1, ← hR1] at K1
        have F1 := Lib.hid (show k1 = false → A = false from fun h => by rw [HA.out, ff_none (hd2.trans (go1_none (run_not (of_decide_eq_false (hk1.symm.trans h)))))])
        have F2 := Lib.hid (show k1 = true → A = decide (run s X = s.size) from fun h => by rw [HA.out, ff_some (hd2.trans (go1_some' (of_decide_eq_true (hk1.symm.trans h))))])
        have F3 := Lib.hid (show run s X < s.size → R1 ≠ ⟨#[]⟩ from fun h => by rw [hR1]; exact sub_ne s _ h)
        have F4 := Lib.hid (show run s X = s.size → R1 = ⟨#[]⟩ from fun h => by rw [hR1]; exact sub_end s _ (by omega))
        have HE2 := Lib.hid hE2
        clear hd2 hpx hX hU hk1 hR1 hT hE2 HR HD HBE
        have g := c
        clear c
        by_cases c1 : b = 101
        · have g1 : ((b : Int) == 101) = true := by simp; omega
          clear g
          cases k1 with
          | false =>
            have e := F1.out rfl
            subst e
            go_wp2_with (first | (go_at_call 109; refine (S1.out _).mono ?_; clear S1; rintro e wr ⟨rfl, hw⟩; rw [hw]; clear hw wr) | (go_at_call 65; refine (K1.out _).mono ?_; clear K1; rintro e w3 ⟨rfl, b3⟩; have B4 := Lib.hid b3; clear b3))
            go_ret
            exact ⟨rfl, B3.out.trans (B4.out.mono B3.out.size)⟩
          | true =>
            by_cases hz : run s X = s.size
            · have e : A = true := by rw [F2.out rfl]; exact decide_eq_true hz
              have e1 := F4.out hz
              subst e e1
              clear hz
              go_wp2_with (first | (go_at_call 109; refine (S1.out _).mono ?_; clear S1; rintro e wr ⟨rfl, hw⟩; rw [hw]; clear hw wr) | (go_at_call 65; refine (K1.out _).mono ?_; clear K1; rintro e w3 ⟨rfl, b3⟩; have B4 := Lib.hid b3; clear b3))
              go_ret
              exact ⟨rfl, B3.out.trans (B4.out.mono B3.out.size)⟩
            · have e : A = false := by rw [F2.out rfl]; exact decide_eq_false hz
              obtain ⟨fs, fs2⟩ := nil_no (F3.out (by have := HE2.out; omega))
              subst e
              clear hz
              go_wp2_with (first | (go_at_call 109; refine (S1.out _).mono ?_; clear S1; rintro e wr ⟨rfl, hw⟩; rw [hw]; clear hw wr) | (go_at_call 65; refine (K1.out _).mono ?_; clear K1; rintro e w3 ⟨rfl, b3⟩; have B4 := Lib.hid b3; clear b3))
              go_ret
              exact ⟨rfl, B3.out.trans (B4.out.mono B3.out.size)⟩
        · have g1 : ((b : Int) == 101) = false := by simp; omega
          have g2 : ((b : Int) == 69) = true := by simp; omega
          clear g
          cases k1 with
          | false =>
            have e := F1.out rfl
            subst e
            go_wp2_with (first | (go_at_call 109; refine (S1.out _).mono ?_; clear S1; rintro e wr ⟨rfl, hw⟩; rw [hw]; clear hw wr) | (go_at_call 65; refine (K1.out _).mono ?_; clear K1; rintro e w3 ⟨rfl, b3⟩; have B4 := Lib.hid b3; clear b3))
            go_ret
            exact ⟨rfl, B3.out.trans (B4.out.mono B3.out.size)⟩
          | true =>
            by_cases hz : run s X = s.size
            · have e : A = true := by rw [F2.out rfl]; exact decide_eq_true hz
              have e1 := F4.out hz
              subst e e1
              clear hz
              go_wp2_with (first | (go_at_call 109; refine (S1.out _).mono ?_; clear S1; rintro e wr ⟨rfl, hw⟩; rw [hw]; clear hw wr) | (go_at_call 65; refine (K1.out _).mono ?_; clear K1; rintro e w3 ⟨rfl, b3⟩; have B4 := Lib.hid b3; clear b3))
              go_ret
              exact ⟨rfl, B3.out.trans (B4.out.mono B3.out.size)⟩
            · have e : A = false := by rw [F2.out rfl]; exact decide_eq_false hz
              obtain ⟨fs, fs2⟩ := nil_no (F3.out (by have := HE2.out; omega))
              subst e
              clear hz
              go_wp2_with (first | (go_at_call 109; refine (S1.out _).mono ?_; clear S1; rintro e wr ⟨rfl, hw⟩; rw [hw]; clear hw wr) | (go_at_call 65; refine (K1.out _).mono ?_; clear K1; rintro e w3 ⟨rfl, b3⟩; have B4 := Lib.hid b3; clear b3))
              go_ret
              exact ⟨rfl, B3.out.trans (B4.out.mono B3.out.size)⟩
      · have e : A = false := by
          rw [HA.out, ff_some (d2_plain HD.out (fun k => c (by rw [HBE.out]; exact k.2)))]
          exact decide_eq_false (by omega)
        subst e
        have g1 : ((b : Int) == 101) = false := by simp; omega
        have g2 : ((b : Int) == 69) = false := by simp; omega
        clear c HR HD HBE hT
        go_wp2_with fail
        go_ret
        exact ⟨rfl, B3.out⟩
    · have e1 : R = ⟨#[]⟩ := by rw [hR]; exact sub_end s a (by omega)
      have e : A = true := by
        rw [HA.out, ff_some (d2_plain HD.out (fun k => han k.1))]
        exact decide_eq_true (by omega)
      clear hR HR HD
      subst e e1
      go_wp2_with fail
      go_ret
      exact ⟨rfl, B3.out⟩
end Vd
end Go.Proofs.YtbnicnhkakbglaaGreatDoor

/- Whole numbers: the document's reading, what both answer. -/
namespace Go.Proofs.YtbnicnhkakbglaaGreatDoor
open Go.RowKit
namespace Vd
open Jb Sa Sb Sj Fm Rm

def mst (q : Nat) : Nat := if q = 0 then 9223372036854775807 else 9223372036854775808
theorem mst_b (q : Nat) : 9 ≤ mst q ∧ mst q ≤ 9223372036854775808 := by unfold mst; split <;> omega
/-- The number that a text of a sign and digits is. -/
def iv (s : ByteArray) : Option Int := (wh (mst (pS s)) 0 ((nat s).drop (pS s))).map fun (u : Nat) => if pS s = 0 then (u : Int) else -(u : Int)
def okI (s : ByteArray) : Bool := decide (run s (pS s) ≠ pS s ∧ run s (pS s) = s.size ∧ s.size - pS s ≤ 25)
def irs (s : ByteArray) : Int × Int := if okI s = true then (match iv s with | none => (0, 3) | some v => (v, 0)) else (0, 2)
theorem irs_no {s : ByteArray} (h : okI s = false) : irs s = (0, 2) := by unfold irs; rw [h]; rfl
theorem irs_none {s : ByteArray} (h : okI s = true) (h2 : iv s = none) : irs s = (0, 3) := by unfold irs; rw [if_pos h, h2]
theorem irs_some {s : ByteArray} {v : Int} (h : okI s = true) (h2 : iv s = some v) : irs s = (v, 0) := by unfold irs; rw [if_pos h, h2]
theorem ok_dig {s : ByteArray} (h : okI s = true) : ∀ c ∈ (nat s).drop (pS s), Dig c := by
  have h := of_decide_eq_true h
  intro c hc
  have hl : ((nat s).drop (pS s)).take (lead ((nat s).drop (pS s))) = (nat s).drop (pS s) := by
    apply List.take_of_length_le
    rw [List.length_drop, nat_len]
    have := h.2.1
    unfold run at this
    omega
  have := lead_take ((nat s).drop (pS s)) c
  rw [hl] at this
  exact this hc
theorem ok_ne {s : ByteArray} (h : okI s = true) : (bl s).drop (pS s) ≠ [] := by
  have h := of_decide_eq_true h
  intro e
  have e2 : (nat s).drop (pS s) = [] := by unfold nat; rw [← List.map_drop, e]; rfl
  apply h.1
  unfold run
  rw [e2]
  rfl
theorem pS_one {s : ByteArray} (h : pS s ≠ 0) : pS s = 1 ∧ bl s = 45 :: (bl s).drop 1 := by
  unfold pS at h ⊢
  split at h
  · rename_i c
    rw [if_pos c]
    refine ⟨rfl, ?_⟩
    obtain ⟨x, e1, e2, _⟩ := drop_cons s 0 c.1
    rw [List.drop_zero] at e1
    have e3 : x = 45 := by
      apply UInt8.toNat.inj
      rw [e2, c.2]; rfl
    rw [e3] at e1
    exact e1
  · exact absurd rfl h
/-- The library reads it alike. -/
theorem par_iv {s : ByteArray} (h : okI s = true) : (∀ v, iv s = some v → Lib.parseIntB 64 s.data.toList = .ok v) ∧ (iv s = none → Lib.parseIntB 64 s.data.toList = .range) := by
  have hd := ok_dig h
  have hn := ok_ne h
  have e : (nat s).drop (pS s) = ((bl s).drop (pS s)).map (·.toNat) := by unfold nat; rw [List.map_drop]
  unfold iv
  rw [e] at hd ⊢
  show (∀ v, _ → Lib.parseIntB 64 (bl s) = _) ∧ (_ → Lib.parseIntB 64 (bl s) = _)
  by_cases hp : pS s = 0
  · rw [hp, List.drop_zero] at hd hn ⊢
    have := int_plain (bl s) hn hd
    refine ⟨fun v hv => ?_, fun hv => this.2 ?_⟩
    · obtain ⟨u, h1, h2⟩ := Option.map_eq_some_iff.1 hv
      rw [if_pos rfl] at h2
      rw [← h2]
      exact this.1 u h1
    · exact Option.map_eq_none_iff.1 hv
  · obtain ⟨p1, p2⟩ := pS_one hp
    rw [p1] at hd hn ⊢
    have := int_minus ((bl s).drop 1) hn hd
    rw [← p2] at this
    refine ⟨fun v hv => ?_, fun hv => this.2 ?_⟩
    · obtain ⟨u, h1, h2⟩ := Option.map_eq_some_iff.1 hv
      rw [if_neg (by decide)] at h2
      rw [← h2]
      exact this.1 u h1
    · exact Option.map_eq_none_iff.1 hv
theorem wh_step {most n : Nat} {l : List Nat} {k c : Nat} (hk : k < l.length) (hc : l.getD k 0 = c) : wh most n (l.drop k) = if (most - (c - 48)) / 10 < n then none else wh most (10 * n + (c - 48)) (l.drop (k + 1)) := by
  rw [List.drop_eq_getElem_cons hk]
  have e : l[k] = c := by rw [← hc, List.getD_eq_getElem?_getD, List.getElem?_eq_getElem hk]; rfl
  rw [e]
  rfl
def wres (s : ByteArray) : Int × Bool := match iv s with | none => (0, false) | some v => (v, true)
set_option maxRecDepth 100000 in
set_option maxHeartbeats 1000000 in
theorem whole (w : World) (s : ByteArray) (hs : s.size ≤ 140737488355328) (h : okI s = true) :
    Calls Tryz.prog 60 #[.string s] w fun e w' => e = .returned (.tuple #[.int .i64 (wres s).1, .bool (wres s).2]) ∧ w' = w := by
  have hn0 : 0 < s.size := by
    have h1 := of_decide_eq_true h
    have h2 := run_ge s (pS s)
    have h3 := h1.1
    have h4 := h1.2.1
    omega
  have hdg : ∀ k, pS s + k < s.size → 48 ≤ by8 s (pS s + k) ∧ by8 s (pS s + k) ≤ 57 := fun k hk => by
    have := ok_dig h (by8 s (pS s + k)) (by
      rw [← nat_get, ← nat_app]
      exact mem_get (by rw [List.length_drop, nat_len]; omega))
    exact this
  obtain ⟨A1, hA1⟩ : ∃ A, A = (wres s).1 := ⟨_, rfl⟩
  obtain ⟨A2, hA2⟩ : ∃ A, A = (wres s).2 := ⟨_, rfl⟩
  rw [← hA1, ← hA2]
  have NO := Lib.hid (fun (h : iv s = none) => (show A1 = 0 ∧ A2 = false by rw [hA1, hA2]; unfold wres; rw [h]; exact ⟨rfl, rfl⟩))
  have YES := Lib.hid (fun v (h : iv s = some v) => (show A1 = v ∧ A2 = true by rw [hA1, hA2]; unfold wres; rw [h]; exact ⟨rfl, rfl⟩))
  clear hA1 hA2
  have hpl := pS_le s
  have hi0 := by8_get s 0 hn0
  have HDG := Lib.hid hdg
  have HIV : Hid (iv s = (wh (mst (pS s)) 0 ((nat s).drop (pS s))).map fun (u : Nat) => if pS s = 0 then (u : Int) else -(u : Int)) := Lib.hid rfl
  obtain ⟨q, hq⟩ : ∃ q, q = pS s := ⟨_, rfl⟩
  have hq45 : (q = 1 ∧ by8 s 0 = 45) ∨ (q = 0 ∧ by8 s 0 ≠ 45) := by
    rw [hq]
    by_cases c : 0 < s.size ∧ by8 s 0 = 45
    · left; unfold pS; rw [if_pos c]; exact ⟨rfl, c.2⟩
    · right; unfold pS; rw [if_neg c]; exact ⟨rfl, fun e => c ⟨hn0, e⟩⟩
  rw [← hq] at hpl HDG HIV
  obtain ⟨D, hD⟩ : ∃ D, D = (nat s).drop q := ⟨_, rfl⟩
  have hDl : D.length = s.size - q := by rw [hD, List.length_drop, nat_len]
  have HDk : Hid (∀ k, D.getD k 0 = by8 s (q + k)) := Lib.hid fun k => by rw [hD, nat_app, nat_get]
  rw [← hD] at HIV
  have HSQ : Hid (∀ k, q + k < s.size → ∀ (y : World), (Instr.index 9 (.string (sub s q)) (.int .i64 (k : Nat))).run Tryz.prog y = .ok (.int .u8 (by8 s (q + k) : Nat)) y) := Lib.hid fun k hk y => by
    rw [idx y (sub s q) k (by rw [sub_size]; omega), sub_by8]
  obtain ⟨m, hm⟩ : ∃ m, m = s.size - q := ⟨_, rfl⟩
  have hlen : ∀ (ty : TypeId) (y : World), (Builtin.len_ #[9] ty #[.string (sub s q)]).run Tryz.prog y = .ok (.int .i64 (m : Nat)) y := fun ty y => by rw [hm, ← sub_size]; exact run_len_string y 9 ty _ Tryz.underlying9
  have HSL : Hid (q = 1 → ∀ y : World, (Instr.slice 9 (.string s) (some (.int .i64 1)) none none).run Tryz.prog y = .ok (.string (sub s q)) y) := Lib.hid fun e y => by
    have := slice_run s 1 (by omega) y
    rw [e]; exact this
  have HS0 : Hid (q = 0 → sub s q = s) := Lib.hid fun e => by rw [e]; exact sub_zero s
  obtain ⟨R, hR⟩ : ∃ R, R = sub s q := ⟨_, rfl⟩
  rw [← hR] at HSQ hlen HSL HS0
  obtain ⟨b, hb⟩ : ∃ b, b = by8 s 0 := ⟨_, rfl⟩
  rw [← hb] at hi0 hq45
  have HM := Lib.hid (show m = s.size - q from hm)
  have hm2 : m ≤ 140737488355328 := by omega
  have HDL : Hid (D.length = m) := Lib.hid (by omega)
  clear hq hD hDl hm hR hb hdg hs hpl h
  rcases hq45 with ⟨rfl, e45⟩ | ⟨rfl, e45⟩
  · have g1 : ((b : Int) == 45) = true := by simp; omega
    have sl := HSL.out rfl
    clear e45 HSL HS0
    go_enter Tryz.func60, Tryz.ntmps60
    go_wp2_with fail
    go_loopw [6, 7] (fun u i wr => ∃ k N, k ≤ m ∧ i = .int .i64 (k : Nat) ∧ u = .int .u64 (N : Nat) ∧ N ≤ 9223372036854775808 ∧ Hid (wh 9223372036854775808 0 D = wh 9223372036854775808 N (D.drop k)) ∧ wr = w) (fun _ i _ => m - (intOf i).toNat)
    case atStart => exact ⟨0, 0, Nat.zero_le _, rfl, rfl, by decide, Lib.hid (by rw [List.drop_zero]), by first | rfl | trivial⟩
    case round =>
      obtain ⟨k, N, hk, rfl, rfl, hN, hw, rfl⟩ := hrel
      by_cases hkm : k < m
      · have hi := fun (y : World) => HSQ.out k (by have := HM.out; omega) y
        obtain ⟨d1, d2⟩ := HDG.out k (by have := HM.out; omega)
        have hst := wh_step (most := 9223372036854775808) (n := N) (l := D) (k := k) (by rw [HDL.out]; exact hkm) (HDk.out k)
        obtain ⟨c, hc⟩ : ∃ c, c = by8 s (1 + k) := ⟨_, rfl⟩
        rw [← hc] at hi d1 d2 hst
        clear hc
        obtain ⟨x, hx⟩ : ∃ x, x = c - 48 := ⟨_, rfl⟩
        have hx9 : x ≤ 9 := by omega
        have gx : IntKind.u8.wrap ((c : Int) - 48) = (x : Int) := by rw [IntKind.wrap_u8]; omega
        have gx2 : (c : Int) - 48 = (x : Int) := by omega
        rw [← hx] at hst
        have HST := Lib.hid hst
        clear hst hx
        obtain ⟨y, hy⟩ : ∃ y, y = (9223372036854775808 - x) / 10 := ⟨_, rfl⟩
        have gy : ((9223372036854775808 : Int) - (x : Int)) / 10 = (y : Int) := by omega
        have hyb : y ≤ 922337203685477580 := by omega
        have hyx : 10 * y + x ≤ 9223372036854775808 := by omega
        by_cases hg : y < N
        · have g2 : decide ((N : Int) > (y : Int)) = true := decide_eq_true (by omega)
          have e : wh 9223372036854775808 0 D = none := by rw [hw.out, HST.out, if_pos (by omega)]
          obtain ⟨e1, e2⟩ := NO.out (by rw [HIV.out]; show Option.map _ (wh 9223372036854775808 0 D) = none; rw [e]; rfl)
          subst e1 e2
          clear e hy
          go_wp2_with fail
          go_ret2
          exact ⟨rfl, by first | rfl | trivial⟩
        · have g2 : decide ((N : Int) > (y : Int)) = false := decide_eq_false (by omega)
          have HWN := Lib.hid (show wh 9223372036854775808 0 D = wh 9223372036854775808 (10 * N + x) (D.drop (k + 1)) by rw [hw.out, HST.out, if_neg (by omega)])
          have hNb : 10 * N + x ≤ 9223372036854775808 := by omega
          clear hy
          go_wp2_with fail
          go_roundw
          case rel => exact ⟨k + 1, 10 * N + x, by omega, by go_num, by go_num, hNb, HWN, by first | rfl | trivial⟩
          case measure => simp [intOf]; omega
      · obtain rfl : k = m := by omega
        have e : wh 9223372036854775808 0 D = some N := by rw [hw.out, List.drop_eq_nil_of_le (by rw [HDL.out]; exact Nat.le_refl _)]; rfl
        have hv : iv s = some (-(N : Int)) := by rw [HIV.out]; show Option.map _ (wh 9223372036854775808 0 D) = _; rw [e]; rfl
        obtain ⟨e1, e2⟩ := YES.out _ hv
        have HE1 := Lib.hid e1
        subst e2
        clear hv e e1
        have gn : IntKind.i64.wrap (IntKind.u64.wrap (-(N : Int))) = -(N : Int) := by rw [IntKind.wrap_u64, IntKind.wrap_i64]; omega
        go_wp2_with fail
        go_ret2
        exact ⟨by rw [HE1.out]; rfl, by first | rfl | trivial⟩
  · have g1 : ((b : Int) == 45) = false := by simp; omega
    obtain rfl := HS0.out rfl
    clear e45 HSL HS0
    go_enter Tryz.func60, Tryz.ntmps60
    go_wp2_with fail
    go_loopw [6, 7] (fun u i wr => ∃ k N, k ≤ m ∧ i = .int .i64 (k : Nat) ∧ u = .int .u64 (N : Nat) ∧ N ≤ 9223372036854775807 ∧ Hid (wh 9223372036854775807 0 D = wh 9223372036854775807 N (D.drop k)) ∧ wr = w) (fun _ i _ => m - (intOf i).toNat)
    case atStart => exact ⟨0, 0, Nat.zero_le _, rfl, rfl, by decide, Lib.hid (by rw [List.drop_zero]), by first | rfl | trivial⟩
    case round =>
      obtain ⟨k, N, hk, rfl, rfl, hN, hw, rfl⟩ := hrel
      by_cases hkm : k < m
      · have hi := fun (y : World) => HSQ.out k (by have := HM.out; omega) y
        obtain ⟨d1, d2⟩ := HDG.out k (by have := HM.out; omega)
        have hst := wh_step (most := 9223372036854775807) (n := N) (l := D) (k := k) (by rw [HDL.out]; exact hkm) (HDk.out k)
        obtain ⟨c, hc⟩ : ∃ c, c = by8 R (0 + k) := ⟨_, rfl⟩
        rw [← hc] at hi d1 d2 hst
        clear hc
        obtain ⟨x, hx⟩ : ∃ x, x = c - 48 := ⟨_, rfl⟩
        have hx9 : x ≤ 9 := by omega
        have gx : IntKind.u8.wrap ((c : Int) - 48) = (x : Int) := by rw [IntKind.wrap_u8]; omega
        have gx2 : (c : Int) - 48 = (x : Int) := by omega
        rw [← hx] at hst
        have HST := Lib.hid hst
        clear hst hx
        obtain ⟨y, hy⟩ : ∃ y, y = (9223372036854775807 - x) / 10 := ⟨_, rfl⟩
        have gy : ((9223372036854775807 : Int) - (x : Int)) / 10 = (y : Int) := by omega
        have hyb : y ≤ 922337203685477580 := by omega
        have hyx : 10 * y + x ≤ 9223372036854775807 := by omega
        by_cases hg : y < N
        · have g2 : decide ((N : Int) > (y : Int)) = true := decide_eq_true (by omega)
          have e : wh 9223372036854775807 0 D = none := by rw [hw.out, HST.out, if_pos (by omega)]
          obtain ⟨e1, e2⟩ := NO.out (by rw [HIV.out]; show Option.map _ (wh 9223372036854775807 0 D) = none; rw [e]; rfl)
          subst e1 e2
          clear e hy
          go_wp2_with fail
          go_ret2
          exact ⟨rfl, by first | rfl | trivial⟩
        · have g2 : decide ((N : Int) > (y : Int)) = false := decide_eq_false (by omega)
          have HWN := Lib.hid (show wh 9223372036854775807 0 D = wh 9223372036854775807 (10 * N + x) (D.drop (k + 1)) by rw [hw.out, HST.out, if_neg (by omega)])
          have hNb : 10 * N + x ≤ 9223372036854775807 := by omega
          clear hy
          go_wp2_with fail
          go_roundw
          case rel => exact ⟨k + 1, 10 * N + x, by omega, by go_num, by go_num, hNb, HWN, by first | rfl | trivial⟩
          case measure => simp [intOf]; omega
      · obtain rfl : k = m := by omega
        have e : wh 9223372036854775807 0 D = some N := by rw [hw.out, List.drop_eq_nil_of_le (by rw [HDL.out]; exact Nat.le_refl _)]; rfl
        have hv : iv R = some ((N : Int)) := by rw [HIV.out]; show Option.map _ (wh 9223372036854775807 0 D) = _; rw [e]; rfl
        obtain ⟨e1, e2⟩ := YES.out _ hv
        have HE1 := Lib.hid e1
        subst e2
        clear hv e e1
        have gn : IntKind.i64.wrap ((N : Int)) = (N : Int) := by rw [IntKind.wrap_i64]; omega
        go_wp2_with fail
        go_ret2
        exact ⟨by rw [HE1.out]; rfl, by first | rfl | trivial⟩
end Vd
end Go.Proofs.YtbnicnhkakbglaaGreatDoor

/- Whole numbers: the document's Int. -/
namespace Go.Proofs.YtbnicnhkakbglaaGreatDoor
open Go.RowKit
namespace Vd
open Jb Sa Sb Sj Fm Rm

set_option maxRecDepth 100000 in
set_option maxHeartbeats 1000000 in
theorem int27 (w : World) (s : ByteArray) (hs : s.size ≤ 140737488355328) :
    Calls Tryz.prog 27 #[.string s] w fun e w' => e = .returned (.tuple #[.int .i64 (irs s).1, .int .i64 (irs s).2]) ∧ w' = w := by
  obtain ⟨A1, hA1⟩ : ∃ A, A = (irs s).1 := ⟨_, rfl⟩
  obtain ⟨A2, hA2⟩ : ∃ A, A = (irs s).2 := ⟨_, rfl⟩
  rw [← hA1, ← hA2]
  have NO := Lib.hid (fun (h : okI s = false) => (show A1 = 0 ∧ A2 = 2 by rw [hA1, hA2, irs_no h]; exact ⟨rfl, rfl⟩))
  have Y2 := Lib.hid (fun (h : okI s = true) => (show (iv s = none → A1 = 0 ∧ A2 = 3) ∧ ∀ v, iv s = some v → A1 = v ∧ A2 = 0 from ⟨fun k => by rw [hA1, hA2, irs_none h k]; exact ⟨rfl, rfl⟩, fun v k => by rw [hA1, hA2, irs_some h k]; exact ⟨rfl, rfl⟩⟩))
  clear hA1 hA2
  by_cases h0 : 0 < s.size
  case neg =>
    have hP : pS s = 0 := by unfold pS; rw [if_neg (fun k => h0 k.1)]
    obtain ⟨e1, e2⟩ := NO.out (decide_eq_false (by
      rintro ⟨k1, k2, _⟩
      rw [hP] at k1 k2
      omega))
    subst e1 e2
    have e : s = ⟨#[]⟩ := nil_of (by omega)
    have D : Hid (∀ y : World, Calls Tryz.prog 59 #[.string s, .int .i64 0] y fun e w' => e = .returned (.int .i64 0) ∧ w' = y) := Lib.hid (fun y => by
      have h := digits y s hs 0 (by omega)
      have hr := run_le s 0 (by omega)
      have hr2 : 0 + lead ((nat s).drop 0) = 0 := by unfold run at hr; omega
      rw [hr2] at h
      exact h)
    subst e
    clear NO Y2 h0 hP hs
    go_enter Tryz.func27, Tryz.ntmps27
    go_wp2_with (go_at_call 59; refine (D.out _).mono ?_; rintro e w2 ⟨rfl, h2⟩; rw [h2]; clear h2 w2)
    go_ret2
    exact ⟨rfl, by first | rfl | trivial⟩
  have hi := by8_get s 0 h0
  by_cases h45 : by8 s 0 = 45
  · have hP : pS s = 1 := by unfold pS; rw [if_pos ⟨h0, h45⟩]
    rw [h45] at hi
    clear h45
    have D : Hid (∀ y : World, Calls Tryz.prog 59 #[.string s, .int .i64 1] y fun e w' => e = .returned (.int .i64 (run s 1 : Nat)) ∧ w' = y) := Lib.hid (fun y => digits y s hs 1 (by omega))
    have r1 := run_ge s 1
    have HO : Hid (okI s = decide (run s 1 ≠ 1 ∧ run s 1 = s.size ∧ s.size - 1 ≤ 25)) := Lib.hid (by unfold okI; rw [hP])
    have HWH := Lib.hid (fun (h : okI s = true) (y : World) => whole y s hs h)
    have r2 := run_le s 1 (by omega)
    obtain ⟨E, hE⟩ : ∃ E, E = run s 1 := ⟨_, rfl⟩
    rw [← hE] at D r1 r2 HO
    clear hE hP
    obtain ⟨n, hn⟩ : ∃ n, n = s.size := ⟨_, rfl⟩
    rw [← hn] at r2 HO
    have hlen : ∀ (ty : TypeId) (y : World), (Builtin.len_ #[9] ty #[.string s]).run Tryz.prog y = .ok (.int .i64 (n : Nat)) y := fun ty y => by rw [hn]; exact run_len_string y 9 ty s Tryz.underlying9
    have hn9 : n ≤ 140737488355328 := by omega
    have hn0 : 0 < n := by omega
    clear hs hn
    by_cases x1 : E = 1
    · obtain ⟨e1, e2⟩ := NO.out (by rw [HO.out]; exact decide_eq_false (fun k => k.1 x1))
      subst e1 e2
      have g1 : ((E : Int) == 1) = true := by simp; omega
      skip
      go_enter Tryz.func27, Tryz.ntmps27
      go_wp2_with (go_at_call 59; refine (D.out _).mono ?_; rintro e w2 ⟨rfl, h2⟩; rw [h2]; clear h2 w2)
      go_ret2
      exact ⟨rfl, by first | rfl | trivial⟩
    have g1 : ((E : Int) == 1) = false := by simp; omega
    skip
    by_cases x2 : E = n
    case neg =>
      obtain ⟨e1, e2⟩ := NO.out (by rw [HO.out]; exact decide_eq_false (fun k => x2 k.2.1))
      subst e1 e2
      have g2 : ((E : Int) != (n : Int)) = true := by simp; omega
      go_enter Tryz.func27, Tryz.ntmps27
      go_wp2_with (go_at_call 59; refine (D.out _).mono ?_; rintro e w2 ⟨rfl, h2⟩; rw [h2]; clear h2 w2)
      go_ret2
      exact ⟨rfl, by first | rfl | trivial⟩
    subst x2
    by_cases x3 : E - 1 ≤ 25
    case neg =>
      obtain ⟨e1, e2⟩ := NO.out (by rw [HO.out]; exact decide_eq_false (fun k => x3 k.2.2))
      subst e1 e2
      have g3 : (E : Int) - 1 > 25 := by omega
      skip
      go_enter Tryz.func27, Tryz.ntmps27
      go_wp2_with (go_at_call 59; refine (D.out _).mono ?_; rintro e w2 ⟨rfl, h2⟩; rw [h2]; clear h2 w2)
      go_ret2
      exact ⟨rfl, by first | rfl | trivial⟩
    have g3 : ¬ ((E : Int) - 1 > 25) := by omega
    skip
    have hok : okI s = true := by rw [HO.out]; exact decide_eq_true ⟨x1, rfl, x3⟩
    have HW := Lib.hid (HWH.out hok)
    have Y := Lib.hid (Y2.out hok)
    clear hok HWH
    cases hv : iv s with
    | none =>
      obtain ⟨e1, e2⟩ := Y.out.1 hv
      have HW : Hid (∀ y : World, Calls Tryz.prog 60 #[.string s] y fun e w' => e = .returned (.tuple #[.int .i64 0, .bool false]) ∧ w' = y) := Lib.hid (by have h := HW.out; unfold wres at h; rw [hv] at h; exact h)
      subst e1 e2
      clear hv
      go_enter Tryz.func27, Tryz.ntmps27
      go_wp2_with (first | (go_at_call 59; refine (D.out _).mono ?_; rintro e w2 ⟨rfl, h2⟩; rw [h2]; clear h2 w2) | (go_at_call 60; refine (HW.out _).mono ?_; rintro e w2 ⟨rfl, h2⟩; rw [h2]; clear h2 w2))
      go_ret2
      exact ⟨rfl, by first | rfl | trivial⟩
    | some v =>
      obtain ⟨e1, e2⟩ := Y.out.2 v hv
      have HW : Hid (∀ y : World, Calls Tryz.prog 60 #[.string s] y fun e w' => e = .returned (.tuple #[.int .i64 v, .bool true]) ∧ w' = y) := Lib.hid (by have h := HW.out; unfold wres at h; rw [hv] at h; exact h)
      subst e1 e2
      clear hv
      go_enter Tryz.func27, Tryz.ntmps27
      go_wp2_with (first | (go_at_call 59; refine (D.out _).mono ?_; rintro e w2 ⟨rfl, h2⟩; rw [h2]; clear h2 w2) | (go_at_call 60; refine (HW.out _).mono ?_; rintro e w2 ⟨rfl, h2⟩; rw [h2]; clear h2 w2))
      go_ret2
      exact ⟨rfl, by first | rfl | trivial⟩
  · have hP : pS s = 0 := by unfold pS; rw [if_neg (fun k => h45 k.2)]
    obtain ⟨b, hb⟩ : ∃ b, b = by8 s 0 := ⟨_, rfl⟩
    rw [← hb] at hi h45
    have g0 : ((b : Int) == 45) = false := by simp; omega
    clear hb h45
    have D : Hid (∀ y : World, Calls Tryz.prog 59 #[.string s, .int .i64 0] y fun e w' => e = .returned (.int .i64 (run s 0 : Nat)) ∧ w' = y) := Lib.hid (fun y => digits y s hs 0 (by omega))
    have r1 := run_ge s 0
    have HO : Hid (okI s = decide (run s 0 ≠ 0 ∧ run s 0 = s.size ∧ s.size - 0 ≤ 25)) := Lib.hid (by unfold okI; rw [hP])
    have HWH := Lib.hid (fun (h : okI s = true) (y : World) => whole y s hs h)
    have r2 := run_le s 0 (by omega)
    obtain ⟨E, hE⟩ : ∃ E, E = run s 0 := ⟨_, rfl⟩
    rw [← hE] at D r1 r2 HO
    clear hE hP
    obtain ⟨n, hn⟩ : ∃ n, n = s.size := ⟨_, rfl⟩
    rw [← hn] at r2 HO
    have hlen : ∀ (ty : TypeId) (y : World), (Builtin.len_ #[9] ty #[.string s]).run Tryz.prog y = .ok (.int .i64 (n : Nat)) y := fun ty y => by rw [hn]; exact run_len_string y 9 ty s Tryz.underlying9
    have hn9 : n ≤ 140737488355328 := by omega
    have hn0 : 0 < n := by omega
    clear hs hn
    by_cases x1 : E = 0
    · obtain ⟨e1, e2⟩ := NO.out (by rw [HO.out]; exact decide_eq_false (fun k => k.1 x1))
      subst e1 e2
      subst x1
      skip
      go_enter Tryz.func27, Tryz.ntmps27
      go_wp2_with (go_at_call 59; refine (D.out _).mono ?_; rintro e w2 ⟨rfl, h2⟩; rw [h2]; clear h2 w2)
      go_ret2
      exact ⟨rfl, by first | rfl | trivial⟩
    have g1 : ((E : Int) == 0) = false := by simp; omega
    skip
    by_cases x2 : E = n
    case neg =>
      obtain ⟨e1, e2⟩ := NO.out (by rw [HO.out]; exact decide_eq_false (fun k => x2 k.2.1))
      subst e1 e2
      have g2 : ((E : Int) != (n : Int)) = true := by simp; omega
      go_enter Tryz.func27, Tryz.ntmps27
      go_wp2_with (go_at_call 59; refine (D.out _).mono ?_; rintro e w2 ⟨rfl, h2⟩; rw [h2]; clear h2 w2)
      go_ret2
      exact ⟨rfl, by first | rfl | trivial⟩
    subst x2
    by_cases x3 : E - 0 ≤ 25
    case neg =>
      obtain ⟨e1, e2⟩ := NO.out (by rw [HO.out]; exact decide_eq_false (fun k => x3 k.2.2))
      subst e1 e2
      have g3 : (E : Int) - 0 > 25 := by omega
      have g4 : (E : Int) > 25 := by omega
      go_enter Tryz.func27, Tryz.ntmps27
      go_wp2_with (go_at_call 59; refine (D.out _).mono ?_; rintro e w2 ⟨rfl, h2⟩; rw [h2]; clear h2 w2)
      go_ret2
      exact ⟨rfl, by first | rfl | trivial⟩
    have g3 : ¬ ((E : Int) - 0 > 25) := by omega
    have g4 : ¬ ((E : Int) > 25) := by omega
    have hok : okI s = true := by rw [HO.out]; exact decide_eq_true ⟨x1, rfl, x3⟩
    have HW := Lib.hid (HWH.out hok)
    have Y := Lib.hid (Y2.out hok)
    clear hok HWH
    cases hv : iv s with
    | none =>
      obtain ⟨e1, e2⟩ := Y.out.1 hv
      have HW : Hid (∀ y : World, Calls Tryz.prog 60 #[.string s] y fun e w' => e = .returned (.tuple #[.int .i64 0, .bool false]) ∧ w' = y) := Lib.hid (by have h := HW.out; unfold wres at h; rw [hv] at h; exact h)
      subst e1 e2
      clear hv
      go_enter Tryz.func27, Tryz.ntmps27
      go_wp2_with (first | (go_at_call 59; refine (D.out _).mono ?_; rintro e w2 ⟨rfl, h2⟩; rw [h2]; clear h2 w2) | (go_at_call 60; refine (HW.out _).mono ?_; rintro e w2 ⟨rfl, h2⟩; rw [h2]; clear h2 w2))
      go_ret2
      exact ⟨rfl, by first | rfl | trivial⟩
    | some v =>
      obtain ⟨e1, e2⟩ := Y.out.2 v hv
      have HW : Hid (∀ y : World, Calls Tryz.prog 60 #[.string s] y fun e w' => e = .returned (.tuple #[.int .i64 v, .bool true]) ∧ w' = y) := Lib.hid (by have h := HW.out; unfold wres at h; rw [hv] at h; exact h)
      subst e1 e2
      clear hv
      go_enter Tryz.func27, Tryz.ntmps27
      go_wp2_with (first | (go_at_call 59; refine (D.out _).mono ?_; rintro e w2 ⟨rfl, h2⟩; rw [h2]; clear h2 w2) | (go_at_call 60; refine (HW.out _).mono ?_; rintro e w2 ⟨rfl, h2⟩; rw [h2]; clear h2 w2))
      go_ret2
      exact ⟨rfl, by first | rfl | trivial⟩
end Vd
end Go.Proofs.YtbnicnhkakbglaaGreatDoor
