import Derived.Test.YtjmddomkoholoaaGreatDoorG19
import Derived.Test.YtjmddomkoholoaaGreatDoorG08
import Derived.Test.YtjmddomkoholoaaGreatDoorG09
import Derived.Test.YtjmddomkoholoaaGreatDoorG20
import Derived.Test.YtjmddomkoholoaaGreatDoorG14
import Derived.Deep.RegionHeldLaw

/- The document's floats. -/
namespace Go.Proofs.YtjmddomkoholoaaGreatDoor
open Go.RowKit
namespace Rl
open Cm Bm Wr Cv Vs Fl Hl Fo

def fw (T : List Vl) (k : Nat) : List Bool := (fl T k).drop 64
theorem fl_fw {T : List Vl} {k : Nat} (h : k < T.length) : fl T k = bv (X T 0) 64 ++ fw T k := by
  have key : ∀ k, k < T.length → ∃ L, fl T k = bv (X T 0) 64 ++ L := by
    intro k
    induction k with
    | zero => intro h; exact ⟨[], by rw [fl_zero h, List.append_nil]⟩
    | succ k ih => intro h; obtain ⟨L, hL⟩ := ih (by omega); exact ⟨L ++ ub (X T (k + 1) ^^^ X T k), by rw [fl_succ h, hL, List.append_assoc]⟩
  obtain ⟨L, hL⟩ := key k h
  unfold fw
  rw [hL, List.drop_append_of_le_length (by rw [bv_len]; omega), List.drop_of_length_le (by rw [bv_len]; omega), List.nil_append]
theorem fw_zero {T : List Vl} (h : 0 < T.length) : fw T 0 = [] := by
  unfold fw
  rw [fl_zero h, List.drop_of_length_le (by rw [bv_len]; omega)]
theorem fw_succ {T : List Vl} {k : Nat} (h : k + 1 < T.length) : fw T (k + 1) = fw T k ++ ub (X T (k + 1) ^^^ X T k) := by
  have h1 := fl_succ h
  rw [fl_fw h, fl_fw (show k < T.length by omega), List.append_assoc] at h1
  exact List.append_cancel_left h1
theorem fw_len {T : List Vl} (hw : ∀ v ∈ T, Wv v) {k : Nat} (h : k < T.length) : (fw T k).length ≤ 77 * (k + 1) := by
  have := fl_len hw h
  rw [fl_fw h, List.length_append] at this
  omega
theorem fw_end {T : List Vl} {k : Nat} (h : k + 1 = T.length) : pk (fbits (ns T)) = Mt.eight (X T 0) ++ pk (fw T k) := by
  rw [← fl_end h, fl_fw (by omega), pk_first]

set_option maxRecDepth 100000 in
set_option maxHeartbeats 4000000 in
theorem rfloats15 (w : World) (v : Value) (T : List Vl) (h : Vi w v T) (h0 : 0 < T.length) (hl : T.length ≤ 1000) :
    Calls Tryz.prog 102 #[v] w fun e w' => ∃ r, e = .returned r ∧ w'.ownsRow w.heap.size 5 1 r (pk (fbits (ns T))).length (u8s (pk (fbits (ns T)))) ∧ Below w.heap.size w w' := by
  have HW := Lib.hid h.1
  rcases h.cases with ⟨a, c, rfl, rfl⟩ | ⟨hL0, b, off, c, rfl, hc1, hc2, hc3⟩
  · simp at h0
  obtain ⟨n, hn⟩ : ∃ n, n + 1 = T.length := ⟨T.length - 1, by omega⟩
  have HE := Lib.hid (fw_end hn)
  obtain ⟨R, hR⟩ : ∃ R, R = pk (fbits (ns T)) := ⟨_, rfl⟩
  rw [← hR] at HE ⊢
  rw [← hn] at hc1 hc3 hl ⊢
  have HC := Lib.hid hc3
  have HN := Lib.hid hn
  have FP := Lib.hid (fun (y : World) (s : Value) (L : List Bool) (v N : Nat) (h1 : Lb y w.heap.size s L) (h2 : w.heap.size ≤ y.heap.size) (h3 : v < 18446744073709551616) (h4 : N ≤ 64) (h5 : L.length ≤ 1000000) => put_lb y w.heap.size s L v N h1 h2 h3 h4 h5)
  have FB := Lib.hid (fun (y : World) (s : Value) (h1 : Lb y w.heap.size s (fw T n)) => bytes_lb y w.heap.size s (fw T n) h1 (by have := fw_len HW.out (k := n) (by omega); omega))
  have F34 := Lib.hid (fun (y : World) => Rp.eight14 y (X T 0))
  have H0 := Lib.hid (show Lb w w.heap.size (.slice none 0 0) (fw T 0) from by rw [fw_zero (by omega)]; exact lb_nil _ _)
  clear h hc3 hn h0 hL0 hR
  go_enter Tryz.func102, Tryz.ntmps102
  go_wp2_with fail
  go_loopw [3, 4] (fun s i wr => ∃ k, k ≤ n ∧ i = .int .i64 ((k + 1 : Nat) : Int) ∧ Lb wr w.heap.size s (fw T k) ∧ Below w.heap.size w wr) (fun _ i _ => n + 1 - (intOf i).toNat)
  case atStart => exact ⟨0, Nat.zero_le _, rfl, H0.out, Below.refl _ _⟩
  case round =>
    obtain ⟨k, hk, rfl, hs, hb⟩ := hrel
    clear H0
    by_cases hkn : k < n
    · have e1 := ((HC.out (k + 1) (by omega)).of_block (hb.block b hc2)).2.1
      have e2 := ((HC.out k (by omega)).of_block (hb.block b hc2)).2.1
      change wr.cell? ⟨b, off + (k + 1) * 3 + 1, none⟩ = some (.int .u64 (X T (k + 1) : Nat)) at e1
      change wr.cell? ⟨b, off + k * 3 + 1, none⟩ = some (.int .u64 (X T k : Nat)) at e2
      have hA := X_lt HW.out (k + 1)
      have hD := X_lt HW.out k
      have hxor := xor_u64 (X T (k + 1)) (X T k) hA hD
      have HST := Lib.hid (fw_succ (T := T) (k := k) (by rw [← HN.out]; omega))
      have hz64 : X T (k + 1) ^^^ X T k < 18446744073709551616 := Nat.xor_lt_two_pow (n := 64) hA hD
      have hll := fw_len HW.out (k := k) (by rw [← HN.out]; omega)
      obtain ⟨A, hAe⟩ : ∃ A, A = X T (k + 1) := ⟨_, rfl⟩
      obtain ⟨D, hDe⟩ : ∃ D, D = X T k := ⟨_, rfl⟩
      rw [← hAe, ← hDe] at hxor HST hz64
      rw [← hAe] at e1
      rw [← hDe] at e2
      obtain ⟨Z, hZ⟩ : ∃ Z, Z = A ^^^ D := ⟨_, rfl⟩
      rw [← hZ] at hxor HST hz64
      have hj1 : ((k + 1 : Nat) : Int) - 1 = (k : Int) := by omega
      have hj3 : ((k + 1 : Nat) : Int) < (n : Int) + 1 := by omega
      have hj4 : (k : Int) < (n : Int) + 1 := by omega
      have hbl : b < wr.heap.size := Nat.lt_of_lt_of_le hc2 hb.size
      have HS := Lib.hid hs
      have HB := Lib.hid hb
      clear hs hb hA hD hAe hDe hZ
      go_upto_region 5 with (fail)
      go_quiet (fail)
      have HBQ := Lib.hid (bdn HB.out nq)
      have HSQ := Lib.hid (show Lb (wr.drewN nq) w.heap.size u3 (fw T k) from HS.out)
      obtain ⟨wq, hwq⟩ : ∃ wq, wq = wr.drewN nq := ⟨_, rfl⟩
      rw [← hwq] at HBQ HSQ ⊢
      clear hwq e1 e2 hxor hbl
      by_cases hZ0 : Z = 0
      · subst hZ0
        rw [ub_zero] at HST
        go_upto_region 7 with (fail)
        go_wp2_with fail
        refine (FP.out wq _ _ 0 1 HSQ.out HBQ.out.size (by decide) (by decide) (by omega)).mono ?_
        rintro e w2 ⟨s2, rfl, l2, b2⟩
        have L2 := Lib.hid l2
        have B2 := Lib.hid (HBQ.out.trans b2)
        clear l2 b2
        go_wp2_with fail
        go_roundw
        case rel => exact ⟨k + 1, by omega, by go_num, by rw [HST.out]; exact L2.out, B2.out⟩
        case measure => simp [intOf]; omega
      · have hZz : ((Z : Int) == 0) = false := by rw [beq_eq_false_iff_ne]; omega
        rw [ub_some hZ0] at HST
        have F31 := Lib.hid (fun y => high31 y Z hZ0 hz64)
        have F32 := Lib.hid (fun y => low32 y Z hZ0 hz64)
        obtain ⟨p1, p2, p3, p4⟩ := sp_spec hZ0 hz64
        have HD : Hid (Z / 2 ^ lo Z < 18446744073709551616) := Lib.hid (Nat.lt_of_le_of_lt (Nat.div_le_self _ _) hz64)
        have hshr : ((Z : Nat) : Int) / 2 ^ lo Z = ((Z / 2 ^ lo Z : Nat) : Int) := by push_cast; rfl
        obtain ⟨D1, hD1⟩ : ∃ D1, D1 = Z / 2 ^ lo Z := ⟨_, rfl⟩
        rw [← hD1] at hshr HD HST
        obtain ⟨Y, hY⟩ : ∃ Y, Y = hi Z := ⟨_, rfl⟩
        obtain ⟨C, hC⟩ : ∃ C, C = lo Z := ⟨_, rfl⟩
        obtain ⟨S, hS⟩ : ∃ S, S = sp Z := ⟨_, rfl⟩
        rw [← hY] at F31 p1 HST
        rw [← hC] at F32 p1 hshr
        rw [← hS] at p1 p2 HST
        clear p3 p4 hD1 hY hC hS
        go_wp2_with (first | (go_at_call 141; refine (F31.out _).mono ?_; rintro e w2 ⟨rfl, hw2⟩; obtain rfl := hw2) | (go_at_call 142; refine (F32.out _).mono ?_; rintro e w2 ⟨rfl, hw2⟩; obtain rfl := hw2))
        refine (FP.out _ _ _ 1 1 HSQ.out HBQ.out.size (by decide) (by decide) (by omega)).mono ?_
        rintro e w3 ⟨s3, rfl, l3, b3⟩
        have L3 := Lib.hid l3
        have B3 := Lib.hid (HBQ.out.trans b3)
        clear l3 b3
        go_wp2_with fail
        refine (FP.out _ _ _ Y 6 L3.out B3.out.size (by omega) (by decide) (by simp [bv_len]; omega)).mono ?_
        rintro e w4 ⟨s4, rfl, l4, b4⟩
        have hS1 : ((S - 1 : Nat) : Int) = 64 - (Y : Int) - (C : Int) - 1 := by omega
        have hS2 : (S : Int) = 64 - (Y : Int) - (C : Int) := by omega
        have B4 := Lib.hid (B3.out.trans b4)
        have FQ := Lib.hid (FP.out w4 s4 _ (S - 1) 6 l4 B4.out.size (by omega) (by decide) (by simp [bv_len]; omega))
        rw [hS1] at FQ
        clear l4 b4
        go_wp2_with fail
        refine FQ.out.mono ?_
        rintro e w5 ⟨s5, rfl, l5, b5⟩
        have B5 := Lib.hid (B4.out.trans b5)
        have FR := Lib.hid (FP.out w5 s5 _ D1 S l5 B5.out.size HD.out (by omega) (by simp [bv_len]; omega))
        rw [hS2] at FR
        clear l5 b5
        go_wp2_with fail
        refine FR.out.mono ?_
        rintro e w6 ⟨s6, rfl, l6, b6⟩
        have B6 := Lib.hid (B5.out.trans b6)
        have L6 := Lib.hid l6
        clear l6 b6
        go_wp2_with fail
        go_roundw
        case rel =>
          refine ⟨k + 1, by omega, by go_num, ?_, B6.out⟩
          have := L6.out
          simp only [List.append_assoc] at this
          rw [HST.out]
          exact this
        case measure => simp [intOf]; omega
    · obtain rfl : k = n := by omega
      have a0 := ((HC.out 0 (by omega)).of_block (hb.block b hc2)).2.1
      rw [Nat.zero_mul, Nat.add_zero] at a0
      change wr.cell? ⟨b, off + 1, none⟩ = some (.int .u64 (X T 0 : Nat)) at a0
      have HS := Lib.hid hs
      have HB := Lib.hid hb
      have HPL := Lib.hid (show (pk (fw T k)).length ≤ 100000 from by have := fw_len HW.out (k := k) (by rw [← HN.out]; omega); rw [pk_len]; omega)
      obtain ⟨X0, hX0⟩ : ∃ X0, X0 = X T 0 := ⟨_, rfl⟩
      rw [← hX0] at a0 F34 HE
      clear hs hb hX0
      go_wp2_with fail
      refine (F34.out wr).mono ?_
      rintro e w2 ⟨g2, c2, rfl, o2, b2⟩
      have O2 := Lib.hid o2
      have B2 := Lib.hid b2
      have FBx := Lib.hid (FB.out w2 _ (Rp.own_below HS.out b2))
      clear o2 b2
      go_wp2_with fail
      refine FBx.out.mono ?_
      rintro e w3 ⟨g3, c3, rfl, o3, b3⟩
      have HJ := Lib.hid (join2n w3 _ _ _ _ (pz_own (bs := Mt.eight X0) (Rp.own_below O2.out b3)) (pz_own o3) (by rw [Mt.eight_len]; decide) HPL.out)
      have B3 := Lib.hid ((HB.out.trans (B2.out.mono HB.out.size)).trans (b3.mono (Nat.le_trans HB.out.size B2.out.size)))
      clear o3 b3
      go_wp2_with fail
      refine HJ.out.mono ?_
      rintro e w4 ⟨r4, rfl, o4, b4⟩
      have O4 := Lib.hid o4
      have B4 := Lib.hid b4
      clear o4 b4
      go_wp2_with fail
      go_ret
      exact ⟨_, rfl, by rw [HE.out]; exact Go.Joins.ownsRow_le O4.out B3.out.size, B3.out.trans (B4.out.mono B3.out.size)⟩
end Rl
end Go.Proofs.YtjmddomkoholoaaGreatDoor

/- The document's integers. -/
namespace Go.Proofs.YtjmddomkoholoaaGreatDoor
open Go.RowKit
namespace Rl
open Cm Bm Wr Cv Vs Fl Hl Fo Rx Pk

theorem own_types {w : World} {B B' n m : Nat} {a b : Value} {xs ys : List Value} (h1 : w.ownsRow B 33 1 a n xs) (h2 : w.ownsRow B' 5 1 b m ys) : ∀ g, a.ownBlock = some g → b.ownBlock ≠ some g := by
  intro g e1 e2
  obtain ⟨_, ⟨rfl, _⟩ | ⟨g1, _, _, rfl, _, hh1, _⟩⟩ := h1
  · cases e1
  · obtain ⟨_, ⟨rfl, _⟩ | ⟨g2, _, _, rfl, _, hh2, _⟩⟩ := h2
    · cases e2
    · cases e1; cases e2
      rw [hh1] at hh2
      simp at hh2
theorem own_grown {w w' : World} {B n : Nat} {e : TypeId} {v : Value} {xs : List Value} {row : Option Nat} (h : w.ownsRow B e 1 v n xs) (hg : w.grownBy w' row) (hne : ∀ g, v.ownBlock = some g → row ≠ some g) : w'.ownsRow B e 1 v n xs :=
  h.kept hg (by
    cases hv : v.ownBlock with
    | none => exact .inl rfl
    | some g => exact .inr fun e => hne g hv e.symm)
theorem zig_ref (w : World) (p x : Nat) (_hp : p < 18446744073709551616) (_hx : x < 18446744073709551616) :
    Calls Tryz.prog 96 #[.int .i64 (wrap64 (IntKind.u64.wrap ((x : Int) - (p : Int))))] w fun e w' => e = .returned (.int .u64 (Cm.step p x : Nat)) ∧ w' = w := by
  have e : wrap64 (IntKind.u64.wrap ((x : Int) - (p : Int))) = wrap64 ((x : Int) - (p : Int)) := by rw [IntKind.wrap_u64]; unfold wrap64; omega
  rw [e, (step_of p x).1]
  obtain ⟨h1, h2⟩ := wrap_in ((x : Int) - (p : Int))
  exact Sz.zig23 _ h1 h2 w
theorem flat_take {T : List Vl} {k : Nat} (h : k < T.length) : Mt.flat ((ns T).take (k + 1)) = Mt.flat ((ns T).take k) ++ Mt.eight (X T k) := by
  rw [ns_take T k h, Mt.flat_snoc]

set_option maxRecDepth 100000 in
set_option maxHeartbeats 4000000 in
theorem rints16 (w : World) (v : Value) (T : List Vl) (h : Vi w v T) (h0 : 0 < T.length) (hl : T.length ≤ 1000) :
    Calls Tryz.prog 103 #[v] w fun e w' => ∃ r, e = .returned r ∧ w'.ownsRow w.heap.size 5 1 r (ibytes (ns T)).length (u8s (ibytes (ns T))) ∧ Below w.heap.size w w' := by
  obtain ⟨i0, hi, hz0, hz1, hz2⟩ := info_parts info34
  obtain ⟨j0, hj, hy0, hy1, hy2⟩ := info_parts info5
  have HW := Lib.hid h.1
  rcases h.cases with ⟨a, c, rfl, rfl⟩ | ⟨hL0, b, off, c, rfl, hc1, hc2, hc3⟩
  · simp at h0
  obtain ⟨n, hn⟩ : ∃ n, n = T.length := ⟨_, rfl⟩
  have hsl : (sts 0 (ns T)).length = T.length := by rw [sts_len]; simp [ns]
  have HE := Lib.hid (Is.sl_end hn)
  rw [← hn] at hc1 hc3 hl hsl h0 ⊢
  have HC := Lib.hid hc3
  have HN := Lib.hid hn
  have FP := Lib.hid (fun (y : World) (B : Nat) (r : Value) (ho : y.ownsRow B 33 1 r n (u64s (sts 0 (ns T)))) => Rp.refpack8 y r (sts 0 (ns T)) (iu_own (by rw [hsl]; exact ho) (Ic.sts_lt _ _)) (by omega))
  obtain ⟨bs, hbs⟩ : ∃ bs, bs = ibytes (ns T) := ⟨_, rfl⟩
  rw [← hbs]
  have HBS := Lib.hid hbs
  have HSL := Lib.hid hsl
  clear h hc3 hn hL0 hbs hsl
  go_enter Tryz.func103, Tryz.ntmps103
  go_wp2_with fail
  go_loopw [3, 4, 5, 12] (fun s u x i wr => ∃ k, k ≤ n ∧ i = .int .i64 (k : Nat) ∧ x = .int .u64 (Is.P T k : Nat) ∧ wr.ownsRow w.heap.size 33 1 s k (u64s (Is.sl T k)) ∧ wr.ownsRow w.heap.size 5 1 u (1 + 8 * k) (u8s (0 :: Mt.flat ((ns T).take k))) ∧ Below w.heap.size w wr) (fun _ _ _ i _ => n - (intOf i).toNat)
  case atStart =>
    exact ⟨0, Nat.zero_le _, rfl, rfl, by rw [Is.sl_zero]; exact World.ownsRow_nil _ _ _ _, World.ownsRow_lit (size := 1) (e := 5) w #[.int .u8 0] 1 (Nat.le_refl _) (by decide) rfl, (Below.refl _ _).alloc (Nat.le_refl _) _⟩
  case round =>
    obtain ⟨k, hk, rfl, rfl, ho, hr, hb⟩ := hrel
    by_cases hkn : k < n
    · obtain ⟨e1, e2, e3⟩ := (HC.out k hkn).of_block (hb.block b hc2)
      have hX : (T.getD k z0).2.1 = X T k := rfl
      rw [hX] at e2
      have F35 := Lib.hid (fun y => zig_ref y (Is.P T k) (X T k) (Is.P_lt HW.out k) (X_lt HW.out k))
      have F34 := Lib.hid (fun (y : World) => Rp.eight14 y (X T k))
      have HST := Lib.hid (Is.sl_succ (T := T) (k := k) (by rw [← HN.out]; omega))
      have HFL := Lib.hid (flat_take (T := T) (k := k) (by rw [← HN.out]; omega))
      have HL8 := Lib.hid (show (u8s (Mt.eight (X T k))).length = 8 from by rw [u8s_len, Mt.eight_len])
      obtain ⟨A, hA⟩ : ∃ A, A = X T k := ⟨_, rfl⟩
      obtain ⟨D, hD⟩ : ∃ D, D = Is.P T k := ⟨_, rfl⟩
      rw [← hA, ← hD] at F35 HST
      rw [← hA] at e2 F34 HFL HL8
      rw [← hD]
      obtain ⟨Z, hZ⟩ : ∃ Z, Z = Cm.step D A := ⟨_, rfl⟩
      rw [← hZ] at F35 HST
      have HO := Lib.hid ho
      have HR := Lib.hid hr
      have HB := Lib.hid hb
      have HA := Lib.hid hA
      have HEB := Lib.hid (fun (y : World) (hy : Below w.heap.size w y) => (show y.cell? ⟨b, off + k * 3 + 1, none⟩ = some (.int .u64 (A : Nat)) from by
        have := ((HC.out k hkn).of_block (hy.block b hc2)).2.1
        rw [hX, ← hA] at this
        exact this))
      clear ho hr hb hA hD hZ e1 e3 hX
      go_wp2_with fail
      refine (F35.out _).mono ?_
      rintro e w5 ⟨rfl, hw5⟩
      obtain rfl := hw5
      go_wp2_with (at_builtin; refine wpList_append_own _ rfl (.tmp 15) (.tmp 25) 123 rfl w.heap.size 33 i0 (.int .u64 0) 1 8 Tryz.underlying123 hi hz0 hz1 hz2 rfl (by decide) _ _ _ rfl (HO.out.alloc _) ⟨w5.heap.size, 0, none⟩ 1 1 [.int .u64 (Z : Nat)] rfl rfl ?c1 ?c2 ?c3 ?c4 ?c5 ?_)
      case c1 =>
        intro j u hj
        match j, hj with
        | 0, hj => simp at hj; subst hj; simp [Addr.add]
      case c2 => intro u hu; simp at hu; subst hu; rfl
      case c3 => unfold maxLen; omega
      case c4 => omega
      case c5 => have := HB.out.size; simp; omega
      intro v6 w6 h6 g6 _
      have B6 := Lib.hid ((HB.out.alloc HB.out.size _).grown g6 (by have := HB.out.size; simp; omega) (fun r hr => (HO.out.lt r hr).1))
      have R6 := Lib.hid (own_grown (HR.out.alloc _) g6 (fun g e e' => own_types HO.out HR.out g e' e))
      have O6 := Lib.hid h6
      have e6 := HEB.out _ B6.out
      clear h6 g6 e2
      go_wp2_with fail
      refine (F34.out _).mono ?_
      rintro e w7 ⟨g7, c7, rfl, o7, b7⟩
      have B7 := Lib.hid (B6.out.trans (b7.mono B6.out.size))
      have R7 := Lib.hid (Rp.own_below R6.out b7)
      have O7 := Lib.hid (Rp.own_below O6.out b7)
      have E7 := Lib.hid o7
      clear o7 b7 e6
      go_wp2_with (at_builtin; refine wpList_append_own _ rfl (.tmp 32) (.tmp 34) 22 rfl w.heap.size 5 j0 (.int .u8 0) 1 1 Tryz.underlying22 hj hy0 hy1 hy2 rfl (by decide) _ _ _ rfl R7.out ⟨g7, 0, none⟩ 8 c7 (u8s (Mt.eight A)) rfl (by rw [HL8.out]) ?c1 ?c2 ?c3 ?c4 ?c5 ?_)
      case c1 => exact E7.out.cells rfl
      case c2 => intro u hu; simp [u8s] at hu; obtain ⟨x, _, rfl⟩ := hu; rfl
      case c3 => unfold maxLen; omega
      case c4 => omega
      case c5 => exact B7.out.size
      intro v8 w8 h8 g8 _
      have B8 := Lib.hid (B7.out.grown g8 B7.out.size (fun r hr => (R7.out.lt r hr).1))
      have O8 := Lib.hid (own_grown O7.out g8 (fun g e e' => own_types O7.out R7.out g e e'))
      have R8 := Lib.hid (show w8.ownsRow w.heap.size 5 1 v8 (1 + 8 * (k + 1)) (u8s (0 :: Mt.flat ((ns T).take (k + 1)))) from by
        rw [HFL.out]
        have e : u8s (0 :: (Mt.flat ((ns T).take k) ++ Mt.eight A)) = u8s (0 :: Mt.flat ((ns T).take k)) ++ u8s (Mt.eight A) := by simp [u8s]
        rw [e, show 1 + 8 * (k + 1) = 1 + 8 * k + 8 from by omega]
        exact h8)
      clear h8 g8
      go_wp2_with fail
      go_roundw
      case rel => exact ⟨k + 1, by omega, by go_num, by rw [HA.out]; rfl, by rw [HST.out]; unfold u64s; rw [List.map_append]; exact O8.out, R8.out, B8.out⟩
      case measure => simp [intOf]; omega
    · obtain rfl : k = n := by omega
      rw [HE.out] at ho
      rw [List.take_of_length_le (by rw [HN.out]; simp [ns])] at hr
      have hbs := HBS.out
      unfold ibytes at hbs
      by_cases hS : Mt.Small (sts 0 (ns T))
      · rw [if_pos hS] at hbs
        have FK := Lib.hid ((FP.out wr _ _ ho).mono fun e w' hp => La.Packed.ok hp hS)
        have hmm := Ic.packs_pos (l := sts 0 (ns T)) (by rw [HSL.out]; omega)
        have hmx := Ic.packs_le (sts 0 (ns T))
        rw [HSL.out] at hmx
        have HL := Lib.hid (u8s_len (Mt.packs (sts 0 (ns T))))
        obtain ⟨ps, hps⟩ : ∃ ps, ps = Mt.packs (sts 0 (ns T)) := ⟨_, rfl⟩
        rw [← hps] at FK hmm hmx HL hbs
        obtain ⟨m, hm⟩ : ∃ m, m = ps.length := ⟨_, rfl⟩
        rw [← hm] at FK hmm hmx HL
        have HM := Lib.hid hm
        have HBB := Lib.hid hbs
        have HB := Lib.hid hb
        have hmy : m ≤ 8000 := by omega
        clear ho hr hb hS hps hm hbs hmx FP HBS
        go_wp2_with fail
        refine FK.out.mono ?_
        rintro e w2 ⟨r2, rfl, o2, b2⟩
        obtain ⟨q, cq, rfl⟩ := Go.Joins.ownsRow_form o2 (by omega)
        have O2 := Lib.hid (o2.alloc (.cells #[.int .u8 1] 5))
        have B2 := Lib.hid (HB.out.trans (b2.mono HB.out.size))
        have OL := Lib.hid (World.ownsRow_lit (size := 1) (e := 5) w2 #[.int .u8 1] 1 (Nat.le_refl _) (by decide) rfl)
        clear o2 b2
        go_wp2_with (at_builtin; refine wpList_append_own _ rfl (.tmp 44) (.tmp 45) 22 rfl w2.heap.size 5 j0 (.int .u8 0) 1 1 Tryz.underlying22 hj hy0 hy1 hy2 rfl (by decide) _ _ _ rfl OL.out ⟨q, 0, none⟩ m cq (u8s ps) rfl (by rw [HL.out]; omega) ?c1 ?c2 ?c3 ?c4 ?c5 ?_)
        case c1 => exact O2.out.cells rfl
        case c2 => intro u hu; simp [u8s] at hu; obtain ⟨x, _, rfl⟩ := hu; rfl
        case c3 => unfold maxLen; omega
        case c4 => omega
        case c5 => simp
        intro v' w4 ho4 hg4 _
        have B4 := Lib.hid ((B2.out.alloc B2.out.size _).grown hg4 (by have := B2.out.size; simp; omega) (fun r hr => by have := B2.out.size; simp [Value.ownBlock] at hr; omega))
        have O4 := Lib.hid ho4
        clear ho4 hg4
        go_wp2_with fail
        go_ret
        exact ⟨_, rfl, by rw [HBB.out]; exact Ic.cons_own (Go.Joins.ownsRow_le O4.out B2.out.size) HM.out, B4.out⟩
      · rw [if_neg hS] at hbs
        have FK := Lib.hid ((FP.out wr _ _ ho).mono fun e w' hp => La.Packed.bad hp hS)
        have HBB := Lib.hid hbs
        have HB := Lib.hid hb
        have HR := Lib.hid hr
        clear ho hr hb hS hbs FP HBS
        go_wp2_with fail
        refine FK.out.mono ?_
        rintro e w2 ⟨rfl, b2⟩
        have B2 := Lib.hid (HB.out.trans (b2.mono HB.out.size))
        have R2 := Lib.hid (Rp.own_below HR.out b2)
        clear b2
        go_wp2_with fail
        go_ret
        refine ⟨_, rfl, ?_, B2.out⟩
        rw [HBB.out, show (0 :: Mt.flat (ns T)).length = 1 + 8 * k from by rw [List.length_cons, Mt.flat_len]; have := HN.out; simp [ns]; omega]
        exact R2.out
end Rl
end Go.Proofs.YtjmddomkoholoaaGreatDoor

/- The document's Encode. -/
namespace Go.Proofs.YtjmddomkoholoaaGreatDoor
open Go.RowKit
namespace Ren
open Cm Bm Wr Cv Vs Fl Hl Fo Rx Pk Rl En Ld Fm

/-- An append of a string's bytes to a slice of one's own, as one step of a region that draws. -/
theorem step_append_string {P : Program} {ops : Array Oper} {o : Oper} {a : Act} {w : World} {K : Act → World → Prop} {Q : Exit → Act → World → Prop} {E : Prop}
    (hg : o.guard = none) (sl x : Operand) (t u : TypeId) (hop : o.op = Op.call { callee := Callee.builtin Builtin.append, args := #[sl, x], argTypes := #[t, u] })
    (base : Nat) (e : TypeId) (i : TypeInfo) (ht : P.underlying t = some (.slice e)) (hu : P.underlying u = some .string) (hi : P.info? e = some i) (hz : i.zero = some (.int .u8 0)) (hsize : i.size = 1) (hby : i.bytes = 1)
    (v : Value) (n : Nat) (xs : List Value) (hs : a.eval sl = v) (hown : w.ownsRow base e 1 v n xs) (s : ByteArray) (hx : a.eval x = .string s)
    (h63 : n + s.size ≤ maxLen) (hbytes : n + s.size ≤ 140737488355328) (hbase : base ≤ w.heap.size)
    (hK : ∀ v' w', w'.ownsRow base e 1 v' (n + s.size) (xs ++ Lib.strCells s) → w.grownBy w' v.ownBlock → K (a.put o.dst v') w') :
    if Region.wanted o (yielded ops a.tmps) = true then Oper.wp P o a w K Q else E := by
  have hw : Region.wanted o (yielded ops a.tmps) = true := by simp [Region.wanted, hg]
  rw [if_pos hw]
  obtain ⟨v', w', hr, h2, h3, _⟩ := Lib.run_append_own_string (P := P) w base t u o.type e i ht hu hi hz hsize hby v n xs hown s h63 hbytes hbase
  unfold Oper.wp
  simp [execOp, hop, resolve, invoke, builtin, hs, hx, hr, Result.andThen]
  exact hK v' w' h2 h3
theorem short19 (w : World) (n : Nat) (hn : n < 18446744073709551616) : Calls Tryz.prog 106 #[.int .u64 (n : Nat)] w fun e w' => ∃ g c, e = .returned (.slice (some ⟨g, 0, none⟩) (short n).length c) ∧ w'.ownsRow w.heap.size 5 1 (.slice (some ⟨g, 0, none⟩) (short n).length c) (short n).length (u8s (short n)) ∧ Below w.heap.size w w' := by
  refine (Sw.short29 n hn w).mono ?_
  rintro e w' ⟨v, l, rfl, h, ho, bl⟩
  obtain rfl := h.unique (short_is hn)
  obtain ⟨q, c, rfl⟩ := Go.Joins.ownsRow_form ho (by have := short_len n; omega)
  exact ⟨q, c, rfl, ho, bl⟩
theorem lz20 (w : World) (B : Nat) (v : Value) (b : List Nat) (h : w.ownsRow B 5 1 v b.length (u8s b)) (hX : ∀ x ∈ b, x < 256) (hl : b.length ≤ 1000000000) :
    Calls Tryz.prog 107 #[v] w fun e w' => ∃ r, e = .returned r ∧ w'.ownsRow w.heap.size 5 1 r (Lm.packs b).length (u8s (Lm.packs b)) ∧ Below w.heap.size w w' :=
  Pb.refpack8 w _ v b (Bs.src_own h) hX (by omega)
/-- What comes of the texts, where they are not too long. -/
theorem texts_facts {T : List Vl} (hw : ∀ v ∈ T, Wv v) (hf : T.all formed = true) (h0 : 0 < T.length) : (∀ x ∈ laidT (ts T), x < 256) ∧ 0 < (laidT (ts T)).length ∧ 0 < (Lm.packs (laidT (ts T))).length := by
  have hY := Y_le hf
  have hX := tl_lt hw hY (k := T.length) (Nat.le_refl _)
  rw [tl_end rfl] at hX
  have hpos : 0 < (laidT (ts T)).length := by
    have h1 := tl_le (T := T) 1
    rw [tl_succ (k := 0) h0, List.length_append, List.length_append] at h1
    have := short_len (Y T 0).length
    omega
  refine ⟨hX, hpos, ?_⟩
  rcases Nat.eq_zero_or_pos (Lm.packs (laidT (ts T))).length with h | h
  · have hu := Lu.unp_packs (b := laidT (ts T)) (most := ((laidT (ts T)).length : Nat)) (Int.le_refl _)
    rw [List.length_eq_zero_iff.1 h, Lu.unp_nil] at hu
    have : ([] : List Nat) = laidT (ts T) := by injection hu
    rw [← this] at hpos
    simp at hpos
  · exact h

set_option maxRecDepth 100000 in
set_option maxHeartbeats 4000000 in
theorem renc_none (w : World) (v : Value) (T : List Vl) (hv : ∃ a c, v = .slice a T.length c) (h : T.length = 0 ∨ 1000 < T.length) : Calls Tryz.prog 54 #[v] w fun e w' => Enc w T e w' := by
  obtain ⟨a, c, rfl⟩ := hv
  have HE := Lib.hid (enc_len h)
  obtain ⟨n, hn⟩ : ∃ n, n = T.length := ⟨_, rfl⟩
  rw [← hn] at h ⊢
  clear hn
  rcases h with h | h
  · subst h
    go_enter Tryz.func54, Tryz.ntmps54
    go_wp2_with fail
    go_ret2
    exact Enc.of HE.out ⟨_, rfl, World.ownsRow_nil _ _ _ _, Below.refl _ _⟩
  · go_enter Tryz.func54, Tryz.ntmps54
    go_wp2_with fail
    go_ret2
    exact Enc.of HE.out ⟨_, rfl, World.ownsRow_nil _ _ _ _, Below.refl _ _⟩

set_option maxRecDepth 100000 in
set_option maxHeartbeats 8000000 in
theorem renc_some (w : World) (v : Value) (T : List Vl) (h : Vi w v T) (h0 : 0 < T.length) (hl : T.length ≤ 1000) : Calls Tryz.prog 54 #[v] w fun e w' => Enc w T e w' := by
  obtain ⟨i0, hi, hz0, hz1, hz2⟩ := info_parts info5
  have HW := Lib.hid h.1
  rcases h.cases with ⟨a, c, rfl, rfl⟩ | ⟨hL0, b, off, c, rfl, hc1, hc2, hc3⟩
  · simp at h0
  obtain ⟨n, hn⟩ : ∃ n, n = T.length := ⟨_, rfl⟩
  have HV := Lib.hid h
  have HN := Lib.hid hn
  rw [← hn] at hc1 hc3 hl h0 HV ⊢
  have HC := Lib.hid hc3
  have hz1' : ¬ (n : Int) < 1 := by omega
  have hz2' : ¬ (1000 : Int) < (n : Int) := by omega
  clear h hc3 hn hL0
  go_enter Tryz.func54, Tryz.ntmps54
  go_wp2_with fail
  go_loopw [21] (fun i wr => ∃ k, k ≤ n ∧ i = .int .i64 (k : Nat) ∧ (∀ j, j < k → formed (T.getD j z0) = true) ∧ Below w.heap.size w wr) (fun i _ => n - (intOf i).toNat)
  case atStart => exact ⟨0, Nat.zero_le _, rfl, fun j hj => by omega, Below.refl _ _⟩
  case round =>
    obtain ⟨k, hk, rfl, hall, hb⟩ := hrel
    have HALL := Lib.hid hall
    have HB := Lib.hid hb
    clear hall
    by_cases hkn : k < n
    · obtain ⟨e1, e2, e3⟩ := (HC.out k hkn).of_block (hb.block b hc2)
      have hwv := getD_wv HW.out k
      have F14 := Lib.hid (fun x => refformed14 x (T.getD k z0) hwv)
      obtain ⟨V, hV⟩ : ∃ V, V = T.getD k z0 := ⟨_, rfl⟩
      rw [← hV] at e1 e2 e3 F14
      have HV' := Lib.hid hV
      clear hV hb hwv
      by_cases hf : formed V = true
      · rw [hf] at F14
        have HF := Lib.hid hf
        unfold va at F14
        obtain ⟨kk, nn, tt⟩ := V
        simp only at e1 e2 e3 F14
        clear hf
        go_wp2_with (go_at_call 60; refine (F14.out _).mono ?_; rintro e w2 ⟨rfl, b2⟩)
        go_roundw
        case rel =>
          refine ⟨k + 1, by omega, by go_num, fun j hj => ?_, HB.out.trans (b2.mono HB.out.size)⟩
          by_cases e : j = k
          · subst e; rw [← HV'.out]; exact HF.out
          · exact HALL.out j (by omega)
        case measure => simp [intOf]; omega
      · have hf' : formed V = false := by simpa using hf
        rw [hf'] at F14
        have HF := Lib.hid hf'
        unfold va at F14
        obtain ⟨kk, nn, tt⟩ := V
        simp only at e1 e2 e3 F14
        clear hf hf'
        go_wp2_with (go_at_call 60; refine (F14.out _).mono ?_; rintro e w2 ⟨rfl, b2⟩)
        go_ret2
        exact Enc.of (enc_bad (not_all (j := k) (by rw [← HN.out]; exact hkn) (by rw [← HV'.out]; exact HF.out))) ⟨_, rfl, World.ownsRow_nil _ _ _ _, HB.out.trans (b2.mono HB.out.size)⟩
    · obtain rfl : k = n := by omega
      have HALLF := Lib.hid (all_of HN.out HALL.out)
      obtain ⟨w0, hw0⟩ : ∃ w0, w0 = wr := ⟨_, rfl⟩
      obtain ⟨K0, hK0⟩ : ∃ K0, K0 = (T.getD 0 z0).1 := ⟨_, rfl⟩
      have HK0 := Lib.hid hK0
      clear HALL hb hK0 hkn
      go_wp2_with fail
      go_loopw [33] (fun i wr => ∃ j, j ≤ k ∧ i = .int .i64 (j : Nat) ∧ (∀ q, q < j → decide ((T.getD q z0).1 = K0) = true) ∧ Below w.heap.size w wr) (fun i _ => k - (intOf i).toNat)
      case atStart => exact ⟨0, Nat.zero_le _, rfl, fun q hq => by omega, HB.out⟩
      case round =>
        obtain ⟨j, hj, rfl, hone, hb⟩ := hrel
        have HONE := Lib.hid hone
        have HB2 := Lib.hid hb
        clear hone
        by_cases hjn : j < k
        · have e1 := ((HC.out j (by omega)).of_block (hb.block b hc2)).1
          have f1 := ((HC.out 0 (by omega)).of_block (hb.block b hc2)).1
          rw [← HK0.out, Nat.zero_mul, Nat.add_zero] at f1
          obtain ⟨kk, hkk⟩ : ∃ kk, kk = (T.getD j z0).1 := ⟨_, rfl⟩
          rw [← hkk] at e1
          have HKK := Lib.hid hkk
          have hbl : b < wr.heap.size := Nat.lt_of_lt_of_le hc2 hb.size
          have hji : (j : Int) < (k : Int) := by omega
          have h0i : (0 : Int) < (k : Int) := by omega
          clear hkk hb
          by_cases hf : kk = K0
          · have HF := Lib.hid hf
            have hd : (kk != K0) = false := by simp [hf]
            clear hf
            go_upto_region 12 with (fail)
            go_quiet (fail)
            go_wp2_with fail
            go_roundw
            case rel =>
              refine ⟨j + 1, by omega, by go_num, fun q hq => ?_, bdn HB2.out _⟩
              by_cases e : q = j
              · subst e; rw [← HKK.out]; exact decide_eq_true HF.out
              · exact HONE.out q (by omega)
            case measure => simp [intOf]; omega
          · have HF := Lib.hid hf
            have hd : (kk != K0) = true := by simp [hf]
            clear hf
            go_upto_region 12 with (fail)
            go_quiet (fail)
            go_wp2_with fail
            go_ret2
            exact Enc.of (enc_mixed (by rw [← HN.out]; omega) (by rw [← HN.out]; omega) HALLF.out (not_all (j := j) (by rw [← HN.out]; omega) (by rw [← HKK.out, ← HK0.out]; exact decide_eq_false HF.out))) ⟨_, rfl, World.ownsRow_nil _ _ _ _, bdn HB2.out _⟩
        · obtain rfl : j = k := by omega
          have HO1 := Lib.hid (show one T = true from all_of HN.out fun q hq => by rw [← HK0.out]; exact HONE.out q hq)
          have HE := Lib.hid (enc_kind (T := T) (by rw [← HN.out]; omega) (by rw [← HN.out]; omega) HALLF.out HO1.out)
          have hkind : (T.getD 0 z0).1 = 1 ∨ (T.getD 0 z0).1 = 2 ∨ (T.getD 0 z0).1 = 3 ∨ (T.getD 0 z0).1 = 4 := by
            have hf := HALLF.out
            rw [List.all_eq_true] at hf
            refine formed_kind (hf _ ?_)
            rw [List.getD_eq_getElem?_getD, List.getElem?_eq_getElem (by rw [← HN.out]; omega)]
            exact List.getElem_mem _
          have f1 := ((HC.out 0 (by omega)).of_block (hb.block b hc2)).1
          rw [← HK0.out, Nat.zero_mul, Nat.add_zero] at f1
          rw [← HK0.out] at hkind HE
          have hV2 := HV.out.below hb
          have h0T : 0 < T.length := by rw [← HN.out]; exact h0
          have hlT : T.length ≤ 1000 := by rw [← HN.out]; exact hl
          rcases hkind with rfl | rfl | rfl | rfl
          · have FL := Lib.hid (rfloats15 wr _ T hV2 h0T hlT)
            clear hV2 h0T hlT hb
            go_wp2_with fail
            refine FL.out.mono ?_
            rintro e w4 ⟨r4, rfl, o4, b4⟩
            have O4 := Lib.hid o4
            have B4 := Lib.hid b4
            clear o4 b4
            go_wp2_with fail
            go_ret2
            exact Enc.of (HE.out.trans (by first | rfl | simp)) ⟨_, rfl, Go.Joins.ownsRow_le O4.out HB2.out.size, HB2.out.trans (B4.out.mono HB2.out.size)⟩
          · have FL := Lib.hid (rints16 wr _ T hV2 h0T hlT)
            clear hV2 h0T hlT hb
            go_wp2_with fail
            refine FL.out.mono ?_
            rintro e w4 ⟨r4, rfl, o4, b4⟩
            have O4 := Lib.hid o4
            have B4 := Lib.hid b4
            clear o4 b4
            go_wp2_with fail
            go_ret2
            exact Enc.of (HE.out.trans (by first | rfl | simp)) ⟨_, rfl, Go.Joins.ownsRow_le O4.out HB2.out.size, HB2.out.trans (B4.out.mono HB2.out.size)⟩
          · have FU := Lib.hid (fun (y : World) (s : Value) (q : Nat) (hq : q < j) (h1 : Lb y w.heap.size s (Ib.bl 1 T q)) (h2 : w.heap.size ≤ y.heap.size) => put_lb y w.heap.size s (Ib.bl 1 T q) (X T q) 1 h1 h2 (X_lt HW.out _) (by decide) (by have := Ib.bl_len (N := 1) (T := T) (k := q) (by rw [← HN.out]; omega); have := hl; omega))
            have FB := Lib.hid (fun (y : World) (s : Value) (h1 : Lb y w.heap.size s (Ib.bl 1 T j)) => bytes_lb y w.heap.size s (Ib.bl 1 T j) h1 (by have := Ib.bl_len (N := 1) (T := T) (k := j) (by rw [← HN.out]; omega); have := hl; omega))
            have HEND := Lib.hid (show Ib.bl 1 T j = bbits (ns T) from by rw [Ib.bl_end HN.out, Ib.bits_bools])
            clear hV2 h0T hlT hb
            go_wp2_with fail
            go_loopw [6, 63] (fun s i wr => ∃ q, q ≤ j ∧ i = .int .i64 (q : Nat) ∧ Lb wr w.heap.size s (Ib.bl 1 T q) ∧ Below w.heap.size w wr) (fun _ i _ => j - (intOf i).toNat)
            case atStart => exact ⟨0, Nat.zero_le _, rfl, by rw [Ib.bl_zero]; exact lb_nil _ _, HB2.out⟩
            case round =>
              obtain ⟨q, hq, rfl, hs, hb⟩ := hrel
              by_cases hqj : q < j
              · have e1 := ((HC.out q (by omega)).of_block (hb.block b hc2)).2.1
                change _ = some (Value.int .u64 (X T q : Nat)) at e1
                have FUq := Lib.hid (FU.out _ _ q hqj hs hb.size)
                have HST := Lib.hid (Ib.bl_succ (N := 1) (T := T) (k := q) (by rw [← HN.out]; omega))
                obtain ⟨A, hA⟩ : ∃ A, A = X T q := ⟨_, rfl⟩
                rw [← hA] at e1 FUq HST
                have HB3 := Lib.hid hb
                clear hs hb hA
                go_wp2_with fail
                refine FUq.out.mono ?_
                rintro e w2 ⟨s2, rfl, l2, b2⟩
                have L2 := Lib.hid l2
                have B2 := Lib.hid (HB3.out.trans b2)
                clear l2 b2
                go_wp2_with fail
                go_roundw
                case rel => exact ⟨q + 1, by omega, by go_num, by rw [HST.out]; exact L2.out, B2.out⟩
                case measure => simp [intOf]; omega
              · obtain rfl : q = j := by omega
                have FBj := Lib.hid (FB.out _ _ hs)
                rw [HEND.out] at FBj
                have HB3 := Lib.hid hb
                clear hs hb
                go_wp2_with fail
                refine FBj.out.mono ?_
                rintro e w4 ⟨g4, c4, rfl, o4, b4⟩
                have O4 := Lib.hid o4
                have B4 := Lib.hid b4
                clear o4 b4
                go_wp2_with fail
                go_ret2
                exact Enc.of (HE.out.trans (by first | rfl | simp)) ⟨_, rfl, Go.Joins.ownsRow_le O4.out HB3.out.size, HB3.out.trans (B4.out.mono HB3.out.size)⟩
          · obtain ⟨tx1, tx2, tx3⟩ := texts_facts HW.out HALLF.out h0T
            have HY := Lib.hid (Y_le HALLF.out)
            clear hV2 h0T hlT hb
            go_wp2_with fail
            go_loopw [8, 78] (fun s i wr => ∃ q, q ≤ j ∧ i = .int .i64 (q : Nat) ∧ wr.ownsRow w.heap.size 5 1 s (tl T q).length (u8s (tl T q)) ∧ Below w.heap.size w wr) (fun _ i _ => j - (intOf i).toNat)
            case atStart => exact ⟨0, Nat.zero_le _, rfl, by rw [tl_zero]; exact World.ownsRow_nil _ _ _ _, HB2.out⟩
            case round =>
              obtain ⟨q, hq, rfl, ho, hb⟩ := hrel
              by_cases hqj : q < j
              · have e3 := ((HC.out q (by omega)).of_block (hb.block b hc2)).2.2
                have hYY : (T.getD q z0).2.2 = Y T q := rfl
                rw [hYY] at e3
                have hy := HY.out q
                have es := str_size (Y T q)
                have F19 := Lib.hid (short19 wr.drew (Y T q).length (by omega))
                have HSC := Lib.hid (strCells_str (Y T q) (Y_lt HW.out q))
                have HST := Lib.hid (tl_succ (T := T) (k := q) (by rw [← HN.out]; omega))
                have hsl := short_len (Y T q).length
                have HL5 := Lib.hid (u8s_len (short (Y T q).length))
                have hpl := tl_len HY.out (k := q) (by rw [← HN.out]; omega)
                obtain ⟨L, hL⟩ : ∃ L, L = (Y T q).length := ⟨_, rfl⟩
                obtain ⟨S1, hS1⟩ : ∃ S1, S1 = str (Y T q) := ⟨_, rfl⟩
                rw [← hL] at hy es F19 hsl HL5 HST
                rw [← hS1] at e3 es HSC
                obtain ⟨ss, hss⟩ : ∃ ss, ss = short L := ⟨_, rfl⟩
                rw [← hss] at F19 HST hsl HL5
                obtain ⟨r, hr⟩ : ∃ r, r = ss.length := ⟨_, rfl⟩
                rw [← hr] at F19 hsl HL5
                obtain ⟨p, hp⟩ : ∃ p, p = (tl T q).length := ⟨_, rfl⟩
                rw [← hp] at ho hpl
                have HP := Lib.hid (And.intro hp (And.intro hr hL))
                have HEB := Lib.hid (fun (y : World) (hy : Below w.heap.size w y) => (show y.cell? ⟨b, off + q * 3 + 2, none⟩ = some (.string S1) from by
                  have := ((HC.out q (by omega)).of_block (hy.block b hc2)).2.2
                  rw [hYY, ← hS1] at this
                  exact this))
                have HO := Lib.hid ho
                have HB3 := Lib.hid hb
                have hqi : (q : Int) < (j : Int) := by omega
                have hwl : IntKind.u64.wrap (L : Int) = (L : Int) := by rw [IntKind.wrap_u64]; omega
                have e3d : wr.drew.cell? ⟨b, off + q * 3 + 2, none⟩ = some (.string S1) := e3
                have hpq : p ≤ 65546 * 1000 := by have := HN.out; omega
                clear ho hb hL hS1 hss hr hp hYY e3 hpl
                go_wp2_with fail
                go_region_held_law (fun y : World => y.cell? ⟨b, off + q * 3 + 2, none⟩ = some (.string S1)) (first | assumption | (rename_i hS; exact hS)) (first
                  | (go_simp; go_at_call 106; refine F19.out.mono ?_; rintro e w5 ⟨g5, c5, rfl, o5, b5⟩; have O5 := Lib.hid o5; have B5 := Lib.hid (HB3.out.drew.trans (b5.mono HB3.out.drew.size)); have P5 := Lib.hid (Rp.own_below HO.out.drew b5); clear o5 b5; have f5 := HEB.out _ B5.out; dsimp only)
                  | (refine Ry.step_append_own rfl (.tmp 81) (.tmp 89) 22 rfl w.heap.size 5 i0 (.int .u8 0) 1 1 Tryz.underlying22 hi hz0 hz1 hz2 rfl (by decide) u8 p (u8s (tl T q)) (by simp [Act.eval]) P5.out ⟨g5, 0, none⟩ r c5 (u8s ss) (by simp [Act.eval]) (by rw [HL5.out]; omega) (O5.out.cells rfl) (by intro u hu; simp [u8s] at hu; obtain ⟨x, _, rfl⟩ := hu; rfl) (by unfold maxLen; omega) (by omega) B5.out.size ?_; intro v6 w6 h6 g6; have B6 := Lib.hid (B5.out.grown g6 B5.out.size (fun r hr => (HO.out.lt r hr).1)); have O6 := Lib.hid h6; clear h6 g6; have f6 := HEB.out _ B6.out)
                  | (refine step_append_string rfl (.tmp 90) (.tmp 95) 22 9 rfl w.heap.size 5 i0 Tryz.underlying22 Tryz.underlying9 hi hz0 hz1 hz2 v6 (p + r) (u8s (tl T q) ++ u8s ss) (by simp [Act.eval, Act.put]) O6.out S1 (by simp [Act.eval, Act.put]) (by rw [es]; unfold maxLen; omega) (by rw [es]; omega) B6.out.size ?_; intro v7 w7 h7 g7; have B7 := Lib.hid (B6.out.grown g7 B6.out.size (fun r hr => (O6.out.lt r hr).1)); have O7 := Lib.hid h7; clear h7 g7; have f7 := HEB.out _ B7.out))
                have HT7 := Lib.hid (show (tl T (q + 1)).length = p + r + L ∧ u8s (tl T q) ++ u8s ss ++ Lib.strCells S1 = u8s (tl T (q + 1)) from ⟨by
                  rw [HST.out, List.length_append, List.length_append, ← HP.out.1, ← HP.out.2.1, ← HP.out.2.2], by rw [HSC.out, HST.out]; simp [u8s]⟩)
                have HE7 := Lib.hid (show w7.ownsRow w.heap.size 5 1 v7 (tl T (q + 1)).length (u8s (tl T (q + 1))) from by
                  rw [HT7.out.1, ← HT7.out.2, ← es]; exact O7.out)
                clear f5 f6 f7
                go_wp2_with fail
                go_roundw
                case rel => exact ⟨q + 1, by omega, by go_num, HE7.out, B7.out⟩
                case measure => simp [intOf]; omega
              · obtain rfl : q = j := by omega
                have hB := tl_end HN.out
                rw [hB] at ho
                have hle := tl_len HY.out (k := q) (by rw [← HN.out]; exact Nat.le_refl _)
                rw [hB] at hle
                have HS := Lib.hid (show enc T = senc (laidT (ts T)) from HE.out.trans (by first | rfl | simp [senc]))
                obtain ⟨Bt, hBt⟩ : ∃ Bt, Bt = laidT (ts T) := ⟨_, rfl⟩
                rw [← hBt] at ho hle HS tx1 tx2 tx3
                obtain ⟨g, cg, rfl⟩ := Go.Joins.ownsRow_form ho tx2
                have HO := Lib.hid ho
                have HB3 := Lib.hid hb
                have TX := Lib.hid tx1
                have hlen9 : Bt.length ≤ 1000000000 := by omega
                have FZ := Lib.hid (lz20 wr w.heap.size _ Bt ho tx1 hlen9)
                have HLB := Lib.hid (u8s_len Bt)
                have HLP := Lib.hid (u8s_len (Lm.packs Bt))
                have hpl := Lm.packs_len Bt
                have HSB := Lib.hid (show sbytes Bt = if (Lm.packs Bt).length < Bt.length then 1 :: Lm.packs Bt else 0 :: Bt from rfl)
                obtain ⟨ps, hps⟩ : ∃ ps, ps = Lm.packs Bt := ⟨_, rfl⟩
                rw [← hps] at FZ HLP tx3 HSB hpl
                obtain ⟨m, hm⟩ : ∃ m, m = Bt.length := ⟨_, rfl⟩
                obtain ⟨p, hp⟩ : ∃ p, p = ps.length := ⟨_, rfl⟩
                have HM := Lib.hid (And.intro hm hp)
                rw [← hm] at HO FZ HLB tx2 hlen9 HSB hpl ⊢
                rw [← hp] at FZ HLP tx3 HSB hpl
                have HSE := Lib.hid (show senc Bt = if 4194304 < m then (4, []) else (0, sbytes Bt) from by rw [hm]; rfl)
                clear ho hb tx1 hB hle hBt hps hm hp
                by_cases hbig : 4194304 < m
                · have HF := Lib.hid (HS.out.trans (HSE.out.trans (if_pos hbig)))
                  clear FZ
                  go_wp2_with fail
                  go_ret2
                  exact Enc.of HF.out ⟨_, rfl, World.ownsRow_nil _ _ _ _, HB3.out⟩
                · have HF := Lib.hid (HS.out.trans (HSE.out.trans (if_neg hbig)))
                  by_cases hs : p < m
                  · have HF2 := Lib.hid (HF.out.trans (by rw [HSB.out, if_pos hs]))
                    go_wp2_with fail
                    refine FZ.out.mono ?_
                    rintro e w3 ⟨r3, rfl, o3, b3⟩
                    obtain ⟨q3, cq, rfl⟩ := Go.Joins.ownsRow_form o3 tx3
                    have O3 := Lib.hid (o3.alloc (.cells #[.int .u8 1] 5))
                    have B3 := Lib.hid (HB3.out.trans (b3.mono HB3.out.size))
                    have OL := Lib.hid (World.ownsRow_lit (size := 1) (e := 5) w3 #[.int .u8 1] 1 (Nat.le_refl _) (by decide) rfl)
                    clear o3 b3
                    go_wp2_with (at_builtin; refine wpList_append_own _ rfl (.tmp 108) (.tmp 109) 22 rfl w3.heap.size 5 i0 (.int .u8 0) 1 1 Tryz.underlying22 hi hz0 hz1 hz2 rfl (by decide) _ _ _ rfl OL.out ⟨q3, 0, none⟩ p cq (u8s ps) rfl (by rw [HLP.out]; omega) ?c1 ?c2 ?c3 ?c4 ?c5 ?_)
                    case c1 => exact O3.out.cells rfl
                    case c2 => intro u hu; simp [u8s] at hu; obtain ⟨x, _, rfl⟩ := hu; rfl
                    case c3 => unfold maxLen; omega
                    case c4 => omega
                    case c5 => simp
                    intro v' w4 ho4 hg4 _
                    have B4 := Lib.hid ((B3.out.alloc B3.out.size _).grown hg4 (by have := B3.out.size; simp; omega) (fun r hr => by have := B3.out.size; simp [Value.ownBlock] at hr; omega))
                    have O4 := Lib.hid ho4
                    clear ho4 hg4
                    go_wp2_with fail
                    go_ret2
                    exact Enc.of HF2.out ⟨_, rfl, Ic.cons_own (Go.Joins.ownsRow_le O4.out B3.out.size) HM.out.2, B4.out⟩
                  · have HF2 := Lib.hid (HF.out.trans (by rw [HSB.out, if_neg hs]))
                    go_wp2_with fail
                    refine FZ.out.mono ?_
                    rintro e w3 ⟨r3, rfl, o3, b3⟩
                    obtain ⟨q3, cq, rfl⟩ := Go.Joins.ownsRow_form o3 tx3
                    have O3 := Lib.hid ((Rp.own_below HO.out b3).alloc (.cells #[.int .u8 0] 5))
                    have B3 := Lib.hid (HB3.out.trans (b3.mono HB3.out.size))
                    have OL := Lib.hid (World.ownsRow_lit (size := 1) (e := 5) w3 #[.int .u8 0] 1 (Nat.le_refl _) (by decide) rfl)
                    clear o3 b3
                    go_wp2_with (at_builtin; refine wpList_append_own _ rfl (.tmp 111) (.tmp 112) 22 rfl w3.heap.size 5 i0 (.int .u8 0) 1 1 Tryz.underlying22 hi hz0 hz1 hz2 rfl (by decide) _ _ _ rfl OL.out ⟨g, 0, none⟩ m cg (u8s Bt) rfl (by rw [HLB.out]; omega) ?c1 ?c2 ?c3 ?c4 ?c5 ?_)
                    case c1 => exact O3.out.cells rfl
                    case c2 => intro u hu; simp [u8s] at hu; obtain ⟨x, _, rfl⟩ := hu; rfl
                    case c3 => unfold maxLen; omega
                    case c4 => omega
                    case c5 => simp
                    intro v' w4 ho4 hg4 _
                    have B4 := Lib.hid ((B3.out.alloc B3.out.size _).grown hg4 (by have := B3.out.size; simp; omega) (fun r hr => by have := B3.out.size; simp [Value.ownBlock] at hr; omega))
                    have O4 := Lib.hid ho4
                    clear ho4 hg4
                    go_wp2_with fail
                    go_ret2
                    exact Enc.of HF2.out ⟨_, rfl, Ic.cons_own (Go.Joins.ownsRow_le O4.out B3.out.size) HM.out.1, B4.out⟩
theorem refencode9 (w : World) (v : Value) (T : List Vl) (h : Vi w v T) : Calls Tryz.prog 54 #[v] w fun e w' => Enc w T e w' := by
  by_cases h0 : T.length = 0 ∨ 1000 < T.length
  · exact renc_none w v T h.forms h0
  · exact renc_some w v T h (by omega) (by omega)
end Ren
end Go.Proofs.YtjmddomkoholoaaGreatDoor
