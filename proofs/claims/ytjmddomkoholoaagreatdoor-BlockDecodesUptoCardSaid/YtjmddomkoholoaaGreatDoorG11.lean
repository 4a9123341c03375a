import Derived.Test.YtjmddomkoholoaaGreatDoorG10
import Derived.Shelf.Strconv.Itoa0
import Derived.Shelf.LaysM
import Derived.Test.YtjmddomkoholoaaGreatDoorProg
import Derived.Test.YtjmddomkoholoaaGreatDoorG06
import Derived.Test.YtjmddomkoholoaaGreatDoorG08
import Derived.Lib.TrailingZeros
import Derived.Laws.Bits64b
import Derived.Test.YtjmddomkoholoaaGreatDoorG07

/- Of one kind: the program's side. -/
namespace Go.Proofs.YtjmddomkoholoaaGreatDoor
open Go.RowKit
namespace Fo
open Cm Wr Cv Vs Fm

theorem bdn {B : Nat} {a w : World} (h : Below B a w) (n : Nat) : Below B a (w.drewN n) := ⟨h.os, h.tape, h.output, h.size, h.block⟩
set_option maxRecDepth 100000 in
set_option maxHeartbeats 1000000 in
theorem one22 (w : World) (v : Value) (T : List Vl) (h : Vi w v T) (hl : T.length ≤ 1000000000) :
    Calls Tryz.prog 87 #[v] w fun e w' => e = .returned (.bool (one T)) ∧ Below w.heap.size w w' := by
  rcases h.cases with ⟨a, c, rfl, rfl⟩ | ⟨hL0, b, off, c, rfl, hc1, hc2, hc3⟩
  · clear h
    go_enter Tryz.func87, Tryz.ntmps87
    go_wp2_with fail
    refine wp_loop_rounds 1 ?_
    rw [rounds_succ]
    go_wp2_with fail
    go_ret
    exact ⟨rfl, Below.refl _ _⟩
  · obtain ⟨n, hn⟩ : ∃ n, n = T.length := ⟨_, rfl⟩
    rw [← hn] at hc1 hc3 hl ⊢
    have hn0 : 0 < n := by omega
    have HC := Lib.hid hc3
    have HN := Lib.hid hn
    obtain ⟨A, hA⟩ : ∃ A, A = one T := ⟨_, rfl⟩
    rw [← hA]
    have HA := Lib.hid hA
    obtain ⟨K0, hK0⟩ : ∃ K0, K0 = (T.getD 0 z0).1 := ⟨_, rfl⟩
    have HK0 := Lib.hid hK0
    clear h hc3 hn hL0 hA hK0
    go_enter Tryz.func87, Tryz.ntmps87
    go_wp2_with fail
    go_loopw [7] (fun i wr => ∃ k, k ≤ n ∧ i = .int .i64 (k : Nat) ∧ (∀ j, j < k → decide ((T.getD j z0).1 = K0) = true) ∧ Below w.heap.size w wr) (fun i _ => n - (intOf i).toNat)
    case atStart => exact ⟨0, Nat.zero_le _, rfl, fun j hj => by omega, Below.refl _ _⟩
    case round =>
      obtain ⟨k, hk, rfl, hall, hb⟩ := hrel
      have HALL := Lib.hid hall
      have HB := Lib.hid hb
      clear hall
      by_cases hkn : k < n
      · obtain ⟨e1, e2, e3⟩ := (HC.out k hkn).of_block (hb.block b hc2)
        have f1 := ((HC.out 0 hn0).of_block (hb.block b hc2)).1
        rw [← HK0.out, Nat.zero_mul, Nat.add_zero] at f1
        obtain ⟨V, hV⟩ : ∃ V, V = T.getD k z0 := ⟨_, rfl⟩
        rw [← hV] at e1 e2 e3
        have HV := Lib.hid hV
        have hbl : b < wr.heap.size := Nat.lt_of_lt_of_le hc2 hb.size
        clear hV hb
        obtain ⟨kk, nn, tt⟩ := V
        simp only at e1 e2 e3
        by_cases hf : kk = K0
        · have HF := Lib.hid hf
          have hd : (kk != K0) = false := by simp [hf]
          clear hf
          go_upto_region 4 with (fail)
          go_quiet (fail)
          go_wp2_with fail
          go_roundw
          case rel =>
            refine ⟨k + 1, by omega, by go_num, fun j hj => ?_, ?_⟩
            · by_cases e : j = k
              · subst e; rw [← HV.out]; exact decide_eq_true HF.out
              · exact HALL.out j (by omega)
            · exact bdn (HB.out.alloc HB.out.size _) _
          case measure => simp [intOf]; omega
        · have HF := Lib.hid hf
          have hd : (kk != K0) = true := by simp [hf]
          clear hf
          go_upto_region 4 with (fail)
          go_quiet (fail)
          go_wp2_with fail
          go_ret
          refine ⟨ret_bool ?_, bdn (HB.out.alloc HB.out.size _) _⟩
          rw [HA.out]
          refine (not_all (j := k) (by rw [← HN.out]; exact hkn) ?_).symm
          rw [← HV.out, ← HK0.out]
          exact decide_eq_false HF.out
      · obtain rfl : k = n := by omega
        go_wp2_with fail
        go_ret
        refine ⟨ret_bool ?_, HB.out⟩
        rw [HA.out]
        refine (all_of HN.out fun j hj => ?_).symm
        rw [← HK0.out]
        exact HALL.out j hj
end Fo
end Go.Proofs.YtjmddomkoholoaaGreatDoor

/- The library's contracts that are used. -/
namespace Go.Proofs
open Go.Shelf
def Tryz.lays129_ren : Go.Shelf.Ren := ⟨fun | 129 => 176 | n => n, fun | 53 => 33 | 3 => 3 | 4 => 4 | 46 => 45 | 5 => 5 | 9 => 9 | n => n, fun | n => n⟩
theorem Tryz.lays129 : Go.Proofs.Lays.n129 Tryz.prog Tryz.lays129_ren := {
  mixed := by kernel_rfl
  f129 := Tryz.func176.trans (congrArg some (by kernel_rfl))
  t3 := Tryz.underlying3
  a3 := Tryz.isAgg3
  z3 := Tryz.sizeOf3
  v3 := Tryz.zeroValue3
  t4 := Tryz.underlying4
  a4 := Tryz.isAgg4
  z4 := Tryz.sizeOf4
  v4 := Tryz.zeroValue4
  t5 := Tryz.underlying5
  a5 := Tryz.isAgg5
  z5 := Tryz.sizeOf5
  v5 := Tryz.zeroValue5
  t9 := Tryz.underlying9
  a9 := Tryz.isAgg9
  z9 := Tryz.sizeOf9
  v9 := Tryz.zeroValue9
  t46 := Tryz.underlying45
  a46 := Tryz.isAgg45
  z46 := Tryz.sizeOf45
  v46 := Tryz.zeroValue45
  t53 := Tryz.underlying33
  a53 := Tryz.isAgg33
  z53 := Tryz.sizeOf33
  v53 := Tryz.zeroValue33 }
theorem Tryz.bits_Len64 (x : Int) (w : World) (h0 : 0 ≤ x) (h1 : x ≤ 18446744073709551615) :
    Calls Tryz.prog 176 #[.int .u64 x] w fun e w' => e = .returned (.int .i64 (Lib.bitLen x.toNat)) ∧ w' = w := Any.bits_Len64 Tryz.lays129 x w h0 h1
end Go.Proofs

/- The noughts ahead of a number, and behind it. -/
namespace Go.Proofs.YtjmddomkoholoaaGreatDoor
open Go.RowKit
namespace Zs
open Cm Wr Pk

/-- The library's table of places. -/
def Dt (w : World) : Prop := 2 < w.heap.size ∧ ∀ j, j < 64 → w.cell? ⟨2, j, none⟩ = some (.int .u8 (Lib.deBruijn64tab.getD j 0 : Nat))
theorem Dt.below {w w' : World} {B : Nat} (h : Dt w) (b : Below B w w') (hB : 2 < B) : Dt w' :=
  ⟨Nat.lt_of_lt_of_le h.1 b.size, fun j hj => (b.cell (p := ⟨2, j, none⟩) hB).trans (h.2 j hj)⟩
theorem bitLen_hi {x : Nat} (h0 : x ≠ 0) (hx : x < 18446744073709551616) : Lib.bitLen x = 64 - hi x := by
  have h1 := Nat.log2_self_le h0
  have h2 := Nat.lt_log2_self (n := x)
  have h3 := (Nat.log2_lt h0 (k := 64)).2 hx
  rw [Lib.bitLen_shift (Nat.log2 x) x h1 hx]
  have e : x / 2 ^ Nat.log2 x = 1 := by
    apply Nat.div_eq_of_lt_le
    · omega
    · rw [Nat.pow_succ] at h2; omega
  rw [e, show Lib.bitLen 1 = 1 from by decide]
  unfold hi
  omega
theorem ctz_lo {x : Nat} (h0 : x ≠ 0) (hx : x < 18446744073709551616) : Lib.ctz 64 x = lo x := by
  obtain ⟨m, h1, h2⟩ := Lib.ctzFrom_spec 64 x (by omega) hx
  have e : Lib.ctz 64 x = Lib.ctzFrom 64 x := if_neg h0
  rw [e]
  generalize Lib.ctzFrom 64 x = k at *
  refine (lo_of h2 ?_ ?_).symm
  · rw [h1, Nat.mul_mod_right]
  · rw [h1, Nat.mul_div_cancel_left _ (Nat.two_pow_pos k)]; omega

set_option maxRecDepth 100000 in
theorem lead63 (w : World) (x : Nat) (h0 : x ≠ 0) (hx : x < 18446744073709551616) : Calls Tryz.prog 161 #[.int .u64 (x : Nat)] w fun e w' => e = .returned (.int .i64 (hi x : Nat)) ∧ w' = w := by
  have F := Lib.hid (fun w => Tryz.bits_Len64 (x : Nat) w (by omega) (by omega))
  rw [Int.toNat_natCast, bitLen_hi h0 hx] at F
  have h64 := (hi_spec h0 hx).1
  obtain ⟨K, hK⟩ : ∃ K, K = 64 - hi x := ⟨_, rfl⟩
  have hH : hi x = 64 - K := by omega
  rw [← hK] at F
  rw [hH]
  have hK64 : K ≤ 64 := by omega
  clear hK hH h64
  go_enter Tryz.func161, Tryz.ntmps161
  go_wp2_with (go_at_call 176; refine (F.out _).mono ?_; rintro e w' ⟨rfl, rfl⟩)
  go_ret
  refine ⟨?_, rfl⟩
  rw [show ((64 - K : Nat) : Int) = 64 - (K : Int) from by omega]
  rfl

set_option maxRecDepth 100000 in
theorem trail64 (w : World) (x : Nat) (h0 : x ≠ 0) (hx : x < 18446744073709551616) (hT : Dt w) : Calls Tryz.prog 162 #[.int .u64 (x : Nat)] w fun e w' => e = .returned (.int .i64 (lo x : Nat)) ∧ w' = w := by
  obtain ⟨hlow, hk⟩ := Lib.lowest_bit 64 x h0 hx
  obtain ⟨hi', htab⟩ := Lib.deBruijn64_at _ hk
  have hcell := hT.2 _ hi'
  rw [htab, ctz_lo h0 hx] at hcell
  rw [ctz_lo h0 hx] at hlow hk hi'
  have e1 : IntKind.u64.wrap (-(x : Int)) = ((18446744073709551616 - x : Nat) : Int) := by rw [IntKind.wrap_u64]; omega
  have key : IntKind.u64.wrap (bits BinOp.and IntKind.u64 (x : Int) (IntKind.u64.wrap (-(x : Int))) * 285870213051353865) / 288230376151711744 = ((2 ^ lo x * 285870213051353865 % 18446744073709551616 / 288230376151711744 : Nat) : Int) := by
    rw [e1, bits_and_u64_nat x _ hx (by omega), hlow, IntKind.wrap_u64]
    generalize 2 ^ lo x = P
    omega
  have hx0 : ((x : Int) == 0) = false := by rw [beq_eq_false_iff_ne]; omega
  obtain ⟨I, hI⟩ : ∃ I, I = 2 ^ lo x * 285870213051353865 % 18446744073709551616 / 288230376151711744 := ⟨_, rfl⟩
  obtain ⟨K, hK⟩ : ∃ K, K = lo x := ⟨_, rfl⟩
  rw [← hI] at key hcell hi'
  rw [← hK] at hcell hk ⊢
  clear hlow htab e1 hI hK hT h0
  go_enter Tryz.func162, Tryz.ntmps162
  go_wp2_with (simp only [key])
  go_ret
  exact ⟨rfl, rfl⟩
end Zs
end Go.Proofs.YtjmddomkoholoaaGreatDoor

/- The writer by lists of bits; putUnlike. -/
namespace Go.Proofs.YtjmddomkoholoaaGreatDoor
open Go.RowKit
namespace Wl
open Cm Wr Bm Pk Zs

/-- The writer at block g holds these bits. -/
def Wl (w : World) (g : Nat) (s : Value) (L : List Bool) : Prop := Wt w g s L.length (ofL L)
theorem Wl.below {w w' : World} {g : Nat} {s : Value} {L : List Bool} (h : Wl w g s L) (b : Below w.heap.size w w') : Wl w' g s L := Wt.below h b
theorem Wl.lt {w : World} {g : Nat} {s : Value} {L : List Bool} (h : Wl w g s L) : g < w.heap.size := Wt.lt h
theorem new_wl (w : World) : Calls Tryz.prog 92 #[] w fun e w' => e = .returned (.pointer (some ⟨w.heap.size, 0, none⟩)) ∧ (∃ s, Wl w' w.heap.size s []) ∧ Below w.heap.size w w' := by
  refine (new_wt w).mono ?_
  rintro e w' ⟨rfl, h, b⟩
  refine ⟨rfl, ⟨.slice none 0 0, ?_⟩, b⟩
  unfold Wl
  have e : ofL [] = fun _ => false := by funext i; simp [ofL]
  rw [e]
  exact h
/-- What one that puts leaves: these bits; only the writer has turned. -/
def Wp (w : World) (g : Nat) (s : Value) (w' : World) (L : List Bool) : Prop := ∃ s', Wl w' g s' L ∧ Mv w w' g s ∧ Own w s s'
theorem Wl.own {w : World} {g : Nat} {s : Value} {L : List Bool} (h : Wl w g s L) : ∀ k, s.ownBlock = some k → g + 1 ≤ k ∧ k < w.heap.size := Wt.own h
theorem Wp.below {w w' : World} {g B : Nat} {s : Value} {L L' : List Bool} (h : Wp w g s w' L) (h0 : Wl w g s L') (hB : B ≤ g) : Below B w w' := by
  obtain ⟨s', _, m, _⟩ := h
  exact m.below hB (fun k hk => by have := (h0.own k hk).1; omega) h0.lt
theorem Wp.trans {a b c : World} {g : Nat} {s t : Value} {L : List Bool} (m : Mv a b g s) (o : Own a s t) (h : Wp b g t c L) : Wp a g s c L := by
  obtain ⟨u, h1, h2, h3⟩ := h
  exact ⟨u, h1, m.trans o h2, o.trans h3 m.size⟩
theorem put_wl (w : World) (g : Nat) (s : Value) (L : List Bool) (v N : Nat) (h : Wl w g s L) (hv : v < 18446744073709551616) (hN : N ≤ 64) (hb : L.length ≤ 1000000000) :
    Calls Tryz.prog 93 #[.pointer (some ⟨g, 0, none⟩), .int .u64 (v : Nat), .int .i64 (N : Nat)] w fun e w' => e = .returned (.tuple #[]) ∧ Wp w g s w' (L ++ bv v N) := by
  refine (put_wt w g s L.length (ofL L) v N (N : Nat) h hv (by omega) (by omega) (by omega) (by omega)).mono ?_
  rintro e w' ⟨rfl, s', k1, k2, k3⟩
  refine ⟨rfl, s', ?_, k2, k3⟩
  unfold Wl
  rw [put_ofL] at k1
  rw [List.length_append, bv_len]
  exact k1
theorem bytes_wl (w : World) (g : Nat) (s : Value) (L : List Bool) (h : Wl w g s L) (hb : L.length ≤ 1000000000) :
    Calls Tryz.prog 85 #[.pointer (some ⟨g, 0, none⟩)] w fun e w' => ∃ v, e = .returned v ∧ w'.ownsRow w.heap.size 5 1 v (pk L).length (u8s (pk L)) ∧ Below w.heap.size w w' := by
  refine (bytes_wt w g s L.length (ofL L) h (by omega)).mono ?_
  rintro e w' ⟨v, bs, f, rfl, ho, bl, hh, hl, hf⟩
  obtain rfl := pk_eq hh hl hf
  exact ⟨v, rfl, ho, bl⟩

set_option maxRecDepth 100000 in
set_option maxHeartbeats 1000000 in
theorem unlike43 (w : World) (g : Nat) (s : Value) (L : List Bool) (x : Nat) (h : Wl w g s L) (hx : x < 18446744073709551616) (hT : Dt w) (hb : L.length ≤ 100000000) :
    Calls Tryz.prog 135 #[.pointer (some ⟨g, 0, none⟩), .int .u64 (x : Nat)] w fun e w' => e = .returned (.tuple #[]) ∧ Wp w g s w' (L ++ ub x) := by
  by_cases h0 : x = 0
  · subst h0
    have F := Lib.hid (put_wl w g s L 0 1 h (by decide) (by decide) (by omega))
    rw [ub_zero]
    clear h hT
    go_enter Tryz.func135, Tryz.ntmps135
    go_wp2_with (go_at_call 93; refine F.out.mono ?_; rintro e w2 ⟨rfl, h2⟩)
    refine bodyPost_ret (v := .tuple #[]) (by simp [results, Tryz.results135, go_sem]) rfl ⟨rfl, h2⟩
  · have F63 := Lib.hid (fun w => lead63 w x h0 hx)
    have F64 := Lib.hid (trail64 w x h0 hx hT)
    obtain ⟨p1, p2, p3, p4⟩ := sp_spec h0 hx
    have HD : Hid (x / 2 ^ lo x < 18446744073709551616) := Lib.hid (Nat.lt_of_le_of_lt (Nat.div_le_self _ _) hx)
    have hx0 : ((x : Int) == 0) = false := by rw [beq_eq_false_iff_ne]; omega
    rw [ub_some h0]
    have FP := Lib.hid (fun (y : World) (s : Value) (L : List Bool) (v N : Nat) (h1 : Wl y g s L) (h2 : v < 18446744073709551616) (h3 : N ≤ 64) (h4 : L.length ≤ 1000000000) => put_wl y g s L v N h1 h2 h3 h4)
    have hshr : ((x : Nat) : Int) / 2 ^ lo x = ((x / 2 ^ lo x : Nat) : Int) := by push_cast; rfl
    obtain ⟨D, hD⟩ : ∃ D, D = x / 2 ^ lo x := ⟨_, rfl⟩
    rw [← hD] at hshr HD ⊢
    obtain ⟨Z, hZ⟩ : ∃ Z, Z = hi x := ⟨_, rfl⟩
    obtain ⟨C, hC⟩ : ∃ C, C = lo x := ⟨_, rfl⟩
    obtain ⟨S, hS⟩ : ∃ S, S = sp x := ⟨_, rfl⟩
    rw [← hZ] at F63 p1 ⊢
    rw [← hC] at F64 p1 hshr
    rw [← hS] at p1 p2 ⊢
    have HW := Lib.hid h
    clear h hT h0 p3 p4 hD hZ hC hS
    go_enter Tryz.func135, Tryz.ntmps135
    go_wp2_with (first | (go_at_call 161; refine (F63.out _).mono ?_; rintro e w2 ⟨rfl, rfl⟩) | (go_at_call 162; refine F64.out.mono ?_; rintro e w2 ⟨rfl, rfl⟩))
    refine (FP.out _ _ _ 1 1 HW.out (by decide) (by decide) (by omega)).mono ?_
    rintro e w3 ⟨rfl, s3, h3, m3, o3⟩
    have H3 := Lib.hid h3
    have M3 := Lib.hid (And.intro m3 o3)
    clear h3 m3 o3
    go_wp2_with fail
    refine (FP.out _ _ _ Z 6 H3.out (by omega) (by decide) (by simp [bv_len]; omega)).mono ?_
    rintro e w4 ⟨rfl, s4, h4, m4, o4⟩
    have H4 := Lib.hid h4
    have M4 := Lib.hid (And.intro (M3.out.1.trans M3.out.2 m4) (M3.out.2.trans o4 M3.out.1.size))
    clear h4 m4 o4
    have hS1 : ((S - 1 : Nat) : Int) = 64 - (Z : Int) - (C : Int) - 1 := by omega
    have hS2 : (S : Int) = 64 - (Z : Int) - (C : Int) := by omega
    have FQ := Lib.hid (FP.out w4 s4 _ (S - 1) 6 H4.out (by omega) (by decide) (by simp [bv_len]; omega))
    rw [hS1] at FQ
    go_wp2_with fail
    refine FQ.out.mono ?_
    rintro e w5 ⟨rfl, s5, h5, m5, o5⟩
    have M5 := Lib.hid (And.intro (M4.out.1.trans M4.out.2 m5) (M4.out.2.trans o5 M4.out.1.size))
    have FR := Lib.hid (FP.out w5 s5 _ D S h5 HD.out (by omega) (by simp [bv_len]; omega))
    rw [hS2] at FR
    clear h5 m5 o5
    go_wp2_with fail
    refine FR.out.mono ?_
    rintro e w6 ⟨rfl, h6⟩
    have H6 := Lib.hid h6
    clear h6
    go_wp2_with fail
    go_end0
    refine ⟨rfl, ?_⟩
    have := Wp.trans M5.out.1 M5.out.2 H6.out
    simp only [List.append_assoc] at this
    exact this
end Wl
end Go.Proofs.YtjmddomkoholoaaGreatDoor
