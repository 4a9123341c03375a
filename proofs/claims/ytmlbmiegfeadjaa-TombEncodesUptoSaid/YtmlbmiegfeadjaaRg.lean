/- The reader: the walk of Get. -/
import Derived.Test.YtmlbmiegfeadjaaRd
import Derived.Deep.RegionHeld3
namespace Go.Proofs.Ytmlbmiegfeadjaa
open Go.RowKit
namespace Rd
open Bm Wr

theorem only_hold {w : World} {g : Nat} {s : Value} {bs : List Nat} {p : Nat} {bad : Bool} (h : Rh w g s bs p bad) (p' : Nat) :
    Rh (w.setCell ⟨g, 1, none⟩ (.int .i64 (p' : Nat))) g s bs p' bad ∧ Only w (w.setCell ⟨g, 1, none⟩ (.int .i64 (p' : Nat))) g := by
  obtain ⟨B, ho⟩ := h.own
  refine ⟨⟨by simpa using h.lt, by rw [cell_other (by simp)]; exact h.c0, by rw [cell_same h.c1], by rw [cell_other (by simp)]; exact h.c2, by simpa using h.z0, by simpa using h.z1, by simpa using h.z2, h.ne, B, ?_⟩,
    ⟨rfl, rfl, rfl, by simp, fun k hk hg => heap_setCell_other _ _ _ _ (by simpa using hg)⟩⟩
  exact ho.kept (row := some g) ⟨rfl, rfl, rfl, by simp, fun k hk hg => heap_setCell_other _ _ _ _ (by simpa using hg)⟩ (.inr h.ne)

theorem few_hold {w : World} {g : Nat} {s : Value} {bs : List Nat} {p : Nat} {bad : Bool} (h : Rh w g s bs p bad) :
    Rh (((w.setCell ⟨g, 0, none⟩ (.slice none 0 0)).setCell ⟨g, 1, none⟩ (.int .i64 0)).setCell ⟨g, 2, none⟩ (.bool true)) g (.slice none 0 0) [] 0 true ∧
    Only w (((w.setCell ⟨g, 0, none⟩ (.slice none 0 0)).setCell ⟨g, 1, none⟩ (.int .i64 0)).setCell ⟨g, 2, none⟩ (.bool true)) g := by
  refine ⟨⟨by simpa using h.lt, ?_, ?_, ?_, by simpa using h.z0, by simpa using h.z1, by simpa using h.z2, by simp [Value.ownBlock], 0, World.ownsRow_nil _ _ _ _⟩, ⟨rfl, rfl, rfl, by simp, fun k hk hg => ?_⟩⟩
  · rw [cell_other (by simp), cell_other (by simp), cell_same h.c0]
  · rw [cell_other (by simp), cell_same (u := .int .i64 (p : Nat)) (by rw [cell_other (by simp)]; exact h.c1)]
    rfl
  · rw [cell_same (u := .bool bad) (by rw [cell_other (by simp), cell_other (by simp)]; exact h.c2)]
  · rw [heap_setCell_other _ _ _ _ (by simpa using hg), heap_setCell_other _ _ _ _ (by simpa using hg), heap_setCell_other _ _ _ _ (by simpa using hg)]

set_option maxRecDepth 100000 in
theorem get_bad (w : World) (g : Nat) (s : Value) (bs : List Nat) (p : Nat) (h : Rh w g s bs p true) (n : Int) :
    Calls Try.prog 40 #[.pointer (some ⟨g, 0, none⟩), .int .i64 n] w fun e w' => e = .returned (.int .u64 0) ∧ w' = w := by
  have H := Lib.hid h
  clear h
  go_enter Try.func40, Try.ntmps40
  go_wp2_with (go_at_call 41; refine (bad20 _ _ _ _ _ _ H.out).mono ?_; rintro e w2 ⟨rfl, rfl⟩)
  go_ret
  exact ⟨rfl, rfl⟩

set_option maxRecDepth 100000 in
theorem get_none (w : World) (g : Nat) (s : Value) (bs : List Nat) (p : Nat) (h : Rh w g s bs p false) (n : Int) (hn : n < 1 ∨ 64 < n) :
    Calls Try.prog 40 #[.pointer (some ⟨g, 0, none⟩), .int .i64 n] w fun e w' => e = .returned (.int .u64 0) ∧ w' = w := by
  have H := Lib.hid h
  clear h
  by_cases h1 : n < 1
  · go_enter Try.func40, Try.ntmps40
    go_wp2_with (go_at_call 41; refine (bad20 _ _ _ _ _ _ H.out).mono ?_; rintro e w2 ⟨rfl, rfl⟩)
    go_ret
    exact ⟨rfl, rfl⟩
  · have h2 : 64 < n := by omega
    clear hn
    go_enter Try.func40, Try.ntmps40
    go_wp2_with (go_at_call 41; refine (bad20 _ _ _ _ _ _ H.out).mono ?_; rintro e w2 ⟨rfl, rfl⟩)
    go_ret
    exact ⟨rfl, rfl⟩

set_option maxRecDepth 100000 in
theorem get_few (w : World) (g : Nat) (s : Value) (bs : List Nat) (p : Nat) (h : Rh w g s bs p false) (n : Int) (h1 : 1 ≤ n) (h2 : n ≤ 64) (hp : p ≤ 8 * bs.length) (hb : bs.length ≤ 140737488353272) (hn : ((8 * bs.length - p : Nat) : Int) < n) :
    Calls Try.prog 40 #[.pointer (some ⟨g, 0, none⟩), .int .i64 n] w fun e w' => e = .returned (.int .u64 0) ∧ Rh w' g (.slice none 0 0) [] 0 true ∧ Only w w' g := by
  obtain ⟨a, c, rfl⟩ := h.forms
  have H := Lib.hid h
  have c0 := h.c0
  have c1 := h.c1
  have c2 := h.c2
  have z0 := h.z0
  have z1 := h.z1
  have z2 := h.z2
  have glt := h.lt
  have HL := Lib.hid (left21 w g _ bs p false h hp hb)
  obtain ⟨L, hL⟩ : ∃ L, L = 8 * bs.length - p := ⟨_, rfl⟩
  rw [← hL] at hn HL
  obtain ⟨len, hlen⟩ : ∃ len, len = bs.length := ⟨_, rfl⟩
  rw [← hlen] at c0 H
  clear h hL hlen
  go_enter Try.func40, Try.ntmps40
  go_wp2_with (first
    | (go_at_call 41; refine (bad20 _ _ _ _ _ _ H.out).mono ?_; rintro e w2 ⟨rfl, rfl⟩)
    | (go_at_call 38; refine HL.out.mono ?_; rintro e w3 ⟨rfl, q3, rfl⟩))
  go_ret
  have A := few_hold (H.out.drewN q3)
  exact ⟨rfl, A.1, ((Only.refl _ _).drewN _).trans A.2⟩

set_option maxRecDepth 100000 in
theorem get_step {β : Nat → Bool} {bs : List Nat} (h : Has bs β) {p m t : Nat} (hj : (p + m) / 8 < bs.length) (ht1 : 1 ≤ t) (ht : (p + m) % 8 + t ≤ 8) (hm : m + t ≤ 64) :
    bits .or .u64 (IntKind.u64.wrap ((num β p m : Nat) * 2 ^ t)) (IntKind.u64.wrap ((bs.getD ((p + m) / 8) 0 : Nat) * 2 ^ ((p + m) % 8) % 256 / 2 ^ (8 - t))) = ((num β p (m + t) : Nat) : Int) := by
  have hY := byte_num h hj ht ht1
  rw [show 8 * ((p + m) / 8) + (p + m) % 8 = p + m from by omega] at hY
  have hYl := num_lt β (p + m) t
  have hN := num_lt β p m
  have hNt : num β p m * 2 ^ t < 18446744073709551616 := by
    have h1 : num β p m * 2 ^ t < 2 ^ m * 2 ^ t := Nat.mul_lt_mul_of_pos_right hN (Nat.pow_pos (by decide))
    rw [← Nat.pow_add] at h1
    have h2 : 2 ^ (m + t) ≤ 2 ^ 64 := Nat.pow_le_pow_right (by decide) hm
    omega
  have hYt : num β (p + m) t < 18446744073709551616 := by
    have h2 : 2 ^ t ≤ 2 ^ 64 := Nat.pow_le_pow_right (by decide) (by omega)
    omega
  have e1 : ((num β p m : Nat) : Int) * 2 ^ t = ((num β p m * 2 ^ t : Nat) : Int) := by push_cast; rfl
  have e2 : ((bs.getD ((p + m) / 8) 0 : Nat) : Int) * 2 ^ ((p + m) % 8) % 256 / 2 ^ (8 - t) = ((num β (p + m) t : Nat) : Int) := by rw [← hY]; push_cast; rfl
  rw [e1, e2, IntKind.wrap_u64, IntKind.wrap_u64, show ((num β p m * 2 ^ t : Nat) : Int) % 18446744073709551616 = ((num β p m * 2 ^ t : Nat) : Int) from by omega,
    show ((num β (p + m) t : Nat) : Int) % 18446744073709551616 = ((num β (p + m) t : Nat) : Int) from by omega, u64_or_nat _ _ hNt hYt, nat_join t _ _ (Nat.mul_mod_left _ _) hYl, num_add]

set_option maxRecDepth 100000 in
set_option maxHeartbeats 4000000 in
theorem get_ok (w : World) (g : Nat) (s : Value) (bs : List Nat) (p n : Nat) (β : Nat → Bool) (h : Rh w g s bs p false) (hH : Has bs β) (h1 : 1 ≤ n) (h2 : n ≤ 64) (hp : p + n ≤ 8 * bs.length) (hb : bs.length ≤ 140737488353272) :
    Calls Try.prog 40 #[.pointer (some ⟨g, 0, none⟩), .int .i64 (n : Nat)] w fun e w' => e = .returned (.int .u64 (num β p n : Nat)) ∧ Rh w' g s bs (p + n) false ∧ Only w w' g := by
  obtain ⟨a, c, rfl⟩ := h.forms
  have H := Lib.hid h
  have HL := Lib.hid (left21 w g _ bs p false h (by omega) hb)
  have HH := Lib.hid hH
  obtain ⟨L, hL⟩ : ∃ L, L = 8 * bs.length - p := ⟨_, rfl⟩
  have hnL : n ≤ L := by omega
  rw [← hL] at HL
  obtain ⟨len, hlen⟩ : ∃ len, len = bs.length := ⟨_, rfl⟩
  rw [← hlen] at hb hp H ⊢
  have HLEN := Lib.hid hlen
  clear h hH hL hlen
  go_enter Try.func40, Try.ntmps40
  go_wp2_with (first
    | (go_at_call 41; refine (bad20 _ _ _ _ _ _ H.out).mono ?_; rintro e w2 ⟨rfl, rfl⟩)
    | (go_at_call 38; refine HL.out.mono ?_; rintro e w3 ⟨rfl, q3, rfl⟩))
  go_loopw [1, 5] (fun x v wr => ∃ r, r ≤ n ∧ x = .int .i64 (r : Nat) ∧ v = .int .u64 (num β p (n - r) : Nat) ∧ Rh wr g (.slice a len c) bs (p + (n - r)) false ∧ Only w2 wr g) (fun x _ _ => (intOf x).toNat)
  case atStart => exact ⟨n, Nat.le_refl _, rfl, by rw [Nat.sub_self]; rfl, by rw [Nat.sub_self]; exact H.out.drewN _, (Only.refl _ _).drewN _⟩
  case round =>
    obtain ⟨r, hr, rfl, rfl, hR, hO⟩ := hrel
    by_cases hr0 : 0 < r
    · have c0 := hR.c0
      have c1 := hR.c1
      have z1 := hR.z1
      have hN := num_lt β p (n - r)
      obtain ⟨N, hNe⟩ : ∃ N, N = num β p (n - r) := ⟨_, rfl⟩
      obtain ⟨P, hPe⟩ : ∃ P, P = p + (n - r) := ⟨_, rfl⟩
      rw [← hNe] at hN ⊢
      rw [← hPe] at c1 hR
      have hPn : P + r ≤ 8 * len := by omega
      have hj : P / 8 < len := by omega
      obtain ⟨B, ho⟩ := hR.own
      obtain ⟨q, c', e'⟩ := Go.Joins.ownsRow_form ho (by rw [← HLEN.out]; omega)
      have e1 : wr.cell? ⟨q, P / 8, none⟩ = some (.int .u8 (bs.getD (P / 8) 0 : Nat)) := by
        rw [e'] at ho
        rw [ho.cellAt (P / 8) (by rw [← HLEN.out]; omega)]
        exact u8s_get bs _ (by rw [← HLEN.out]; exact hj)
      simp only [Value.slice.injEq] at e'
      obtain ⟨rfl, -, rfl⟩ := e'
      have hX := getD_lt HH.out.1 (P / 8)
      obtain ⟨X, hXe⟩ : ∃ X, X = bs.getD (P / 8) 0 := ⟨_, rfl⟩
      rw [← hXe] at e1 hX
      have HX := Lib.hid hXe
      have HR := Lib.hid hR
      have HPE := Lib.hid hPe
      have HNE := Lib.hid hNe
      have HN := Lib.hid hN
      clear hR hPe hNe hXe ho hN
      obtain ⟨T, hT, hT1, hT2, hT3⟩ : ∃ T : Nat, (if 8 - (P : Int) % 8 < (r : Int) then 8 - (P : Int) % 8 else (r : Int)) = (T : Int) ∧ 1 ≤ T ∧ T ≤ r ∧ P % 8 + T ≤ 8 := by
        by_cases hlt : 8 - (P : Int) % 8 < (r : Int)
        · exact ⟨8 - P % 8, by rw [if_pos hlt]; omega, by omega, by omega, by omega⟩
        · exact ⟨r, by rw [if_neg hlt], by omega, by omega, by omega⟩
      go_upto_region 10 with (fail)
      clear hT
      have hi1 : (P : Int) / 8 < (len : Int) := by omega
      have hi0 : (0 : Int) ≤ (P : Int) / 8 := by omega
      have hi2 : ((P : Int) / 8).toNat = P / 8 := by omega
      have hi3 : (0 : Int) ≤ 8 - (T : Int) := by omega
      have hi4 : (8 - (T : Int)).toNat = 8 - T := by omega
      have hi5 : ((P : Int) % 8).toNat = P % 8 := by omega
      have hi6 : (0 : Int) ≤ (P : Int) % 8 := by omega
      go_quiet (fail)
      go_upto_region 12 with (fail)
      have hv : bits .or .u64 (IntKind.u64.wrap ((N : Int) * 2 ^ T)) (IntKind.u64.wrap ((X : Int) * 2 ^ (P % 8) % 256 / 2 ^ (8 - T))) = ((num β p (n - (r - T)) : Nat) : Int) := by
        rw [HX.out, HPE.out, HNE.out, get_step HH.out (by rw [← HPE.out, ← HLEN.out]; exact hj) hT1 (by rw [← HPE.out]; exact hT3) (by omega), show n - r + T = n - (r - T) from by omega]
      rw [hv]
      obtain ⟨a1, a2⟩ := only_hold (HR.out.drewN nq) (P + T)
      have A1 := Lib.hid a1
      have A2 := Lib.hid a2
      clear a1 a2 hv
      go_wp2_with fail
      go_roundw
      case rel =>
        refine ⟨r - T, by omega, by congr 1; omega, rfl, ?_, ?_⟩
        · rw [show p + (n - (r - T)) = P + T from by rw [HPE.out]; omega]
          exact A1.out
        · exact (hO.drewN nq).trans A2.out
      case measure => simp [intOf]; omega
    · obtain rfl : r = 0 := by omega
      have HR := Lib.hid hR
      clear hR
      go_wp2_with fail
      go_ret
      exact ⟨rfl, HR.out, hO⟩

end Rd
end Go.Proofs.Ytmlbmiegfeadjaa
