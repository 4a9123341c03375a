import Derived.Test.YtjmddomkoholoaaGreatDoorG07
import Derived.Deep.RegionHeld3
import Derived.Test.YtjmddomkoholoaaGreatDoorG08
import Derived.Test.YtjmddomkoholoaaGreatDoorG05

/- The reader: what it holds, and what Get, Left and Bad do to it. -/
namespace Go.Proofs.YtjmddomkoholoaaGreatDoor
open Go.RowKit
namespace Rd
open Bm Wr

/-- The reader at block g: its bytes, how many bits were read, whether it is bad. -/
structure Rh (w : World) (g : Nat) (s : Value) (bs : List Nat) (p : Nat) (bad : Bool) : Prop where
  lt : g < w.heap.size
  c0 : w.cell? ⟨g, 0, none⟩ = some s
  c1 : w.cell? ⟨g, 1, none⟩ = some (.int .i64 (p : Nat))
  c2 : w.cell? ⟨g, 2, none⟩ = some (.bool bad)
  z0 : w.frozen? ⟨g, 0, none⟩ = false
  z1 : w.frozen? ⟨g, 1, none⟩ = false
  z2 : w.frozen? ⟨g, 2, none⟩ = false
  ne : s.ownBlock ≠ some g
  own : ∃ B, w.ownsRow B 5 1 s bs.length (u8s bs)
theorem Rh.drewN {w : World} {g : Nat} {s : Value} {bs : List Nat} {p : Nat} {bad : Bool} (h : Rh w g s bs p bad) (n : Nat) : Rh (w.drewN n) g s bs p bad := ⟨h.lt, h.c0, h.c1, h.c2, h.z0, h.z1, h.z2, h.ne, h.own⟩
theorem Rh.forms {w : World} {g : Nat} {s : Value} {bs : List Nat} {p : Nat} {bad : Bool} (h : Rh w g s bs p bad) : ∃ a c, s = .slice a bs.length c := by
  obtain ⟨B, ho⟩ := h.own
  rcases Go.Joins.ownsRow_forms ho with ⟨rfl, h0⟩ | ⟨q, c, rfl⟩
  · exact ⟨none, 0, by rw [h0]⟩
  · exact ⟨_, _, rfl⟩

/-- Only block g has turned; blocks may have come. -/
structure Only (w w' : World) (g : Nat) : Prop where
  os : w'.os = w.os
  tape : w'.tape = w.tape
  output : w'.output = w.output
  size : w.heap.size ≤ w'.heap.size
  block : ∀ k, k < w.heap.size → k ≠ g → w'.heap[k]? = w.heap[k]?
theorem Only.refl (w : World) (g : Nat) : Only w w g := ⟨rfl, rfl, rfl, Nat.le_refl _, fun _ _ _ => rfl⟩
theorem Only.trans {a b c : World} {g : Nat} (h : Only a b g) (k : Only b c g) : Only a c g :=
  ⟨k.os.trans h.os, k.tape.trans h.tape, k.output.trans h.output, Nat.le_trans h.size k.size, fun i hi hg => (k.block i (Nat.lt_of_lt_of_le hi h.size) hg).trans (h.block i hi hg)⟩
theorem Only.drewN {a b : World} {g : Nat} (h : Only a b g) (n : Nat) : Only a (b.drewN n) g := ⟨h.os, h.tape, h.output, h.size, h.block⟩
theorem Only.below {a b : World} {g B : Nat} (h : Only a b g) (hB : B ≤ g) (hs : B ≤ a.heap.size) : Below B a b :=
  ⟨h.os, h.tape, h.output, h.size, fun k hk => h.block k (by omega) (by omega)⟩

set_option maxRecDepth 100000 in
theorem bad20 (w : World) (g : Nat) (s : Value) (bs : List Nat) (p : Nat) (bad : Bool) (h : Rh w g s bs p bad) :
    Calls Tryz.prog 109 #[.pointer (some ⟨g, 0, none⟩)] w fun e w' => e = .returned (.bool bad) ∧ w' = w := by
  have c2 := h.c2
  clear h
  go_enter Tryz.func109, Tryz.ntmps109
  go_wp2_with fail
  go_ret
  exact ⟨rfl, rfl⟩

set_option maxRecDepth 100000 in
theorem left21 (w : World) (g : Nat) (s : Value) (bs : List Nat) (p : Nat) (bad : Bool) (h : Rh w g s bs p bad) (hp : p ≤ 8 * bs.length) (hb : bs.length ≤ 140737488353272) :
    Calls Tryz.prog 110 #[.pointer (some ⟨g, 0, none⟩)] w fun e w' => e = .returned (.int .i64 ((8 * bs.length - p : Nat) : Int)) ∧ ∃ n, w' = w.drewN n := by
  obtain ⟨a, c, rfl⟩ := h.forms
  obtain ⟨n, hn⟩ : ∃ n, n = bs.length := ⟨_, rfl⟩
  have hc0 := h.c0
  have hc1 := h.c1
  rw [← hn] at hp hb hc0 ⊢
  clear h hn
  go_enter Tryz.func110, Tryz.ntmps110
  go_wp2_with fail
  go_quiet (fail)
  go_wp2
  go_ret
  exact ⟨ret_int (by omega), _, rfl⟩

theorem slice_of {w : World} {B n : Nat} {v : Value} {xs : List Value} (ho : w.ownsRow B 5 1 v n xs) : ∃ a c, v = .slice a n c := by
  rcases Go.Joins.ownsRow_forms ho with ⟨rfl, h0⟩ | ⟨q, c, rfl⟩
  · exact ⟨none, 0, by rw [h0]⟩
  · exact ⟨_, _, rfl⟩

set_option maxRecDepth 100000 in
theorem new16 (w : World) (s : Value) (bs : List Nat) (h : Is w s bs) (hb : bs.length ≤ 140737488353272) :
    Calls Tryz.prog 56 #[s] w fun e w' => ∃ g v, e = .returned (.pointer (some ⟨g, 0, none⟩)) ∧ Rh w' g v bs 0 false ∧ w.heap.size ≤ g ∧ (∀ k, v.ownBlock = some k → w.heap.size ≤ k) ∧ Below w.heap.size w w' := by
  have H := Lib.hid h
  clear h
  go_enter Tryz.func56, Tryz.ntmps56
  go_wp2_with (go_at_call 108; refine (clone30 _ _ _ H.out hb).mono ?_; rintro e w2 ⟨v, rfl, ho, bl⟩; obtain ⟨a, c, rfl⟩ := slice_of ho; have HO := Lib.hid ho; clear ho)
  go_ret
  have hsz := bl.size
  refine ⟨_, _, rfl, ⟨by simp, ?_, ?_, ?_, ?_, ?_, ?_, fun e => by have := HO.out.lt _ e; omega, _, HO.out.alloc _⟩, hsz, fun k e => (HO.out.lt k e).1, bl.alloc hsz _⟩
  all_goals first | (rw [cell_of_row _ _ _ _ _ _ (heap_alloc_new _ _)]; rfl) | exact frozen_of_row _ _ _ _ _ (heap_alloc_new _ _)
end Rd
end Go.Proofs.YtjmddomkoholoaaGreatDoor

/- The reader: the walk of Get. -/
namespace Go.Proofs.YtjmddomkoholoaaGreatDoor
open Go.RowKit
namespace Rd
open Bm Wr

theorem only_hold {w : World} {g : Nat} {s : Value} {bs : List Nat} {p : Nat} {bad : Bool} (h : Rh w g s bs p bad) (p' : Nat) :
    Rh (w.setCell ⟨g, 1, none⟩ (.int .i64 (p' : Nat))) g s bs p' bad ∧ Only w (w.setCell ⟨g, 1, none⟩ (.int .i64 (p' : Nat))) g := by
  obtain ⟨B, ho⟩ := h.own
  refine ⟨⟨by simpa using h.lt, by rw [cell_other (by simp)]; exact h.c0, by rw [cell_same h.c1], by rw [cell_other (by simp)]; exact h.c2, by simpa using h.z0, by simpa using h.z1, by simpa using h.z2, h.ne, B, ?_⟩,
    ⟨rfl, rfl, rfl, by simp, fun k hk hg => heap_setCell_other _ _ _ _ (by simpa using hg)⟩⟩
  exact ho.kept (row := some g) ⟨rfl, rfl, rfl, by simp, fun k hk hg => heap_setCell_other _ _ _ _ (by simpa using hg)⟩ (.inr h.ne)

theorem few_hold {w : World} {g : Nat} {s : Value} {bs : List Nat} {p : Nat} {bad : Bool} (h : Rh w g s bs p bad) :
    Rh (((w.setCell ⟨g, 0, none⟩ (.slice none 0 0)).setCell ⟨g, 1, none⟩ (.int .i64 0)).setCell ⟨g, 2, none⟩ (.bool true)) g (.slice none 0 0) [] 0 true ∧
    Only w (((w.setCell ⟨g, 0, none⟩ (.slice none 0 0)).setCell ⟨g, 1, none⟩ (.int .i64 0)).setCell ⟨g, 2, none⟩ (.bool true)) g := by
  refine ⟨⟨by simpa using h.lt, ?_, ?_, ?_, by simpa using h.z0, by simpa using h.z1, by simpa using h.z2, by simp [Value.ownBlock], 0, World.ownsRow_nil _ _ _ _⟩, ⟨rfl, rfl, rfl, by simp, fun k hk hg => ?_⟩⟩
  · rw [cell_other (by simp), cell_other (by simp), cell_same h.c0]
  · rw [cell_other (by simp), cell_same (u := .int .i64 (p : Nat)) (by rw [cell_other (by simp)]; exact h.c1)]
    rfl
  · rw [cell_same (u := .bool bad) (by rw [cell_other (by simp), cell_other (by simp)]; exact h.c2)]
  · rw [heap_setCell_other _ _ _ _ (by simpa using hg), heap_setCell_other _ _ _ _ (by simpa using hg), heap_setCell_other _ _ _ _ (by simpa using hg)]

set_option maxRecDepth 100000 in
theorem get_bad (w : World) (g : Nat) (s : Value) (bs : List Nat) (p : Nat) (h : Rh w g s bs p true) (n : Int) :
    Calls Tryz.prog 57 #[.pointer (some ⟨g, 0, none⟩), .int .i64 n] w fun e w' => e = .returned (.int .u64 0) ∧ w' = w := by
  have H := Lib.hid h
  clear h
  go_enter Tryz.func57, Tryz.ntmps57
  go_wp2_with (go_at_call 109; refine (bad20 _ _ _ _ _ _ H.out).mono ?_; rintro e w2 ⟨rfl, rfl⟩)
  go_ret
  exact ⟨rfl, rfl⟩

set_option maxRecDepth 100000 in
theorem get_none (w : World) (g : Nat) (s : Value) (bs : List Nat) (p : Nat) (h : Rh w g s bs p false) (n : Int) (hn : n < 1 ∨ 64 < n) :
    Calls Tryz.prog 57 #[.pointer (some ⟨g, 0, none⟩), .int .i64 n] w fun e w' => e = .returned (.int .u64 0) ∧ w' = w := by
  have H := Lib.hid h
  clear h
  by_cases h1 : n < 1
  · go_enter Tryz.func57, Tryz.ntmps57
    go_wp2_with (go_at_call 109; refine (bad20 _ _ _ _ _ _ H.out).mono ?_; rintro e w2 ⟨rfl, rfl⟩)
    go_ret
    exact ⟨rfl, rfl⟩
  · have h2 : 64 < n := by omega
    clear hn
    go_enter Tryz.func57, Tryz.ntmps57
    go_wp2_with (go_at_call 109; refine (bad20 _ _ _ _ _ _ H.out).mono ?_; rintro e w2 ⟨rfl, rfl⟩)
    go_ret
    exact ⟨rfl, rfl⟩

set_option maxRecDepth 100000 in
theorem get_few (w : World) (g : Nat) (s : Value) (bs : List Nat) (p : Nat) (h : Rh w g s bs p false) (n : Int) (h1 : 1 ≤ n) (h2 : n ≤ 64) (hp : p ≤ 8 * bs.length) (hb : bs.length ≤ 140737488353272) (hn : ((8 * bs.length - p : Nat) : Int) < n) :
    Calls Tryz.prog 57 #[.pointer (some ⟨g, 0, none⟩), .int .i64 n] w fun e w' => e = .returned (.int .u64 0) ∧ Rh w' g (.slice none 0 0) [] 0 true ∧ Only w w' g := by
  obtain ⟨a, c, rfl⟩ := h.forms
  have H := Lib.hid h
  have c0 := h.c0
  have c1 := h.c1
  have c2 := h.c2
  have z0 := h.z0
  have z1 := h.z1
  have z2 := h.z2
  have glt := h.lt
  have HL := Lib.hid (left21 w g _ bs p false h hp hb)
  obtain ⟨L, hL⟩ : ∃ L, L = 8 * bs.length - p := ⟨_, rfl⟩
  rw [← hL] at hn HL
  obtain ⟨len, hlen⟩ : ∃ len, len = bs.length := ⟨_, rfl⟩
  rw [← hlen] at c0 H
  clear h hL hlen
  go_enter Tryz.func57, Tryz.ntmps57
  go_wp2_with (first
    | (go_at_call 109; refine (bad20 _ _ _ _ _ _ H.out).mono ?_; rintro e w2 ⟨rfl, rfl⟩)
    | (go_at_call 110; refine HL.out.mono ?_; rintro e w3 ⟨rfl, q3, rfl⟩))
  go_ret
  have A := few_hold (H.out.drewN q3)
  exact ⟨rfl, A.1, ((Only.refl _ _).drewN _).trans A.2⟩

set_option maxRecDepth 100000 in
theorem get_step {β : Nat → Bool} {bs : List Nat} (h : Has bs β) {p m t : Nat} (hj : (p + m) / 8 < bs.length) (ht1 : 1 ≤ t) (ht : (p + m) % 8 + t ≤ 8) (hm : m + t ≤ 64) :
    bits .or .u64 (IntKind.u64.wrap ((num β p m : Nat) * 2 ^ t)) (IntKind.u64.wrap ((bs.getD ((p + m) / 8) 0 : Nat) * 2 ^ ((p + m) % 8) % 256 / 2 ^ (8 - t))) = ((num β p (m + t) : Nat) : Int) := by
  have hY := byte_num h hj ht ht1
  rw [show 8 * ((p + m) / 8) + (p + m) % 8 = p + m from by omega] at hY
  have hYl := num_lt β (p + m) t
  have hN := num_lt β p m
  have hNt : num β p m * 2 ^ t < 18446744073709551616 := by
    have h1 : num β p m * 2 ^ t < 2 ^ m * 2 ^ t := Nat.mul_lt_mul_of_pos_right hN (Nat.pow_pos (by decide))
    rw [← Nat.pow_add] at h1
    have h2 : 2 ^ (m + t) ≤ 2 ^ 64 := Nat.pow_le_pow_right (by decide) hm
    omega
  have hYt : num β (p + m) t < 18446744073709551616 := by
    have h2 : 2 ^ t ≤ 2 ^ 64 := Nat.pow_le_pow_right (by decide) (by omega)
    omega
  have e1 : ((num β p m : Nat) : Int) * 2 ^ t = ((num β p m * 2 ^ t : Nat) : Int) := by push_cast; rfl
  have e2 : ((bs.getD ((p + m) / 8) 0 : Nat) : Int) * 2 ^ ((p + m) % 8) % 256 / 2 ^ (8 - t) = ((num β (p + m) t : Nat) : Int) := by rw [← hY]; push_cast; rfl
  rw [e1, e2, IntKind.wrap_u64, IntKind.wrap_u64, show ((num β p m * 2 ^ t : Nat) : Int) % 18446744073709551616 = ((num β p m * 2 ^ t : Nat) : Int) from by omega,
    show ((num β (p + m) t : Nat) : Int) % 18446744073709551616 = ((num β (p + m) t : Nat) : Int) from by omega, u64_or_nat _ _ hNt hYt, nat_join t _ _ (Nat.mul_mod_left _ _) hYl, num_add]

set_option maxRecDepth 100000 in
set_option maxHeartbeats 4000000 in
theorem get_ok (w : World) (g : Nat) (s : Value) (bs : List Nat) (p n : Nat) (β : Nat → Bool) (h : Rh w g s bs p false) (hH : Has bs β) (h1 : 1 ≤ n) (h2 : n ≤ 64) (hp : p + n ≤ 8 * bs.length) (hb : bs.length ≤ 140737488353272) :
    Calls Tryz.prog 57 #[.pointer (some ⟨g, 0, none⟩), .int .i64 (n : Nat)] w fun e w' => e = .returned (.int .u64 (num β p n : Nat)) ∧ Rh w' g s bs (p + n) false ∧ Only w w' g := by
  obtain ⟨a, c, rfl⟩ := h.forms
  have H := Lib.hid h
  have HL := Lib.hid (left21 w g _ bs p false h (by omega) hb)
  have HH := Lib.hid hH
  obtain ⟨L, hL⟩ : ∃ L, L = 8 * bs.length - p := ⟨_, rfl⟩
  have hnL : n ≤ L := by omega
  rw [← hL] at HL
  obtain ⟨len, hlen⟩ : ∃ len, len = bs.length := ⟨_, rfl⟩
  rw [← hlen] at hb hp H ⊢
  have HLEN := Lib.hid hlen
  clear h hH hL hlen
  go_enter Tryz.func57, Tryz.ntmps57
  go_wp2_with (first
    | (go_at_call 109; refine (bad20 _ _ _ _ _ _ H.out).mono ?_; rintro e w2 ⟨rfl, rfl⟩)
    | (go_at_call 110; refine HL.out.mono ?_; rintro e w3 ⟨rfl, q3, rfl⟩))
  go_loopw [1, 5] (fun x v wr => ∃ r, r ≤ n ∧ x = .int .i64 (r : Nat) ∧ v = .int .u64 (num β p (n - r) : Nat) ∧ Rh wr g (.slice a len c) bs (p + (n - r)) false ∧ Only w2 wr g) (fun x _ _ => (intOf x).toNat)
  case atStart => exact ⟨n, Nat.le_refl _, rfl, by rw [Nat.sub_self]; rfl, by rw [Nat.sub_self]; exact H.out.drewN _, (Only.refl _ _).drewN _⟩
  case round =>
    obtain ⟨r, hr, rfl, rfl, hR, hO⟩ := hrel
    by_cases hr0 : 0 < r
    · have c0 := hR.c0
      have c1 := hR.c1
      have z1 := hR.z1
      have hN := num_lt β p (n - r)
      obtain ⟨N, hNe⟩ : ∃ N, N = num β p (n - r) := ⟨_, rfl⟩
      obtain ⟨P, hPe⟩ : ∃ P, P = p + (n - r) := ⟨_, rfl⟩
      rw [← hNe] at hN ⊢
      rw [← hPe] at c1 hR
      have hPn : P + r ≤ 8 * len := by omega
      have hj : P / 8 < len := by omega
      obtain ⟨B, ho⟩ := hR.own
      obtain ⟨q, c', e'⟩ := Go.Joins.ownsRow_form ho (by rw [← HLEN.out]; omega)
      have e1 : wr.cell? ⟨q, P / 8, none⟩ = some (.int .u8 (bs.getD (P / 8) 0 : Nat)) := by
        rw [e'] at ho
        rw [ho.cellAt (P / 8) (by rw [← HLEN.out]; omega)]
        exact u8s_get bs _ (by rw [← HLEN.out]; exact hj)
      simp only [Value.slice.injEq] at e'
      obtain ⟨rfl, -, rfl⟩ := e'
      have hX := getD_lt HH.out.1 (P / 8)
      obtain ⟨X, hXe⟩ : ∃ X, X = bs.getD (P / 8) 0 := ⟨_, rfl⟩
      rw [← hXe] at e1 hX
      have HX := Lib.hid hXe
      have HR := Lib.hid hR
      have HPE := Lib.hid hPe
      have HNE := Lib.hid hNe
      have HN := Lib.hid hN
      clear hR hPe hNe hXe ho hN
      obtain ⟨T, hT, hT1, hT2, hT3⟩ : ∃ T : Nat, (if 8 - (P : Int) % 8 < (r : Int) then 8 - (P : Int) % 8 else (r : Int)) = (T : Int) ∧ 1 ≤ T ∧ T ≤ r ∧ P % 8 + T ≤ 8 := by
        by_cases hlt : 8 - (P : Int) % 8 < (r : Int)
        · exact ⟨8 - P % 8, by rw [if_pos hlt]; omega, by omega, by omega, by omega⟩
        · exact ⟨r, by rw [if_neg hlt], by omega, by omega, by omega⟩
      go_upto_region 10 with (fail)
      clear hT
      have hi1 : (P : Int) / 8 < (len : Int) := by omega
      have hi0 : (0 : Int) ≤ (P : Int) / 8 := by omega
      have hi2 : ((P : Int) / 8).toNat = P / 8 := by omega
      have hi3 : (0 : Int) ≤ 8 - (T : Int) := by omega
      have hi4 : (8 - (T : Int)).toNat = 8 - T := by omega
      have hi5 : ((P : Int) % 8).toNat = P % 8 := by omega
      have hi6 : (0 : Int) ≤ (P : Int) % 8 := by omega
      go_quiet (fail)
      go_upto_region 12 with (fail)
      have hv : bits .or .u64 (IntKind.u64.wrap ((N : Int) * 2 ^ T)) (IntKind.u64.wrap ((X : Int) * 2 ^ (P % 8) % 256 / 2 ^ (8 - T))) = ((num β p (n - (r - T)) : Nat) : Int) := by
        rw [HX.out, HPE.out, HNE.out, get_step HH.out (by rw [← HPE.out, ← HLEN.out]; exact hj) hT1 (by rw [← HPE.out]; exact hT3) (by omega), show n - r + T = n - (r - T) from by omega]
      rw [hv]
      obtain ⟨a1, a2⟩ := only_hold (HR.out.drewN nq) (P + T)
      have A1 := Lib.hid a1
      have A2 := Lib.hid a2
      clear a1 a2 hv
      go_wp2_with fail
      go_roundw
      case rel =>
        refine ⟨r - T, by omega, by congr 1; omega, rfl, ?_, ?_⟩
        · rw [show p + (n - (r - T)) = P + T from by rw [HPE.out]; omega]
          exact A1.out
        · exact (hO.drewN nq).trans A2.out
      case measure => simp [intOf]; omega
    · obtain rfl : r = 0 := by omega
      have HR := Lib.hid hR
      clear hR
      go_wp2_with fail
      go_ret
      exact ⟨rfl, HR.out, hO⟩

end Rd
end Go.Proofs.YtjmddomkoholoaaGreatDoor

/- The document's side: Pack. -/
namespace Go.Proofs.YtjmddomkoholoaaGreatDoor
open Go.RowKit
namespace Rp
open Mt Wr Bm Pk

theorem own_below {w w' : World} {B size n : Nat} {e : TypeId} {s : Value} {xs : List Value} (h : w.ownsRow B e size s n xs) (b : Below w.heap.size w w') : w'.ownsRow B e size s n xs :=
  h.kept (row := none) ⟨b.os, b.tape, b.output, b.size, fun k hk _ => b.block k hk⟩ (by
    by_cases e : s.ownBlock = none
    · exact .inl e
    · exact .inr e)
theorem word_or {s u k : Nat} {l : List Nat} (h : ∀ i, i < k + 1 → l.getD i 0 < 2 ^ u) (hk : k * u + u ≤ 60) :
    (s * 2 ^ 60 + laid u l k) ||| (l.getD k 0 * 2 ^ (k * u)) = s * 2 ^ 60 + laid u l (k + 1) ∧ l.getD k 0 * 2 ^ (k * u) < 2 ^ 60 := by
  have h1 : laid u l k < 2 ^ 60 := Nat.lt_of_lt_of_le (laid_lt k (fun i hi => h i (by omega))) (Nat.pow_le_pow_right (by decide) (by omega))
  have h2 : laid u l (k + 1) < 2 ^ 60 := Nat.lt_of_lt_of_le (laid_lt (k + 1) h) (Nat.pow_le_pow_right (by decide) (by rw [Nat.add_mul]; omega))
  refine ⟨?_, ?_⟩
  · rw [Nat.mul_comm s, Nat.two_pow_add_eq_or_of_lt h1, Nat.or_assoc, laid_or k (fun i hi => h i (by omega)), ← Nat.two_pow_add_eq_or_of_lt h2]
  · have h5 : l.getD k 0 * 2 ^ (k * u) < 2 ^ u * 2 ^ (k * u) := Nat.mul_lt_mul_of_pos_right (h k (by omega)) (Nat.two_pow_pos _)
    rw [← Nat.pow_add] at h5
    exact Nat.lt_of_lt_of_le h5 (Nat.pow_le_pow_right (by decide) (by omega))

set_option maxRecDepth 100000 in
set_option maxHeartbeats 4000000 in
theorem refpack8 (w : World) (v : Value) (l : List Nat) (hI : Iu w v l) (hl : l.length ≤ 17592186044159) : Calls Tryz.prog 97 #[v] w fun e w' => Packed w l e w' := by
  obtain ⟨i0, hi, hz0, hz1, hz2⟩ := info_parts info5
  rcases hI.cases with ⟨a, c, rfl, hl0⟩ | ⟨hL0, b, off, c, rfl, hc1, hc2, hc3⟩
  · clear hI hl
    go_enter Tryz.func97, Tryz.ntmps97
    go_wp2_with (go_at_call 140; refine (widths13 _).mono ?_; rintro e w1 ⟨rfl, hT1, b1⟩)
    refine wp_loop_rounds 1 ?_
    rw [rounds_succ]
    go_wp2_with fail
    refine wp_loop_rounds 1 ?_
    rw [rounds_succ]
    go_wp2_with fail
    go_ret2
    subst hl0
    exact .inl ⟨small_nil, _, rfl, World.ownsRow_nil _ _ _ _, b1⟩
  · obtain ⟨n, hn⟩ : ∃ n, n = l.length := ⟨_, rfl⟩
    rw [← hn] at hc1 hc3 hl ⊢
    have HC := Lib.hid hc3
    have HN := Lib.hid hn
    clear hI hc3 hL0 hn
    go_enter Tryz.func97, Tryz.ntmps97
    go_wp2_with (go_at_call 140; refine (widths13 _).mono ?_; rintro e w1 ⟨rfl, hT1, b1⟩)
    obtain ⟨G, hG⟩ : ∃ G, G = w.heap.size := ⟨_, rfl⟩
    rw [← hG] at hT1 b1 ⊢
    have HG := Lib.hid hG
    have FC : Hid (∀ x, Below G w x → ∀ i, i < n → x.cell? ⟨b, off + i, none⟩ = some (.int .u64 (l.getD i 0 : Nat))) := Lib.hid fun x hb i hi => (hb.cell (by rw [hG]; exact hc2)).trans (HC.out i hi)
    clear hG
    have HT1 := Lib.hid hT1
    have B1 := Lib.hid b1
    clear hT1 b1
    go_loop [16] (fun i => ∃ k, k ≤ n ∧ i = .int .i64 (k : Nat) ∧ ∀ j, j < k → l.getD j 0 < 2 ^ 60) (fun i => n - (intOf i).toNat)
    case atStart => exact ⟨0, Nat.zero_le _, rfl, fun j hj => by omega⟩
    case round =>
      obtain ⟨k, hk, rfl, hall⟩ := hrel
      have HA := Lib.hid hall
      clear hall
      by_cases hkn : k < n
      · have e := FC.out w1 B1.out k hkn
        obtain ⟨D, hD⟩ : ∃ D, D = l.getD k 0 := ⟨_, rfl⟩
        rw [← hD] at e
        have HD := Lib.hid hD
        clear hD
        by_cases hf : D < 1152921504606846976
        · have HF := Lib.hid hf
          have hfi : ((decide ((D : Int) ≥ 1152921504606846976)) = false) := decide_eq_false (by omega)
          clear hf
          go_wp2_with fail
          go_round
          case rel =>
            refine ⟨k + 1, by omega, by go_num, fun j hj => ?_⟩
            by_cases e : j = k
            · subst e; rw [← HD.out]; exact HF.out
            · exact HA.out j (by omega)
          case measure => simp [intOf]; omega
        · have HF := Lib.hid hf
          have hfi : ((decide ((D : Int) ≥ 1152921504606846976)) = true) := decide_eq_true (by omega)
          clear hf
          go_wp2_with fail
          go_ret2
          exact .inr ⟨fun h => HF.out (by have := h.get k; rw [← HD.out] at this; exact this), rfl, by rw [← HG.out]; exact B1.out⟩
      · obtain rfl : n = k := by omega
        have HS := Lib.hid (small_of HN.out HA.out)
        clear hkn hk HA
        go_wp2_with fail
        go_loopw [7, 5] (fun at_ out wr => ∃ a ws, a ≤ n ∧ at_ = .int .i64 (a : Nat) ∧ ws.length ≤ a ∧ words l = ws ++ words (l.drop a) ∧ wr.ownsRow (G + 1) 5 1 out (8 * ws.length) (u8s (flat ws)) ∧ Below (G + 1) w1 wr) (fun at_ _ _ => n - (intOf at_).toNat)
        case atStart => exact ⟨0, [], Nat.zero_le _, rfl, Nat.le_refl _, rfl, World.ownsRow_nil _ _ _ _, Below.refl _ _⟩
        case round =>
          obtain ⟨a, ws, ha, rfl, hwa, hws, hown, hbel⟩ := hrel
          by_cases han : a < n
          · obtain ⟨wa, rfl⟩ : ∃ wa, wa = wr := ⟨_, rfl⟩
            obtain ⟨o0, rfl⟩ : ∃ o0, o0 = u5 := ⟨_, rfl⟩
            have hgsz := hbel.size
            obtain ⟨L, hL⟩ : ∃ L, L = l.drop a := ⟨_, rfl⟩
            have hLn : L.length = n - a := by rw [hL, List.length_drop, ← HN.out]
            have hSm : Small L := by rw [hL]; exact HS.out.drop a
            have FT : Hid (∀ x, Below (G + 1) w1 x → ∀ s, s < 14 → x.cell? ⟨G, s, none⟩ = some (.int .i64 (W s : Nat))) := Lib.hid fun x hb => (TabAt.below HT1.out hb (by omega)).2
            have FL : Hid (∀ x, Below (G + 1) w1 x → ∀ i, i < n - a → x.cell? ⟨b, off + (a + i), none⟩ = some (.int .u64 (L.getD i 0 : Nat))) := Lib.hid fun x hb i hi => by
              have h1 := FC.out x (B1.out.trans (hb.mono (by have := HT1.out.1; omega))) (a + i) (by omega)
              rw [h1, hL]
              simp [List.getD_eq_getElem?_getD, List.getElem?_drop]
            have HLS := Lib.hid (least_of hSm)
            have HWS : Hid (words l = ws ++ words L) := Lib.hid (by rw [hL]; exact hws)
            have HOW := Lib.hid hown
            have HBE := Lib.hid hbel
            have HSL := Lib.hid hSm
            have HL := Lib.hid hL
            have HLN := Lib.hid hLn
            clear hws hown hbel hSm hL hLn
            go_wp2_with fail
            go_loopw [31, 7, 5] (fun i at_ o wr => ∃ s, s ≤ least L ∧ i = .int .i64 (s : Nat) ∧ at_ = .int .i64 (a : Nat) ∧ o = o0 ∧ ∃ m, wr = wa.drewN m) (fun i _ _ _ => 14 - (intOf i).toNat)
            case atStart => exact ⟨0, Nat.zero_le _, rfl, rfl, rfl, 0, rfl⟩
            case round =>
              obtain ⟨s, hs, rfl, rfl, ho, hm⟩ := hrel
              obtain rfl := ho.symm
              obtain ⟨wb, rfl⟩ : ∃ wb, wb = wr := ⟨_, rfl⟩
              have hs13 : s ≤ 13 := Nat.le_trans hs HLS.out.2.1
              have HBB : Hid (Below (G + 1) w1 wb) := by obtain ⟨m, rfl⟩ := hm; exact Lib.hid (Below.drewN' HBE.out m)
              have HOB : Hid (wb.ownsRow (G + 1) 5 1 o0 (8 * ws.length) (u8s (flat ws))) := by obtain ⟨m, rfl⟩ := hm; exact Lib.hid HOW.out
              have HMA := Lib.hid hm
              have e := FT.out wb HBB.out s (by omega)
              have h1 := W_pos s
              have h2 := W_le s
              have h3 : (60 : Int) / (W s : Nat) = (cap s : Nat) := rfl
              have h4 := cap_pos s
              have h5 := cap_le s
              have h6 := cap_mul s
              have HK := Lib.hid hs
              obtain ⟨U, hU⟩ : ∃ U, U = W s := ⟨_, rfl⟩
              obtain ⟨C, hC⟩ : ∃ C, C = cap s := ⟨_, rfl⟩
              rw [← hU] at h1 h2 h3 h6 e
              rw [← hC] at h3 h4 h5 h6
              have HU := Lib.hid hU
              have HCC := Lib.hid hC
              have H6 := Lib.hid h6
              clear hs hU hC h6
              obtain ⟨N, hN, hN1, hN2, hN3⟩ : ∃ N : Nat, (if (n : Int) - (a : Int) < (C : Int) then (n : Int) - (a : Int) else (C : Int)) = (N : Int) ∧ 1 ≤ N ∧ N ≤ C ∧ N = min C (n - a) := by
                by_cases hlt : (n : Int) - (a : Int) < (C : Int)
                · exact ⟨n - a, by rw [if_pos hlt]; omega, by omega, by omega, by omega⟩
                · exact ⟨C, by rw [if_neg hlt], by omega, by omega, by omega⟩
              go_wp2_with fail
              rw [← hN3]
              have HN3 := Lib.hid hN3
              clear hN hN3
              go_loopw [48, 10, 11] (fun i x f wr => ∃ k X B, k ≤ N ∧ i = .int .i64 (k : Nat) ∧ x = .int .u64 (X : Nat) ∧ X < 18446744073709551616 ∧ f = .bool B ∧ (B = true ↔ ∀ j, j < k → L.getD j 0 < 2 ^ U) ∧ (B = true → X = s * 2 ^ 60 + laid U L k) ∧ ∃ m, wr = wb.drewN m) (fun i _ _ _ => N - (intOf i).toNat)
              case atStart => exact ⟨0, s * 1152921504606846976, true, Nat.zero_le _, rfl, by go_num, by omega, rfl, ⟨fun _ j hj => by omega, fun _ => rfl⟩, fun _ => by simp [laid], 0, rfl⟩
              case round =>
                obtain ⟨k, X, B, hk, rfl, rfl, hX, rfl, hB1, hB2, hm⟩ := hrel
                obtain ⟨wc, rfl⟩ : ∃ wc, wc = wr := ⟨_, rfl⟩
                by_cases hkN : k < N
                · have e1 : wc.cell? ⟨b, off + (a + k), none⟩ = some (.int .u64 (L.getD k 0 : Nat)) := by obtain ⟨m, rfl⟩ := hm; exact FL.out wb HBB.out k (by have := HN3.out; omega)
                  have e2 : wc.cell? ⟨G, s, none⟩ = some (.int .i64 (U : Nat)) := by obtain ⟨m, rfl⟩ := hm; exact e
                  have hDs : L.getD k 0 < 18446744073709551616 := Nat.lt_trans (HSL.out.get k) (by decide)
                  have hfd := fit_dec (L.getD k 0) U
                  have hku : (k + 1) * U ≤ 60 := Nat.le_trans (Nat.mul_le_mul_right _ (by omega)) H6.out
                  rw [Nat.add_mul, Nat.one_mul] at hku
                  have h0 : ((k * U : Nat) : Int) = (k : Int) * (U : Int) := by push_cast; rfl
                  have hD60 := HSL.out.get k
                  obtain ⟨D, hD⟩ : ∃ D, D = L.getD k 0 := ⟨_, rfl⟩
                  rw [← hD] at e1 hDs hfd hD60
                  have HD := Lib.hid hD
                  have HB1 := Lib.hid hB1
                  have HB2 := Lib.hid hB2
                  clear hD hB1 hB2
                  have hi1 : (0 : Int) ≤ (a : Int) + (k : Int) := by omega
                  have hi2 : (a : Int) + (k : Int) < (n : Int) := by have := HN3.out; omega
                  have hi3 : ((a : Int) + (k : Int)).toNat = a + k := by omega
                  have hsh : (((D : Int) * 2 ^ (k * U)) : Int) = ((D * 2 ^ (k * U) : Nat) : Int) := by push_cast; rfl
                  obtain ⟨X', hX'⟩ : ∃ X', X' = X ||| (D * 2 ^ (k * U) % 18446744073709551616) := ⟨_, rfl⟩
                  have hX1 : X' < 18446744073709551616 := by rw [hX']; exact Nat.or_lt_two_pow (n := 64) hX (Nat.mod_lt _ (by decide))
                  have hor : bits .or .u64 (X : Int) (IntKind.u64.wrap ((D : Int) * 2 ^ (k * U))) = ((X' : Nat) : Int) := by
                    rw [hsh, IntKind.wrap_u64, show ((D * 2 ^ (k * U) : Nat) : Int) % 18446744073709551616 = ((D * 2 ^ (k * U) % 18446744073709551616 : Nat) : Int) from by omega,
                      u64_or_nat _ _ hX (Nat.mod_lt _ (by decide)), hX']
                  have HOR := Lib.hid hor
                  have HX1 := Lib.hid hX1
                  have HBT : Hid (B = true → ((decide (D < 2 ^ U)) = true ↔ ∀ j, j < k + 1 → L.getD j 0 < 2 ^ U) ∧ ((decide (D < 2 ^ U)) = true → X' = s * 2 ^ 60 + laid U L (k + 1))) := Lib.hid fun hB => by
                    have hall := HB1.out.1 hB
                    have hiff : (decide (D < 2 ^ U)) = true ↔ ∀ j, j < k + 1 → L.getD j 0 < 2 ^ U := by
                      rw [decide_eq_true_iff]
                      refine ⟨fun h j hj => ?_, fun h => by rw [HD.out]; exact h k (by omega)⟩
                      by_cases hjk : j = k
                      · subst hjk; rw [← HD.out]; exact h
                      · exact hall j (by omega)
                    refine ⟨hiff, fun h => ?_⟩
                    have hw := word_or (s := s) (hiff.1 h) hku
                    rw [hX', HB2.out hB, HD.out, Nat.mod_eq_of_lt (Nat.lt_trans hw.2 (by decide))]
                    exact hw.1
                  have HBF : Hid (B = false → ((false = true) ↔ ∀ j, j < k + 1 → L.getD j 0 < 2 ^ U) ∧ (false = true → X' = s * 2 ^ 60 + laid U L (k + 1))) := Lib.hid fun hB => by
                    refine ⟨Iff.intro (fun h => absurd h (by decide)) (fun h => ?_), fun h => absurd h (by decide)⟩
                    have := HB1.out.2 (fun j hj => h j (by omega))
                    rw [hB] at this
                    cases this
                  clear hX' hX1 hor hsh hi3 HD
                  have hi3 : ((a : Int) + (k : Int)).toNat = a + k := by omega
                  cases B
                  case' false =>
                    have HFIN := Lib.hid (HBF.out rfl)
                    clear HBT HBF HB1 HB2
                    go_upto_region 20 with (fail)
                    go_quiet (fail)
                    go_upto_region 21 with (fail)
                  case' true =>
                    have HFIN := Lib.hid (HBT.out rfl)
                    clear HBT HBF HB1 HB2
                    go_upto_region 20 with (fail)
                    go_quiet (fail)
                    go_upto_region 21 with (fail)
                  all_goals
                    clear hfd
                    obtain ⟨wd, hwd⟩ : ∃ wd, wd = wc.drewN nq := ⟨_, rfl⟩
                    have e1' : wd.cell? ⟨b, off + (a + k), none⟩ = some (.int .u64 (D : Nat)) := by rw [hwd]; exact e1
                    have e2' : wd.cell? ⟨G, s, none⟩ = some (.int .i64 (U : Nat)) := by rw [hwd]; exact e2
                    have hmd : Hid (∃ m, wd = wb.drewN m) := by obtain ⟨m, rfl⟩ := hm; exact Lib.hid ⟨m + nq, by rw [hwd, World.drewN_drewN]⟩
                    rw [← hwd]
                    clear hwd e1 e2 hm
                    go_quiet (fail)
                    go_wp2_with fail
                    rw [HOR.out]
                    go_roundw
                    case rel => exact ⟨k + 1, X', _, by omega, by go_num, rfl, HX1.out, rfl, HFIN.out.1, HFIN.out.2, by obtain ⟨m, rfl⟩ := hmd.out; exact ⟨m + nq, by rw [World.drewN_drewN]⟩⟩
                    case measure => simp [intOf]; omega
                · obtain rfl : N = k := by omega
                  have HMM := Lib.hid hm
                  have HX := Lib.hid hX
                  cases B with
                  | false =>
                    have hno : ¬ Fit L s := fun h => by
                      have := hB1.2 (fun j hj => by rw [HU.out]; exact h j (by rw [HLN.out, ← HCC.out]; have := HN3.out; omega))
                      cases this
                    have hlt : s + 1 ≤ least L := by
                      by_cases e : s = least L
                      · exact absurd (by rw [e]; exact HLS.out.1) hno
                      · have := HK.out; omega
                    have HLT := Lib.hid hlt
                    clear hno hlt hB1 hB2 hm hX
                    go_wp2_with fail
                    go_roundw
                    case rel => exact ⟨s + 1, HLT.out, by go_num, rfl, rfl, by obtain ⟨m, rfl⟩ := HMM.out; obtain ⟨m', rfl⟩ := HMA.out; exact ⟨m' + m, by rw [World.drewN_drewN]⟩⟩
                    case measure => simp [intOf]; omega
                  | true =>
                    have hyes : Fit L s := fun j hj => by
                      rw [← HU.out]
                      exact hB1.1 rfl j (by rw [HLN.out, ← HCC.out] at hj; have := HN3.out; omega)
                    have heq : least L = s := least_eq hyes hs13 (fun t ht => HLS.out.2.2 t (by have := HK.out; omega))
                    have htk : took L = N := by unfold took; rw [heq, HLN.out, ← HCC.out, HN3.out]
                    have HXW : Hid (X = word L) := Lib.hid (by rw [hB2 rfl]; unfold word; rw [heq, htk, HU.out])
                    have HTK := Lib.hid htk
                    have HO5 : Hid (wc.ownsRow (G + 1) 5 1 o0 (8 * ws.length) (u8s (flat ws))) := by obtain ⟨m, rfl⟩ := HMM.out; exact Lib.hid HOB.out
                    have HB5 : Hid (Below (G + 1) w1 wc) := by obtain ⟨m, rfl⟩ := HMM.out; exact Lib.hid (Below.drewN' HBB.out m)
                    clear hyes heq htk hB1 hB2 hX
                    go_wp2_with (first
                      | (go_at_call 33; refine (eight14 _ _).mono ?_; rintro e w5 ⟨g8, c8, rfl, ho8, b8⟩
                         have HO8 := Lib.hid (own_below HO5.out b8)
                         have H8 := Lib.hid ho8
                         have HB8 := Lib.hid (HB5.out.trans (b8.mono (by have := HB5.out.size; have := HT1.out.1; omega)))
                         clear ho8 b8)
                      | (at_builtin; refine wpList_append_own _ rfl (.tmp 85) (.tmp 87) 22 rfl (G + 1) 5 i0 (.int .u8 0) 1 1 Tryz.underlying22 hi hz0 hz1 hz2 rfl (by decide) _ (8 * ws.length) (u8s (flat ws)) rfl HO8.out ⟨g8, 0, none⟩ 8 c8 (u8s (eight X)) rfl rfl ?c1 ?c2 ?c3 ?c4 ?c5 ?_))
                    case c1 => exact H8.out.cells rfl
                    case c2 => intro u hu; simp [u8s] at hu; obtain ⟨x, _, rfl⟩ := hu; rfl
                    case c3 => unfold maxLen; omega
                    case c4 => omega
                    case c5 => have := HB8.out.size; have := HT1.out.1; omega
                    intro v' w6 hown6 hgrow _
                    have HB6 := Lib.hid (Below.grown HB8.out hgrow (by have := HB8.out.size; have := HT1.out.1; omega) (fun r hr => (HO8.out.lt r hr).1))
                    have HO6 := Lib.hid hown6
                    clear hgrow hown6
                    go_wp2_with fail
                    go_roundw
                    case rel =>
                      have hLp : 0 < L.length := by rw [HLN.out]; omega
                      refine ⟨a + N, ws ++ [word L], ?_, by go_num, by simp; omega, ?_, ?_, HB6.out⟩
                      · have := HN3.out; omega
                      · rw [HWS.out, words_cons hLp, HTK.out, HL.out, List.drop_drop]
                        simp
                      · have h := HO6.out
                        rw [HXW.out] at h
                        rw [flat_snoc, List.length_append, List.length_cons, List.length_nil, show u8s (flat ws ++ eight (word L)) = u8s (flat ws) ++ u8s (eight (word L)) from by simp [u8s]]
                        exact h
                    case measure => simp [intOf]; omega
          · obtain rfl : n = a := by omega
            have HOW := Lib.hid hown
            have HBE := Lib.hid hbel
            have HWS : Hid (words l = ws) := Lib.hid (by rw [hws, words_nil (by rw [List.length_drop, ← HN.out]; omega), List.append_nil])
            clear hws hown hbel
            go_wp2_with fail
            go_ret2
            refine .inl ⟨HS.out, _, rfl, ?_, ?_⟩
            · unfold packs
              rw [HWS.out, flat_len, ← HG.out]
              exact Go.Joins.ownsRow_le HOW.out (by omega)
            · rw [← HG.out]
              exact B1.out.trans (HBE.out.mono (by omega))
end Rp
end Go.Proofs.YtjmddomkoholoaaGreatDoor

/- The program's side: read. -/
namespace Go.Proofs.YtjmddomkoholoaaGreatDoor
open Go.RowKit
namespace Rx
open Mt Wr Bm Pk Rp Cv Rd

/-- The numbers as cells. -/
def u64s (l : List Nat) : List Value := l.map fun b => .int .u64 (b : Nat)
theorem u64s_len (l : List Nat) : (u64s l).length = l.length := by simp [u64s]
theorem u64s_snoc (l : List Nat) (b : Nat) : u64s (l ++ [b]) = u64s l ++ [.int .u64 (b : Nat)] := by simp [u64s]
theorem u64s_get (l : List Nat) (j : Nat) (hj : j < l.length) : (u64s l)[j]? = some (.int .u64 (l.getD j 0 : Nat)) := by
  simp [u64s, List.getD_eq_getElem?_getD, hj]
theorem info34 : (Tryz.prog.info? 33).map (fun i => (i.zero, i.size, i.bytes)) = some (some (.int .u64 0), 1, 8) := by kernel_rfl
theorem iu_own {w : World} {B : Nat} {v : Value} {l : List Nat} (h : w.ownsRow B 33 1 v l.length (u64s l)) (hl : ∀ x ∈ l, x < 18446744073709551616) : Iu w v l := by
  refine ⟨hl, ?_⟩
  obtain ⟨_, ⟨rfl, e⟩ | ⟨g, c, cur, rfl, hg, hh, hnc, hcm, hsz, htk⟩⟩ := h
  · exact .inl ⟨_, _, rfl, List.length_eq_zero_iff.1 e⟩
  · have h' : w.ownsRow B 33 1 (.slice (some ⟨g, 0, none⟩) l.length c) l.length (u64s l) := ⟨by rw [u64s_len]; omega, .inr ⟨g, c, cur, rfl, hg, hh, hnc, hcm, hsz, htk⟩⟩
    refine .inr ⟨g, 0, c, rfl, hnc, (h'.lt g rfl).2, fun i hi => ?_⟩
    rw [Nat.zero_add, h'.cellAt i (by omega)]
    exact u64s_get l i hi

theorem slice_of' {w : World} {B size n : Nat} {e : TypeId} {v : Value} {xs : List Value} (ho : w.ownsRow B e size v n xs) : ∃ a c, v = .slice a n c := by
  rcases Go.Joins.ownsRow_forms ho with ⟨rfl, h0⟩ | ⟨q, c, rfl⟩
  · exact ⟨none, 0, by rw [h0]⟩
  · exact ⟨_, _, rfl⟩

theorem Rh.kept {w w' : World} {g : Nat} {s : Value} {bs : List Nat} {p : Nat} {bad : Bool} {row : Option Nat} (h : Rh w g s bs p bad) (hg : w.grownBy w' row) (h1 : row ≠ some g) (h2 : s.ownBlock = none ∨ s.ownBlock ≠ row) : Rh w' g s bs p bad := by
  have hb : w'.heap[g]? = w.heap[g]? := hg.block g h.lt (by first | exact h1 | exact h1.symm)
  obtain ⟨B, ho⟩ := h.own
  exact ⟨Nat.lt_of_lt_of_le h.lt hg.size, (World.cell?_of_block hb).trans h.c0, (World.cell?_of_block hb).trans h.c1, (World.cell?_of_block hb).trans h.c2, (World.frozen?_of_block hb).trans h.z0, (World.frozen?_of_block hb).trans h.z1, (World.frozen?_of_block hb).trans h.z2, h.ne, B, ho.kept hg h2⟩
theorem Rh.alloc {w : World} {g : Nat} {s : Value} {bs : List Nat} {p : Nat} {bad : Bool} (h : Rh w g s bs p bad) (o : Obj) : Rh (w.alloc o) g s bs p bad := by
  have hb : (w.alloc o).heap[g]? = w.heap[g]? := Below.heap_alloc w o g h.lt
  obtain ⟨B, ho⟩ := h.own
  exact ⟨by simpa using Nat.lt_succ_of_lt h.lt, (World.cell?_of_block hb).trans h.c0, (World.cell?_of_block hb).trans h.c1, (World.cell?_of_block hb).trans h.c2, (World.frozen?_of_block hb).trans h.z0, (World.frozen?_of_block hb).trans h.z1, (World.frozen?_of_block hb).trans h.z2, h.ne, B, ho.alloc o⟩
theorem own_only {w w' : World} {g B size n : Nat} {e : TypeId} {v : Value} {xs : List Value} (h : w.ownsRow B e size v n xs) (o : Only w w' g) (hB : g < B) : w'.ownsRow B e size v n xs :=
  h.kept (row := some g) ⟨o.os, o.tape, o.output, o.size, fun k hk hne => o.block k hk (by intro e; subst e; first | exact hne rfl | exact hne.symm rfl)⟩ (by
    by_cases e : v.ownBlock = none
    · exact .inl e
    · refine .inr fun e2 => ?_
      have := (h.lt g e2).1
      omega)

set_option maxRecDepth 100000 in
set_option maxHeartbeats 1000000 in
theorem read18 (w : World) (v : Value) (bs : List Nat) (n : Int) (hIs : Is w v bs) (hX : ∀ b ∈ bs, b < 256) (hT : Tab w) (hb : bs.length ≤ 140737488353272) (hbd : min n.toNat (60 * (bs.length / 8)) ≤ 17592186044159) (n1 : -9223372036854775808 ≤ n) (n2 : n ≤ 9223372036854775807) :
    Calls Tryz.prog 169 #[v, .int .i64 n] w fun e w' => ∃ r, e = .returned r ∧ w'.ownsRow w.heap.size 33 1 r (got bs n).length (u64s (got bs n)) ∧ Below w.heap.size w w' := by
  obtain ⟨i0, hi, hz0, hz1, hz2⟩ := info_parts info34
  have hv : ∃ a c, v = .slice a bs.length c := by
    rcases hIs with ⟨rfl, rfl⟩ | ⟨ad, c, rfl, _⟩
    · exact ⟨_, _, rfl⟩
    · exact ⟨_, _, rfl⟩
  obtain ⟨a, c, rfl⟩ := hv
  have F26 := Lib.hid (new16 w _ bs hIs (by omega))
  obtain ⟨Q, hQ⟩ : ∃ Q, Q = bs.length / 8 := ⟨_, rfl⟩
  have hQi : (bs.length : Int) / 8 = (Q : Int) := by omega
  have HBD : Hid (min n.toNat (60 * Q) ≤ 17592186044159) := Lib.hid (by rw [hQ]; exact hbd)
  clear hbd
  have HT := Lib.hid hT
  have HX := Lib.hid (has_bb hX)
  have HXX := Lib.hid hX
  obtain ⟨len, hlen⟩ : ∃ len, len = bs.length := ⟨_, rfl⟩
  have HG : Hid (got bs n = if ((Q * 60 : Nat) : Int) < n then [] else (reads n.toNat [] (wordsOf bs Q)).getD []) := Lib.hid (by unfold got; rw [hQ])
  rw [← hlen] at hQ hQi hb F26 ⊢
  have HQ := Lib.hid hQ
  have HQI := Lib.hid hQi
  have HLEN := Lib.hid hlen
  clear hIs hT hX hlen
  by_cases hbig : ((Q * 60 : Nat) : Int) < n
  · have hG : Hid (got bs n = []) := Lib.hid (by rw [HG.out, if_pos hbig])
    have hbig' : (len : Int) / 8 * 60 < n := by omega
    clear hQ hQi
    go_enter Tryz.func169, Tryz.ntmps169
    go_wp2_with fail
    go_ret
    rw [hG.out]
    exact ⟨_, rfl, World.ownsRow_nil _ _ _ _, Below.refl _ _⟩
  · have hG : Hid (got bs n = (reads n.toNat [] (wordsOf bs Q)).getD []) := Lib.hid (by rw [HG.out, if_neg hbig])
    have hbig' : n ≤ (len : Int) / 8 * 60 := by omega
    clear HG hbig hQ hQi
    go_enter Tryz.func169, Tryz.ntmps169
    go_wp2_with (go_at_call 56; refine F26.out.mono ?_; rintro e w1 ⟨g, s, rfl, hR1, hg1, hs1, b1⟩)
    rw [HQI.out]
    have hbw : n ≤ (Q : Int) * 60 := by rw [← HQI.out]; exact hbig'
    have hQb : Q ≤ 17592186044159 := by have := HQ.out; omega
    have HS1 := Lib.hid hs1
    have HG1 := Lib.hid hg1
    have hgl : g < w1.heap.size := hR1.lt
    have HR1 := Lib.hid hR1
    have B1 := Lib.hid b1
    have hsl : ∀ k, s.ownBlock = some k → k < w1.heap.size := fun k hk => by obtain ⟨B, ho⟩ := hR1.own; exact (ho.lt k hk).2
    have HSL := Lib.hid hsl
    clear hR1 hs1 hg1 b1 hsl hbig'
    go_loopw [21, 6] (fun i o wr => ∃ k L, k ≤ Q ∧ i = .int .i64 (k : Nat) ∧ reads n.toNat [] (wordsOf bs k) = some L ∧ L.length ≤ 60 * k ∧ wr.ownsRow w1.heap.size 33 1 o L.length (u64s L) ∧ Rh wr g s bs (64 * k) false ∧ Below w.heap.size w wr ∧ w1.heap.size ≤ wr.heap.size) (fun i _ _ => Q - (intOf i).toNat)
    case atStart => exact ⟨0, [], Nat.zero_le _, rfl, rfl, Nat.zero_le _, World.ownsRow_nil _ _ _ _, HR1.out, B1.out, Nat.le_refl _⟩
    case round =>
      obtain ⟨k, L, hk, rfl, hre, hll, hown, hR, hB, hsz⟩ := hrel
      by_cases hkQ : k < Q
      · have hp := num_parts HXX.out k
        have hp8 : 64 * k + 64 ≤ 8 * bs.length := by have := HQ.out; rw [HLEN.out] at this; omega
        have hbs : bs.length ≤ 140737488353272 := by rw [← HLEN.out]; exact hb
        have h19a := get_ok wr g s bs (64 * k) 4 (bb bs) hR HX.out (by decide) (by decide) (by omega) (by omega)
        have h19b := fun x (h : Rh x g s bs (64 * k + 4) false) => get_ok x g s bs (64 * k + 4) 60 (bb bs) h HX.out (by decide) (by decide) (by omega) (by omega)
        have hXlt := num8_lt HXX.out (8 * k)
        have hstep := @reads_step n.toNat bs k L hre
        have hstop := @reads_stop n.toNat bs k L hre
        have hLn := reads_le hre (Nat.zero_le _)
        obtain ⟨X, hX⟩ : ∃ X, X = num8 bs (8 * k) := ⟨_, rfl⟩
        rw [← hX] at hp hXlt hstep hstop
        obtain ⟨cd, hcd⟩ : ∃ cd, cd = X / 2 ^ 60 := ⟨_, rfl⟩
        obtain ⟨rm, hrm⟩ : ∃ rm, rm = X % 2 ^ 60 := ⟨_, rfl⟩
        rw [hp.1, ← hcd] at h19a
        rw [hp.2, ← hrm] at h19b
        rw [← hcd] at hstep hstop
        have F19a : Hid (Calls Tryz.prog 57 #[.pointer (some ⟨g, 0, none⟩), .int .i64 4] wr fun e w' => e = .returned (.int .u64 (cd : Nat)) ∧ Rh w' g s bs (64 * k + 4) false ∧ Only wr w' g) := Lib.hid h19a
        have F19b : Hid (∀ x, Rh x g s bs (64 * k + 4) false → Calls Tryz.prog 57 #[.pointer (some ⟨g, 0, none⟩), .int .i64 60] x fun e w' => e = .returned (.int .u64 (rm : Nat)) ∧ Rh w' g s bs (64 * (k + 1)) false ∧ Only x w' g) := Lib.hid h19b
        have hcd16 : cd < 16 := by omega
        have hrm60 : rm < 1152921504606846976 := by omega
        obtain ⟨a6, c6, hu6⟩ := slice_of' hown
        have HO := Lib.hid hown
        have HB := Lib.hid hB
        have HRE := Lib.hid hre
        have HST := Lib.hid hstep
        have HSP := Lib.hid hstop
        have HCD := Lib.hid hcd
        have HRM := Lib.hid hrm
        have HXE := Lib.hid hX
        have HXL := Lib.hid hXlt
        clear hown hB hre hstep hstop hcd hrm hX hXlt hp h19a h19b hR hbs hp8
        subst hu6
        by_cases hc : 13 < cd
        · go_wp2_with fail
          refine F19a.out.mono ?_
          rintro e w2 ⟨rfl, r2, o2⟩
          have R2 := Lib.hid r2
          have O2 := Lib.hid o2
          clear r2 o2
          go_wp2_with fail
          refine (F19b.out _ R2.out).mono ?_
          rintro e w3 ⟨rfl, r3, o3⟩
          have R3 := Lib.hid r3
          have O3 := Lib.hid o3
          clear r3 o3
          go_wp2_with fail
          go_ret
          have hgot : got bs n = [] := by rw [hG.out, reads_more (HSP.out hc) Q (by omega)]; rfl
          rw [hgot]
          have hw := HB.out
          exact ⟨_, rfl, World.ownsRow_nil _ _ _ _, hw.trans ((O2.out.trans O3.out).below HG1.out (by have := B1.out.size; have := hw.size; omega))⟩
        · have h1 := W_pos cd
          have h2 := W_le cd
          have h3 : (60 : Int) / (W cd : Nat) = (cap cd : Nat) := rfl
          have h4 := cap_pos cd
          have h5 := cap_le cd
          have h6 := cap_mul cd
          obtain ⟨U, hU⟩ : ∃ U, U = W cd := ⟨_, rfl⟩
          obtain ⟨C, hC⟩ : ∃ C, C = cap cd := ⟨_, rfl⟩
          have FT : Hid (∀ x, Below w.heap.size w x → x.cell? ⟨1, cd, none⟩ = some (.int .i64 (U : Nat))) := Lib.hid fun x hb => by rw [hU]; exact (HT.out.below hb HT.out.1).2 cd (by omega)
          rw [← hU] at h1 h2 h3 h6
          rw [← hC] at h3 h4 h5 h6
          have HU := Lib.hid hU
          have HCC := Lib.hid hC
          have H6 := Lib.hid h6
          obtain ⟨ll, hl⟩ : ∃ ll, ll = L.length := ⟨_, rfl⟩
          rw [← hl] at HO hLn hll ⊢
          have HLL := Lib.hid hl
          have hlo : (-9223372036854775808 : Int) ≤ n - (ll : Int) := by omega
          clear hU hC h6 hl
          go_wp2_with fail
          refine F19a.out.mono ?_
          rintro e w2 ⟨rfl, r2, o2⟩
          have R2 := Lib.hid r2
          have O2 := Lib.hid o2
          clear r2 o2
          go_wp2_with fail
          refine (F19b.out _ R2.out).mono ?_
          rintro e w3 ⟨rfl, r3, o3⟩
          have R3 := Lib.hid r3
          have O3 := Lib.hid o3
          have B3 := Lib.hid (Below.trans HB.out ((O2.out.trans O3.out).below HG1.out (by have := B1.out.size; have := HB.out.size; omega)))
          have e3 := FT.out w3 B3.out
          clear r3 o3
          obtain ⟨T, hT⟩ : ∃ T, T = min C (n.toNat - ll) := ⟨_, rfl⟩
          by_cases hlt : n - (ll : Int) < (C : Int)
          case' pos =>
            go_wp2_with fail
            obtain ⟨m, hm⟩ : ∃ m, m = n - (ll : Int) := ⟨_, rfl⟩
            rw [← hm]
            have hmT : m.toNat = T ∧ m ≤ 60 ∧ -9223372036854775808 ≤ m := by omega
          case' neg =>
            go_wp2_with fail
            obtain ⟨m, hm⟩ : ∃ m, m = (C : Int) := ⟨_, rfl⟩
            rw [← hm]
            have hmT : m.toNat = T ∧ m ≤ 60 ∧ -9223372036854775808 ≤ m := by omega
          all_goals
            obtain ⟨hm1, hm2, hm3⟩ := hmT
            have HTT := Lib.hid hT
            have HO3 : Hid (w3.ownsRow w1.heap.size 33 1 (.slice a6 ll c6) ll (u64s L)) := Lib.hid (own_only HO.out (O2.out.trans O3.out) hgl)
            have HSZ : Hid (w1.heap.size ≤ w3.heap.size) := Lib.hid (Nat.le_trans hsz (Nat.le_trans O2.out.size O3.out.size))
            clear hT hm hlt hlo h3
            go_loopw [39, 6, 9] (fun j o r wr => ∃ q, q ≤ T ∧ j = .int .i64 (q : Nat) ∧ r = .int .u64 ((rm / 2 ^ (q * U) : Nat) : Int) ∧ wr.ownsRow w1.heap.size 33 1 o (ll + q) (u64s (L ++ outs U X q)) ∧ Rh wr g s bs (64 * (k + 1)) false ∧ Below w.heap.size w wr ∧ w1.heap.size ≤ wr.heap.size) (fun j _ _ _ => T - (intOf j).toNat)
            case atStart => exact ⟨0, Nat.zero_le _, rfl, by simp, by simpa [outs] using HO3.out, R3.out, B3.out, HSZ.out⟩
            case round =>
              obtain ⟨q, hq, rfl, rfl, hown, hR, hB, hsz2⟩ := hrel
              by_cases hqT : q < T
              · have hqU : (q + 1) * U ≤ 60 := Nat.le_trans (Nat.mul_le_mul_right _ (by have := HTT.out; omega)) H6.out
                rw [Nat.add_mul, Nat.one_mul] at hqU
                have hqm : (q : Int) < m := by omega
                have hy60 : rm / 2 ^ (q * U) < 1152921504606846976 := Nat.lt_of_le_of_lt (Nat.div_le_self _ _) hrm60
                have hyn : rm / 2 ^ (q * U) / 2 ^ U = rm / 2 ^ ((q + 1) * U) := by rw [Nat.div_div_eq_div_mul, ← Nat.pow_add, Nat.add_mul, Nat.one_mul]
                have hyd : rm / 2 ^ (q * U) % 2 ^ U = X / 2 ^ (q * U) % 2 ^ U := by rw [HRM.out, part_eq X q U hqU]
                obtain ⟨y, hy⟩ : ∃ y, y = rm / 2 ^ (q * U) := ⟨_, rfl⟩
                rw [← hy] at hy60 hyn hyd
                rw [← hy]
                have HYN := Lib.hid hyn
                have HYD := Lib.hid hyd
                have HOW := Lib.hid hown
                have HRH := Lib.hid hR
                have HBB := Lib.hid hB
                obtain ⟨ao, co, hu⟩ := slice_of' hown
                obtain ⟨D, hD⟩ : ∃ D, D = y % 2 ^ U := ⟨_, rfl⟩
                have hand : bits BinOp.and IntKind.u64 (y : Int) (IntKind.u64.wrap (IntKind.u64.wrap (2 ^ U) - 1)) = ((D : Nat) : Int) := by
                  have hp1 : 2 ^ U ≤ 2 ^ 60 := Nat.pow_le_pow_right (by decide) h2
                  have hp0 : 0 < 2 ^ U := Nat.two_pow_pos U
                  have e1 : IntKind.u64.wrap (IntKind.u64.wrap ((2 : Int) ^ U) - 1) = ((2 ^ U - 1 : Nat) : Int) := by
                    rw [show ((2 : Int) ^ U) = ((2 ^ U : Nat) : Int) from by push_cast; rfl, IntKind.wrap_u64, IntKind.wrap_u64]
                    omega
                  rw [e1, u64_and_nat _ _ (by omega) (by omega), Nat.and_two_pow_sub_one_eq_mod, hD]
                have HDE := Lib.hid hD
                have HQB : Hid (ll + q + 1 ≤ 17592186044159) := Lib.hid (by have := HBD.out; have := HTT.out; omega)
                clear hy hyn hyd hown hR hB hD
                subst hu
                go_wp2_with (at_builtin; refine wpList_append_own _ rfl (.tmp 41) (.tmp 47) 123 rfl w1.heap.size 33 i0 (.int .u64 0) 1 8 Tryz.underlying123 hi hz0 hz1 hz2 rfl (by decide) _ _ _ rfl (HOW.out.alloc _) ⟨wr.heap.size, 0, none⟩ 1 1 [.int .u64 (D : Nat)] rfl rfl ?c1 ?c2 ?c3 ?c4 ?c5 ?_)
                case c1 => exact cell_one_new _ _ _
                case c2 => intro u hu; simp at hu; subst hu; rfl
                case c3 => have := HQB.out; unfold maxLen; omega
                case c4 => have := HQB.out; omega
                case c5 => simp; omega
                intro v' w6 hown6 hgrow _
                have hne1 : (Value.slice ao (ll + q) co).ownBlock ≠ some g := fun e => by have := (HOW.out.lt g e).1; omega
                have hne2 : s.ownBlock = none ∨ s.ownBlock ≠ (Value.slice ao (ll + q) co).ownBlock := by
                  cases hso : s.ownBlock with
                  | none => exact .inl rfl
                  | some z => exact .inr fun e => by have h8 := HSL.out z hso; have h9 := (HOW.out.lt z e.symm).1; omega
                have R6 := Lib.hid (Rh.kept (Rh.alloc HRH.out _) hgrow hne1 hne2)
                have B6 := Lib.hid (Below.grown (HBB.out.alloc (by have := B1.out.size; omega) _) hgrow (by simp; have := B1.out.size; omega) (fun r hr => by have := (HOW.out.lt r hr).1; have := B1.out.size; omega))
                have S6 := Lib.hid hgrow.size
                have O6 := Lib.hid hown6
                clear hgrow hown6 hne1 hne2
                go_wp2_with fail
                go_roundw
                case rel =>
                  refine ⟨q + 1, by omega, by go_num, ?_, ?_, R6.out, B6.out, by have := S6.out; simp at this; omega⟩
                  · rw [← HYN.out]; push_cast; rfl
                  · have h := O6.out
                    rw [HDE.out, HYD.out] at h
                    rw [show L ++ outs U X (q + 1) = (L ++ outs U X q) ++ [X / 2 ^ (q * U) % 2 ^ U] from by simp [outs], u64s_snoc]
                    exact h
                case measure => simp [intOf]; omega
              · obtain rfl : T = q := by omega
                have HOW := Lib.hid hown
                have HRH := Lib.hid hR
                have HBB := Lib.hid hB
                obtain ⟨ao, co, hu⟩ := slice_of' hown
                have hqm : ¬ (T : Int) < m := by omega
                have HNX : Hid (reads n.toNat [] (wordsOf bs (k + 1)) = some (L ++ outs U X T)) := Lib.hid (by
                  rw [HST.out hc, HU.out, ← HLL.out]
                  unfold room
                  rw [← HCC.out, ← HTT.out])
                clear hown hR hB
                subst hu
                go_wp2_with fail
                go_roundw
                case rel =>
                  refine ⟨k + 1, L ++ outs U X T, by omega, by go_num, HNX.out, ?_, ?_, HRH.out, HBB.out, hsz2⟩
                  · rw [List.length_append, outs_len, ← HLL.out]
                    have := HTT.out
                    omega
                  · rw [List.length_append, outs_len, ← HLL.out]
                    exact HOW.out
                case measure => simp [intOf]; omega
      · obtain rfl : Q = k := by omega
        have HO := Lib.hid hown
        have HB := Lib.hid hB
        have HRE := Lib.hid hre
        clear hown hR hB hre
        go_wp2_with fail
        go_ret
        have hgot : got bs n = L := by rw [hG.out, HRE.out]; rfl
        rw [hgot]
        exact ⟨_, rfl, Go.Joins.ownsRow_le HO.out (by have := B1.out.size; omega), HB.out⟩
end Rx
end Go.Proofs.YtjmddomkoholoaaGreatDoor
