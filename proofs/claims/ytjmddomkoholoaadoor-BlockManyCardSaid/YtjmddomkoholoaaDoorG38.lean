import Derived.Test.YtjmddomkoholoaaDoorG37
import Derived.Lib.SlBytesConst

/- The laws' first question. -/
namespace Go.Proofs.YtjmddomkoholoaaDoor
open Go.RowKit
namespace Kw
open Cm Wr Bm Pk Zs Vs Fo Cv Kd Kp Ke

def P1 : List Pnt := [(5, 3, 1, [])]
theorem enc1 : enc8 P1 = (0, lay 3 (Tm.bytesOf [5]) [128]) := by rfl
theorem enc1_len : (enc8 P1).2.length = 21 := by rw [enc1, lay_len]; rfl
theorem enc1_hd : (u8s (enc8 P1).2)[0]? = some (.int .u8 3) := by rw [enc1]; rfl
abbrev w1 (w : World) : World := w.alloc (Obj.cells #[.int .i64 5, .int .i64 3, .int .u64 1, .string { data := #[] }] 42)
theorem pi1 (w : World) : Pi (w1 w) (.slice (some ⟨w.heap.size, 0, none⟩) 1 1) P1 := by
  refine ⟨?_, .inr ⟨w.heap.size, 0, 1, rfl, by decide, by simp, fun i hi => ?_⟩⟩
  · intro x hx
    simp only [P1, List.mem_cons, List.not_mem_nil, or_false] at hx
    subst hx
    exact ⟨by decide, by decide, by decide, by decide, fun y hy => by cases hy⟩
  · have hi' : i = 0 := by simp [P1] at hi; omega
    subst hi'
    refine ⟨?_, ?_, ?_, ?_⟩ <;> simp only [Nat.zero_mul, Nat.zero_add] <;> (refine (World.cell?_alloc_new _ _ _ _).trans ?_) <;> simp [P1, str_nil]
set_option maxRecDepth 100000 in
set_option maxHeartbeats 1000000 in
theorem awake14 (w : World) (hT : Tab w) (hD : Dt w) : Calls Tryd.prog 7 #[] w fun e w' => e = .returned (.bool true) ∧ Below w.heap.size w w' := by
  have B1 := Lib.hid (show Below w.heap.size w (w1 w) from (Below.refl _ _).alloc (Nat.le_refl _) _)
  have FE := Lib.hid (encode16 (w1 w) _ P1 (pi1 w) (by decide) (hT.below B1.out hT.1) (hD.below B1.out (by have := hD.1; omega)))
  clear hT hD
  go_enter Tryd.func7, Tryd.ntmps7
  go_wp2_with fail
  refine FE.out.mono ?_
  rintro e w4 ⟨r, rfl, o4, b4⟩
  rw [enc1_len] at o4
  have hc0 : ((enc8 P1).1 : Int) = 0 := by rw [enc1]; rfl
  rw [hc0]
  have B4 := Lib.hid (B1.out.trans (b4.mono B1.out.size))
  obtain ⟨g, c, hr⟩ := Go.Joins.ownsRow_form o4 (by decide)
  subst hr
  have hc : w4.cell? ⟨g, 0, none⟩ = some (.int .u8 3) := by
    have := o4.cells rfl 0 _ enc1_hd
    simpa [Addr.add] using this
  have hcv := Lib.run_convert_bytes_const (P := Tryd.prog) w4 24 5 #[.int .u8 49, .int .u8 50, .int .u8 51, .int .u8 52, .int .u8 53, .int .u8 54, .int .u8 55, .int .u8 56, .int .u8 57] 9 9 Tryd.underlying24 Tryd.underlying5
  have FS := Lib.hid (Ks.sum_small (w4.alloc (.cells #[.int .u8 49, .int .u8 50, .int .u8 51, .int .u8 52, .int .u8 53, .int .u8 54, .int .u8 55, .int .u8 56, .int .u8 57] 5 (9, 10))) w4.heap.size 0 9 9 [49, 50, 51, 52, 53, 54, 55, 56, 57] (by decide) rfl (by decide) (fun i hi => by
    rw [World.cell?_alloc_mark]
    rcases (show i = 0 ∨ i = 1 ∨ i = 2 ∨ i = 3 ∨ i = 4 ∨ i = 5 ∨ i = 6 ∨ i = 7 ∨ i = 8 by omega) with rfl | rfl | rfl | rfl | rfl | rfl | rfl | rfl | rfl <;> rfl))
  rw [Kc.sum_check] at FS
  have B5 := Lib.hid (B4.out.alloc B4.out.size (.cells #[.int .u8 49, .int .u8 50, .int .u8 51, .int .u8 52, .int .u8 53, .int .u8 54, .int .u8 55, .int .u8 56, .int .u8 57] 5 (9, 10)))
  clear b4 o4
  go_wp2_with (first | rw [hcv] | (go_at_call 12; refine FS.out.mono ?_; rintro e w5 ⟨rfl, h5⟩; rw [h5]; clear h5 w5))
  go_ret
  exact ⟨rfl, B5.out⟩
end Kw
end Go.Proofs.YtjmddomkoholoaaDoor

/- The law BlockSums. -/
namespace Go.Proofs.YtjmddomkoholoaaDoor
open Go.RowKit
namespace Ku
open Wr Bm Pk Zs Cv Kd Kp Ke Kw

theorem u8s_set (bs : List Nat) (P Z : Nat) : (u8s bs).set P (.int .u8 (Z : Nat)) = u8s (bs.set P Z) := by simp [u8s, List.map_set]
theorem set_lt {bs : List Nat} (h : ∀ x ∈ bs, x < 256) (j y : Nat) (hy : y < 256) : ∀ x ∈ bs.set j y, x < 256 := by
  intro x hx
  rcases List.mem_or_eq_of_mem_set hx with h1 | h1
  · exact h x h1
  · rw [h1]; exact hy

set_option maxRecDepth 100000 in
set_option maxHeartbeats 1000000 in
theorem sums7 (w : World) (v : Value) (bs : List Nat) (n y : Int) (hP : Pl w v bs) (hX : ∀ x ∈ bs, x < 256) (hl : bs.length ≤ 140737488353272) (hT : Tab w) (hD : Dt w) (y1 : 0 ≤ y) (y2 : y < 256) :
    Calls Tryd.prog 5 #[v, .int .i64 n, .int .u8 y] w fun e w' => e = .returned (.bool true) ∧ Below w.heap.size w w' := by
  obtain ⟨q, rfl⟩ := Int.eq_ofNat_of_zero_le y1
  obtain ⟨i0, hi, hz0, hz1, hz2⟩ := info_parts info5
  have FA := Lib.hid (awake14 w hT hD)
  have F19 := Lib.hid (fun (x : World) (hb : Below w.heap.size w x) => Ks.sum19 x v bs (hP.below hb) hX hl)
  have F20 := Lib.hid (fun (x : World) (hb : Below w.heap.size w x) => Ks.rsum20 x v bs (hP.below hb) hX hl)
  clear hT hD
  rcases hP with ⟨rfl, a, c, rfl⟩ | ⟨h0, b, off, c, rfl, hlc, hcell⟩
  · obtain ⟨S, hS⟩ : ∃ S, S = Kc.sum [] := ⟨_, rfl⟩
    rw [← hS] at F19 F20
    clear hS hX hl
    go_enter Tryd.func5, Tryd.ntmps5
    go_wp2_with (go_at_call 7; refine FA.out.mono ?_; rintro e w1 ⟨rfl, b1⟩; have B1 := Lib.hid b1; clear b1)
    refine (F19.out _ B1.out).mono ?_
    rintro e w2 ⟨rfl, h2⟩
    have B2 := Lib.hid (B1.out.trans (h2.mono B1.out.size))
    clear h2
    go_wp2_with fail
    refine (F20.out _ B2.out).mono ?_
    rintro e w9 ⟨rfl, h2⟩
    rw [h2]
    clear h2 w9
    go_wp2_with fail
    go_ret
    exact ⟨rfl, B2.out⟩
  have hbw : b < w.heap.size := cell_lt (hcell 0 h0)
  have HCB := Lib.hid (fun (x : World) (hb : Below w.heap.size w x) (j : Nat) (u : Value) (hj : (u8s bs)[j]? = some u) => (show x.cell? ((⟨b, off, none⟩ : Addr).add j) = some u from by
    have hjl : j < bs.length := by
      rcases Nat.lt_or_ge j bs.length with h | h
      · exact h
      · rw [List.getElem?_eq_none (by rw [u8s_len]; exact h)] at hj; cases hj
    rw [u8s_get bs j hjl] at hj
    cases hj
    have h9 := (hb.cell (p := ⟨b, off + j, none⟩) hbw).trans (hcell j hjl)
    unfold Addr.add
    split
    · rename_i h; rw [h, Nat.add_zero] at h9; rw [h]; exact h9
    · exact h9))
  have HX := Lib.hid hX
  have HSUM := Lib.hid (fun (P Z : Nat) (h1 : P < bs.length) (h2 : Z < 256) (h3 : Z ≠ bs.getD P 0) => Kc.sum_set hX h1 h2 h3)
  have G19 := Lib.hid (fun (x : World) (B : Nat) (r : Value) (P Z : Nat) (hZ : Z < 256) (ho : x.ownsRow B 5 1 r bs.length (u8s (bs.set P Z))) => (show Calls Tryd.prog 12 #[r] x fun e w' => e = .returned (.int .u32 (Kc.sum (bs.set P Z) : Nat)) ∧ Below x.heap.size x w' from by
    have hl' : (bs.set P Z).length = bs.length := List.length_set
    rw [← hl'] at ho
    exact Ks.sum19 x r (bs.set P Z) (pl_own ho (by omega)) (set_lt hX P Z hZ) (by omega)))
  obtain ⟨S, hS⟩ : ∃ S, S = Kc.sum bs := ⟨_, rfl⟩
  rw [← hS] at F19 F20 HSUM
  have hul := u8s_len bs
  have HONE : Hid (∀ u ∈ u8s bs, u.oneCell' = true) := Lib.hid fun u hu => by simp [u8s] at hu; obtain ⟨x, _, rfl⟩ := hu; rfl
  obtain ⟨L, hL⟩ : ∃ L, L = bs.length := ⟨_, rfl⟩
  rw [← hL] at h0 hl hlc hul HSUM G19 F19 F20 ⊢
  have HLL := Lib.hid hL
  have hL0 : ((L : Int) == 0) = false := by rw [beq_eq_false_iff_ne]; omega
  obtain ⟨U, hU⟩ : ∃ U, U = Tm.ut n := ⟨_, rfl⟩
  have hu := @Tm.ut_of n
  rw [← hU] at hu
  have hwn : IntKind.u64.wrap n = (U : Int) := by rw [IntKind.wrap_u64]; omega
  have hwl : IntKind.u64.wrap (L : Int) = (L : Int) := by rw [IntKind.wrap_u64]; omega
  obtain ⟨P, hPe⟩ : ∃ P, P = U % L := ⟨_, rfl⟩
  have hpl : P < L := by rw [hPe]; exact Nat.mod_lt _ (by omega)
  have hmod : (U : Int) % (L : Int) = (P : Int) := by rw [hPe]; push_cast; rfl
  clear hcell hX hS hL hU hu hPe
  by_cases hq : q = 0
  · subst hq
    go_enter Tryd.func5, Tryd.ntmps5
    go_wp2_with (go_at_call 7; refine FA.out.mono ?_; rintro e w1 ⟨rfl, b1⟩; have B1 := Lib.hid b1; clear b1)
    refine (F19.out _ B1.out).mono ?_
    rintro e w2 ⟨rfl, h2⟩
    have B2 := Lib.hid (B1.out.trans (h2.mono B1.out.size))
    clear h2
    go_wp2_with fail
    refine (F20.out _ B2.out).mono ?_
    rintro e w9 ⟨rfl, h2⟩
    rw [h2]
    clear h2 w9
    go_wp2_with fail
    go_ret
    exact ⟨rfl, B2.out⟩
  · have hq0 : ((q : Int) == 0) = false := by rw [beq_eq_false_iff_ne]; omega
    go_enter Tryd.func5, Tryd.ntmps5
    go_wp2_with (go_at_call 7; refine FA.out.mono ?_; rintro e w1 ⟨rfl, b1⟩; have B1 := Lib.hid b1; clear b1)
    refine (F19.out _ B1.out).mono ?_
    rintro e w2 ⟨rfl, h2⟩
    have B2 := Lib.hid (B1.out.trans (h2.mono B1.out.size))
    clear h2
    go_wp2_with fail
    refine (F20.out _ B2.out).mono ?_
    rintro e w9 ⟨rfl, h2⟩
    rw [h2]
    clear h2 w9
    have OL := World.ownsRow_lit (size := 1) (e := 5) (base := w.heap.size) w2 #[] 0 B2.out.size (by decide) rfl
    have hsz := B2.out.size
    have HC1 := Lib.hid (HCB.out _ (B2.out.alloc hsz (.cells #[] 5)))
    go_wp2_with (at_builtin; refine wpList_append_own _ rfl (.tmp 22) (.tmp 23) 24 rfl w.heap.size 5 i0 (.int .u8 0) 1 1 Tryd.underlying24 hi hz0 hz1 hz2 rfl (by decide) _ 0 _ rfl OL ⟨b, off, none⟩ L c (u8s bs) rfl (by rw [hul]; omega) ?c1 ?c2 ?c3 ?c4 ?c5 ?_)
    case c1 => exact HC1.out
    case c2 => exact HONE.out
    case c3 => unfold maxLen; omega
    case c4 => omega
    case c5 => simp; omega
    intro v' w3 hown' hgrow _
    have B3 := Lib.hid (Below.grown (B2.out.alloc hsz (.cells #[] 5)) hgrow (by simp; omega) (fun r hr => by cases hr; exact hsz))
    have hown3 : w3.ownsRow w.heap.size 5 1 v' L (u8s bs) := by simpa using hown'
    obtain ⟨g, c3, hv'⟩ := Go.Joins.ownsRow_form hown3 (by omega)
    subst hv'
    have O3 := Lib.hid hown3
    have e1 : w3.cell? ⟨g, P, none⟩ = some (.int .u8 (bs.getD P 0 : Nat)) := by
      rw [O3.out.cellAt P (by omega)]
      exact u8s_get bs P (by have := HLL.out; omega)
    have e2 : w3.frozen? ⟨g, P, none⟩ = false := O3.out.frozenAt P
    have hby := getD_lt HX.out P
    obtain ⟨Y, hY⟩ : ∃ Y, Y = bs.getD P 0 := ⟨_, rfl⟩
    rw [← hY] at e1 hby
    have HY := Lib.hid hY
    clear hY hown' hown3 hgrow OL HC1
    go_wp2_with fail
    obtain ⟨Z, hZ⟩ : ∃ Z, Z = (Y + q) % 256 := ⟨_, rfl⟩
    have hZi : ((Y : Int) + (q : Int)) % 256 = (Z : Int) := by omega
    have hZ9 : Z < 256 := by omega
    rw [hZi]
    obtain ⟨w5, hw5⟩ : ∃ w5, w5 = w3.setCell ⟨g, P, none⟩ (.int .u8 (Z : Nat)) := ⟨_, rfl⟩
    have O5 : Hid (w5.ownsRow w.heap.size 5 1 (.slice (some ⟨g, 0, none⟩) L c3) L (u8s (bs.set P Z))) := Lib.hid (by rw [hw5, ← u8s_set]; exact (O3.out.stored P _).1)
    have B5 : Hid (Below w.heap.size w w5) := Lib.hid (by
      rw [hw5]
      have hb := B3.out
      have hg := (O3.out.lt g rfl).1
      exact ⟨hb.os, hb.tape, hb.output, by simpa using hb.size, fun k hk => by rw [heap_setCell_other _ _ _ _ (by simp; omega)]; exact hb.block k hk⟩)
    rw [← hw5]
    have F5 := Lib.hid (G19.out w5 w.heap.size _ P Z hZ9 O5.out)
    have hne := HSUM.out P Z (by omega) hZ9 (by rw [← HY.out]; omega)
    have hs1 := Kc.sum_lt (bs.set P Z)
    obtain ⟨S2, hS2⟩ : ∃ S2, S2 = Kc.sum (bs.set P Z) := ⟨_, rfl⟩
    rw [← hS2] at F5 hne hs1
    have hd : ((S2 : Int) != (S : Int)) = true := by simp; omega
    clear hw5 e1 e2 hby hZ hZi hmod hwn hwl hS2 hne
    refine F5.out.mono ?_
    rintro e w6 ⟨rfl, h6⟩
    have B6 := Lib.hid (B5.out.trans (h6.mono B5.out.size))
    clear h6
    go_wp2_with fail
    refine (F19.out _ B6.out).mono ?_
    rintro e w7 ⟨rfl, h7⟩
    have B7 := Lib.hid (B6.out.trans (h7.mono B6.out.size))
    clear h7
    go_wp2_with fail
    go_ret
    exact ⟨rfl, B7.out⟩
end Ku
end Go.Proofs.YtjmddomkoholoaaDoor
