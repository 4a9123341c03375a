import Derived.Test.YtjmddomkoholoaaGreatDoorG42
import Derived.Test.YtjmddomkoholoaaGreatDoorG43
import Derived.Test.YtjmddomkoholoaaGreatDoorG45
import Derived.Test.YtjmddomkoholoaaGreatDoorG21
import Derived.Test.YtjmddomkoholoaaGreatDoorG17

/- The document's Decode. -/
namespace Go.Proofs.YtjmddomkoholoaaGreatDoor
open Go.RowKit
namespace Qr
open Cm Wr Bm Rd Cv Vs Rw Rf Ro Qo Sz Pk Rx

set_option maxRecDepth 100000 in
set_option maxHeartbeats 4000000 in
theorem qnil (w : World) (a : Option Addr) (c : Nat) (n : Nat) (k : Int) (hk : k = 2 ∨ k = 4) :
    Calls Tryz.prog 53 #[.int .i64 k, .int .i64 (n : Nat), .slice a 0 c] w fun e w' => Rq w k n [] e w' := by
  rcases hk with rfl | rfl
  · go_enter Tryz.func53, Tryz.ntmps53
    go_wp2_with fail
    go_ret
    exact Rq.none ints_none (Below.refl _ _)
  · go_enter Tryz.func53, Tryz.ntmps53
    go_wp2_with fail
    go_ret
    exact Rq.none texts_none (Below.refl _ _)

set_option maxRecDepth 100000 in
set_option maxHeartbeats 4000000 in
theorem qother (w : World) (a : Option Addr) (l c : Nat) (bs : List Nat) (n : Nat) (k : Int) (k1 : k ≠ 1) (k2 : k ≠ 2) (k3 : k ≠ 3) (k4 : k ≠ 4) :
    Calls Tryz.prog 53 #[.int .i64 k, .int .i64 (n : Nat), .slice a l c] w fun e w' => Rq w k n bs e w' := by
  have HN := Lib.hid (fun T => Of.no (k := k) (n := n) (b := bs) (by omega) T)
  have i1 : (k == 1) = false := by rw [beq_eq_false_iff_ne]; exact k1
  have i2 : (k == 2) = false := by rw [beq_eq_false_iff_ne]; exact k2
  have i3 : (k == 3) = false := by rw [beq_eq_false_iff_ne]; exact k3
  have i4 : (k == 4) = false := by rw [beq_eq_false_iff_ne]; exact k4
  go_enter Tryz.func53, Tryz.ntmps53
  go_wp2_with fail
  go_ret
  exact Rq.none HN.out (Below.refl _ _)

theorem qread (w : World) (v : Value) (bs : List Nat) (k : Int) (n : Nat) (hP : Pl w v bs) (hX : ∀ b ∈ bs, b < 256) (hb : bs.length ≤ 10000000000) (hn1 : 1 ≤ n) (hn9 : n ≤ 1000) :
    Calls Tryz.prog 53 #[.int .i64 k, .int .i64 (n : Nat), v] w fun e w' => Rq w k n bs e w' := by
  by_cases k1 : k = 1
  · subst k1; exact qfloats w v bs n hP hX hb hn1 hn9
  by_cases k3 : k = 3
  · subst k3; exact qbools w v bs n hP hX hb hn9
  by_cases k24 : k = 2 ∨ k = 4
  · rcases hP with ⟨rfl, a, c, rfl⟩ | ⟨h0, b, off, c, rfl, hlc, hcell⟩
    · exact qnil w a c n k k24
    · cases bs with
      | nil => simp at h0
      | cons m r =>
        have hXr : ∀ x ∈ r, x < 256 := fun x hx => hX x (by simp [hx])
        have hm := hX m (by simp)
        simp only [List.length_cons] at hb hlc
        rcases k24 with rfl | rfl
        · by_cases m0 : m = 0
          · subst m0; exact qplain w b off c r n hlc hcell hXr (by omega) hn9
          · exact qsteps w b off c m r n m0 hlc hcell hXr hm (by omega) hn1 hn9
        · by_cases m1 : m = 1
          · subst m1; exact qtexts1 w b off c r n hlc hcell hXr (by omega) hn1 hn9
          · exact qtexts0 w b off c m r n m1 hlc hcell hXr (by omega) hn1 hn9
  · obtain ⟨a, l, c, rfl⟩ : ∃ a l c, v = .slice a l c := by
      rcases hP with ⟨rfl, a, c, rfl⟩ | ⟨h0, b, off, c, rfl, hlc, hcell⟩
      · exact ⟨_, _, _, rfl⟩
      · exact ⟨_, _, _, rfl⟩
    exact qother w a l c bs n k k1 (by omega) k3 (by omega)

set_option maxRecDepth 100000 in
set_option maxHeartbeats 4000000 in
theorem refdecode11 (w : World) (v : Value) (bs : List Nat) (k n : Int) (hP : Pl w v bs) (hX : ∀ b ∈ bs, b < 256) (hb : bs.length ≤ 10000000000) :
    Calls Tryz.prog 22 #[.int .i64 k, .int .i64 n, v] w fun e w' => De.Dec w k n bs e w' := by
  by_cases hn : n < 1 ∨ 1000 < n
  · have HN := Lib.hid (fun T (h : Of k n.toNat bs T) => (show False from by have := h.parts; omega))
    clear hP hX hb
    rcases hn with hn | hn
    · go_enter Tryz.func22, Tryz.ntmps22
      go_wp2_with fail
      go_ret2
      exact ⟨.inr ⟨HN.out, rfl⟩, Below.refl _ _⟩
    · have hn1 : ¬ n < 1 := by omega
      go_enter Tryz.func22, Tryz.ntmps22
      go_wp2_with fail
      go_ret2
      exact ⟨.inr ⟨HN.out, rfl⟩, Below.refl _ _⟩
  obtain ⟨N, rfl⟩ : ∃ N : Nat, n = (N : Int) := ⟨n.toNat, by omega⟩
  have FR := Lib.hid (qread w v bs k N hP hX hb (by omega) (by omega))
  have FE := Lib.hid (fun (y : World) (r : Value) (T : List Vl) (h : Vi y r T) => Ren.refencode9 y r T h)
  have HCV := Lib.hid (fun (y : World) (hy : Below w.heap.size w y) => conv_pl (hP.below hy))
  have HXB := Lib.hid hX
  have n1 : ¬ (N : Int) < 1 := by omega
  have n2 : ¬ (1000 : Int) < (N : Int) := by omega
  clear hP hX hb hn
  go_enter Tryz.func22, Tryz.ntmps22
  go_wp2_with fail
  refine FR.out.mono ?_
  rintro e w2 ⟨r, T, rfl, o2, k2, b2⟩
  have hw : ∀ x ∈ T, Wv x := fun x hx => (k2.2.1 x hx).2
  have hV := vi_own o2 hw
  have F10 := Lib.hid (FE.out w2 r T hV)
  have HLT := Lib.hid (De.enc_lt hw)
  have HK := Lib.hid k2
  have B2 := Lib.hid b2
  have HO := Lib.hid o2
  obtain ⟨ar, cr, hr⟩ := hV.forms
  subst hr
  obtain ⟨TL, hTL⟩ : ∃ TL, TL = T.length := ⟨_, rfl⟩
  have HTL := Lib.hid hTL
  rw [← hTL] at F10 HO ⊢
  clear o2 k2 b2 hw hV hTL
  go_wp2_with fail
  refine F10.out.mono ?_
  rintro e w3 ⟨r3, rfl, o3, b3⟩
  have B3 := Lib.hid (B2.out.trans (b3.mono B2.out.size))
  have HO3 := Lib.hid (show w3.ownsRow w.heap.size 35 3 (.slice ar TL cr) TL (vcs T) from HO.out.kept (row := none) ⟨b3.os, b3.tape, b3.output, b3.size, fun k hk _ => b3.block k hk⟩ (by
    by_cases e : (Value.slice ar TL cr).ownBlock = none
    · exact .inl e
    · exact .inr e))
  by_cases hTN : TL = N
  case neg =>
    have HN := Lib.hid (HK.out.short (by rw [← HTL.out]; exact hTN))
    have hne : ((TL : Int) != (N : Int)) = true := by simp; omega
    clear o3 b3
    go_wp2_with fail
    go_ret2
    exact ⟨.inr ⟨HN.out, rfl⟩, B3.out⟩
  subst hTN
  have HOF := Lib.hid (fun (h : enc T = (0, bs)) => (show Of k TL bs T from ⟨HTL.out.symm, HK.out.2.1, h⟩))
  have HNO := Lib.hid (fun (h : enc T ≠ (0, bs)) => (show ∀ U, ¬ Of k TL bs U from fun U hU => h (by rw [← HK.out.2.2 U hU]; exact hU.2.2)))
  have hcu := conv_own o3
  have hcv := HCV.out _ B3.out
  obtain ⟨⟨c, ob⟩, hc⟩ : ∃ a, a = enc T := ⟨_, rfl⟩
  rw [← hc] at o3 hcu HLT HOF HNO ⊢
  simp only at o3 hcu HLT HOF HNO ⊢
  by_cases hc0 : c = 0
  · subst hc0
    by_cases hob : ob = bs
    · subst hob
      clear o3 b3 hc
      go_wp2_with fail
      go_ret2
      exact ⟨.inl ⟨T, _, rfl, by rw [← HTL.out]; exact HO3.out, HOF.out (by first | rfl | trivial), HK.out.2.2⟩, B3.out⟩
    · have HN := Lib.hid (HNO.out fun e => hob (by cases e; rfl))
      have hsn : ¬ str ob = str bs := fun e => hob (str_inj HLT.out HXB.out e)
      obtain ⟨s1, hs1⟩ : ∃ s1, s1 = str ob := ⟨_, rfl⟩
      obtain ⟨s2, hs2⟩ : ∃ s2, s2 = str bs := ⟨_, rfl⟩
      rw [← hs1] at hcu hsn
      rw [← hs2] at hcv hsn
      have hsl : (s1.toList == s2.toList) = false := by first | exact De.toList_ne hsn | (rw [beq_eq_false_iff_ne]; exact De.toList_ne hsn) | exact toList_ne hsn | (rw [beq_eq_false_iff_ne]; exact toList_ne hsn)
      clear o3 b3 hc hob hs1 hs2
      go_wp2_with fail
      go_ret2
      exact ⟨.inr ⟨HN.out, rfl⟩, B3.out⟩
  · have hcz : ((c : Int) != 0) = true := by simp; omega
    have HN := Lib.hid (HNO.out fun e => hc0 (by cases e; rfl))
    clear o3 hcu hcv b3 hc hc0
    go_wp2_with fail
    go_ret2
    exact ⟨.inr ⟨HN.out, rfl⟩, B3.out⟩
end Qr
end Go.Proofs.YtjmddomkoholoaaGreatDoor
