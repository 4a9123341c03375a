import Derived.Test.YtlnokbkkjcpeoaaDoorG44
import Derived.Test.YtlnokbkkjcpeoaaDoorG45
import Derived.Test.YtlnokbkkjcpeoaaDoorG47
import Derived.Test.YtlnokbkkjcpeoaaDoorG21
import Derived.Test.YtlnokbkkjcpeoaaDoorG17
import Derived.Test.YtlnokbkkjcpeoaaDoorG19
import Derived.Test.YtlnokbkkjcpeoaaDoorG18
import Derived.Test.YtlnokbkkjcpeoaaDoorG38

/- The document's Decode. -/
namespace Go.Proofs.YtlnokbkkjcpeoaaDoor
open Go.RowKit
namespace Qr
open Cm Wr Bm Rd Cv Vs Rw Rf Ro Qo Sz Pk Rx

set_option maxRecDepth 100000 in
set_option maxHeartbeats 4000000 in
theorem qnil (w : World) (a : Option Addr) (c : Nat) (n : Nat) (k : Int) (hk : k = 2 ∨ k = 4) :
    Calls Tryd.prog 21 #[.int .i64 k, .int .i64 (n : Nat), .slice a 0 c] w fun e w' => Rq w k n [] e w' := by
  rcases hk with rfl | rfl
  · go_enter Tryd.func21, Tryd.ntmps21
    go_wp2_with fail
    go_ret
    exact Rq.none ints_none (Below.refl _ _)
  · go_enter Tryd.func21, Tryd.ntmps21
    go_wp2_with fail
    go_ret
    exact Rq.none texts_none (Below.refl _ _)

set_option maxRecDepth 100000 in
set_option maxHeartbeats 4000000 in
theorem qother (w : World) (a : Option Addr) (l c : Nat) (bs : List Nat) (n : Nat) (k : Int) (k1 : k ≠ 1) (k2 : k ≠ 2) (k3 : k ≠ 3) (k4 : k ≠ 4) :
    Calls Tryd.prog 21 #[.int .i64 k, .int .i64 (n : Nat), .slice a l c] w fun e w' => Rq w k n bs e w' := by
  have HN := Lib.hid (fun T => Of.no (k := k) (n := n) (b := bs) (by omega) T)
  have i1 : (k == 1) = false := by rw [beq_eq_false_iff_ne]; exact k1
  have i2 : (k == 2) = false := by rw [beq_eq_false_iff_ne]; exact k2
  have i3 : (k == 3) = false := by rw [beq_eq_false_iff_ne]; exact k3
  have i4 : (k == 4) = false := by rw [beq_eq_false_iff_ne]; exact k4
  go_enter Tryd.func21, Tryd.ntmps21
  go_wp2_with fail
  go_ret
  exact Rq.none HN.out (Below.refl _ _)

theorem qread (w : World) (v : Value) (bs : List Nat) (k : Int) (n : Nat) (hP : Pl w v bs) (hX : ∀ b ∈ bs, b < 256) (hb : bs.length ≤ 10000000000) (hn1 : 1 ≤ n) (hn9 : n ≤ 1000) :
    Calls Tryd.prog 21 #[.int .i64 k, .int .i64 (n : Nat), v] w fun e w' => Rq w k n bs e w' := by
  by_cases k1 : k = 1
  · subst k1; exact qfloats w v bs n hP hX hb hn1 hn9
  by_cases k3 : k = 3
  · subst k3; exact qbools w v bs n hP hX hb hn9
  by_cases k24 : k = 2 ∨ k = 4
  · rcases hP with ⟨rfl, a, c, rfl⟩ | ⟨h0, b, off, c, rfl, hlc, hcell⟩
    · exact qnil w a c n k k24
    · cases bs with
      | nil => simp at h0
      | cons m r =>
        have hXr : ∀ x ∈ r, x < 256 := fun x hx => hX x (by simp [hx])
        have hm := hX m (by simp)
        simp only [List.length_cons] at hb hlc
        rcases k24 with rfl | rfl
        · by_cases m0 : m = 0
          · subst m0; exact qplain w b off c r n hlc hcell hXr (by omega) hn9
          · exact qsteps w b off c m r n m0 hlc hcell hXr hm (by omega) hn1 hn9
        · by_cases m1 : m = 1
          · subst m1; exact qtexts1 w b off c r n hlc hcell hXr (by omega) hn1 hn9
          · exact qtexts0 w b off c m r n m1 hlc hcell hXr (by omega) hn1 hn9
  · obtain ⟨a, l, c, rfl⟩ : ∃ a l c, v = .slice a l c := by
      rcases hP with ⟨rfl, a, c, rfl⟩ | ⟨h0, b, off, c, rfl, hlc, hcell⟩
      · exact ⟨_, _, _, rfl⟩
      · exact ⟨_, _, _, rfl⟩
    exact qother w a l c bs n k k1 (by omega) k3 (by omega)

set_option maxRecDepth 100000 in
set_option maxHeartbeats 4000000 in
theorem refdecode11 (w : World) (v : Value) (bs : List Nat) (k n : Int) (hP : Pl w v bs) (hX : ∀ b ∈ bs, b < 256) (hb : bs.length ≤ 10000000000) :
    Calls Tryd.prog 10 #[.int .i64 k, .int .i64 n, v] w fun e w' => De.Dec w k n bs e w' := by
  by_cases hn : n < 1 ∨ 1000 < n
  · have HN := Lib.hid (fun T (h : Of k n.toNat bs T) => (show False from by have := h.parts; omega))
    clear hP hX hb
    rcases hn with hn | hn
    · go_enter Tryd.func10, Tryd.ntmps10
      go_wp2_with fail
      go_ret2
      exact ⟨.inr ⟨HN.out, rfl⟩, Below.refl _ _⟩
    · have hn1 : ¬ n < 1 := by omega
      go_enter Tryd.func10, Tryd.ntmps10
      go_wp2_with fail
      go_ret2
      exact ⟨.inr ⟨HN.out, rfl⟩, Below.refl _ _⟩
  obtain ⟨N, rfl⟩ : ∃ N : Nat, n = (N : Int) := ⟨n.toNat, by omega⟩
  have FR := Lib.hid (qread w v bs k N hP hX hb (by omega) (by omega))
  have FE := Lib.hid (fun (y : World) (r : Value) (T : List Vl) (h : Vi y r T) => Ren.refencode9 y r T h)
  have HCV := Lib.hid (fun (y : World) (hy : Below w.heap.size w y) => conv_pl (hP.below hy))
  have HXB := Lib.hid hX
  have n1 : ¬ (N : Int) < 1 := by omega
  have n2 : ¬ (1000 : Int) < (N : Int) := by omega
  clear hP hX hb hn
  go_enter Tryd.func10, Tryd.ntmps10
  go_wp2_with fail
  refine FR.out.mono ?_
  rintro e w2 ⟨r, T, rfl, o2, k2, b2⟩
  have hw : ∀ x ∈ T, Wv x := fun x hx => (k2.2.1 x hx).2
  have hV := vi_own o2 hw
  have F10 := Lib.hid (FE.out w2 r T hV)
  have HLT := Lib.hid (De.enc_lt hw)
  have HK := Lib.hid k2
  have B2 := Lib.hid b2
  have HO := Lib.hid o2
  obtain ⟨ar, cr, hr⟩ := hV.forms
  subst hr
  obtain ⟨TL, hTL⟩ : ∃ TL, TL = T.length := ⟨_, rfl⟩
  have HTL := Lib.hid hTL
  rw [← hTL] at F10 HO ⊢
  clear o2 k2 b2 hw hV hTL
  go_wp2_with fail
  refine F10.out.mono ?_
  rintro e w3 ⟨r3, rfl, o3, b3⟩
  have B3 := Lib.hid (B2.out.trans (b3.mono B2.out.size))
  have HO3 := Lib.hid (show w3.ownsRow w.heap.size 34 3 (.slice ar TL cr) TL (vcs T) from HO.out.kept (row := none) ⟨b3.os, b3.tape, b3.output, b3.size, fun k hk _ => b3.block k hk⟩ (by
    by_cases e : (Value.slice ar TL cr).ownBlock = none
    · exact .inl e
    · exact .inr e))
  by_cases hTN : TL = N
  case neg =>
    have HN := Lib.hid (HK.out.short (by rw [← HTL.out]; exact hTN))
    have hne : ((TL : Int) != (N : Int)) = true := by simp; omega
    clear o3 b3
    go_wp2_with fail
    go_ret2
    exact ⟨.inr ⟨HN.out, rfl⟩, B3.out⟩
  subst hTN
  have HOF := Lib.hid (fun (h : enc T = (0, bs)) => (show Of k TL bs T from ⟨HTL.out.symm, HK.out.2.1, h⟩))
  have HNO := Lib.hid (fun (h : enc T ≠ (0, bs)) => (show ∀ U, ¬ Of k TL bs U from fun U hU => h (by rw [← HK.out.2.2 U hU]; exact hU.2.2)))
  have hcu := conv_own o3
  have hcv := HCV.out _ B3.out
  obtain ⟨⟨c, ob⟩, hc⟩ : ∃ a, a = enc T := ⟨_, rfl⟩
  rw [← hc] at o3 hcu HLT HOF HNO ⊢
  simp only at o3 hcu HLT HOF HNO ⊢
  by_cases hc0 : c = 0
  · subst hc0
    by_cases hob : ob = bs
    · subst hob
      clear o3 b3 hc
      go_wp2_with fail
      go_ret2
      exact ⟨.inl ⟨T, _, rfl, by rw [← HTL.out]; exact HO3.out, HOF.out (by first | rfl | trivial), HK.out.2.2⟩, B3.out⟩
    · have HN := Lib.hid (HNO.out fun e => hob (by cases e; rfl))
      have hsn : ¬ str ob = str bs := fun e => hob (str_inj HLT.out HXB.out e)
      obtain ⟨s1, hs1⟩ : ∃ s1, s1 = str ob := ⟨_, rfl⟩
      obtain ⟨s2, hs2⟩ : ∃ s2, s2 = str bs := ⟨_, rfl⟩
      rw [← hs1] at hcu hsn
      rw [← hs2] at hcv hsn
      have hsl : (s1.toList == s2.toList) = false := by first | exact De.toList_ne hsn | (rw [beq_eq_false_iff_ne]; exact De.toList_ne hsn) | exact toList_ne hsn | (rw [beq_eq_false_iff_ne]; exact toList_ne hsn)
      clear o3 b3 hc hob hs1 hs2
      go_wp2_with fail
      go_ret2
      exact ⟨.inr ⟨HN.out, rfl⟩, B3.out⟩
  · have hcz : ((c : Int) != 0) = true := by simp; omega
    have HN := Lib.hid (HNO.out fun e => hc0 (by cases e; rfl))
    clear o3 hcu hcv b3 hc hc0
    go_wp2_with fail
    go_ret2
    exact ⟨.inr ⟨HN.out, rfl⟩, B3.out⟩
end Qr
end Go.Proofs.YtlnokbkkjcpeoaaDoor

/- The law ColumnDecodes. -/
namespace Go.Proofs.YtlnokbkkjcpeoaaDoor
open Go.RowKit
namespace An
open Cm Wr Bm Pk Zs Vs Fo Cv Fl Ld En De Lk Rw Qr Sa

/-- What Decode answers is one thing. -/
theorem dec_one (k n : Int) (bs : List Nat) : ∃ (T : List Vl) (c : Nat), (∀ x ∈ T, Wv x) ∧ T.length ≤ 1000 ∧ ∀ w e w', Dec w k n bs e w' → ∃ r, e = .returned (.tuple #[r, .int .i64 (c : Nat)]) ∧ w'.ownsRow w.heap.size 34 3 r T.length (vcs T) ∧ Below w.heap.size w w' := by
  by_cases h : ∃ T, Of k n.toNat bs T
  · obtain ⟨T, h⟩ := h
    refine ⟨T, 0, fun x hx => (h.2.1 x hx).2, by have := h.parts; have := h.1; omega, fun w e w' hd => ?_⟩
    obtain ⟨⟨T', r, he, ho, _, hu⟩ | ⟨hno, _⟩, b⟩ := hd
    · rw [hu T h]
      exact ⟨r, he, ho, b⟩
    · exact absurd h (hno T)
  · refine ⟨[], 2, by simp, by simp, fun w e w' hd => ?_⟩
    obtain ⟨⟨T', r, _, _, hof, _⟩ | ⟨_, he⟩, b⟩ := hd
    · exact absurd ⟨T', hof⟩ h
    · exact ⟨_, he, World.ownsRow_nil _ _ _ _, b⟩

set_option maxRecDepth 100000 in
set_option maxHeartbeats 2000000 in
theorem decodes4 (w : World) (v : Value) (bs : List Nat) (kind n : Int) (hB : By w v bs) (hX : ∀ b ∈ bs, b < 256) (hb : bs.length ≤ 10000000000) (hT : Tab w) (hD : Dt w) :
    Calls Tryd.prog 3 #[.int .i64 kind, .int .i64 n, v] w fun e w' => e = .returned (.bool true) ∧ Below w.heap.size w w' := by
  have FA := Lib.hid (awake8 w hT hD)
  have FD := Lib.hid (fun (k : Int) => (show ∃ (T : List Vl) (c : Nat), (∀ x ∈ T, Wv x) ∧ T.length ≤ 1000 ∧ (∀ x, Below w.heap.size w x → Calls Tryd.prog 10 #[.int .i64 k, .int .i64 n, v] x fun e w' => ∃ r, e = .returned (.tuple #[r, .int .i64 (c : Nat)]) ∧ w'.ownsRow x.heap.size 34 3 r T.length (vcs T) ∧ Below x.heap.size x w') ∧
      (∀ x, Below w.heap.size w x → Calls Tryd.prog 11 #[.int .i64 k, .int .i64 n, v] x fun e w' => ∃ r, e = .returned (.tuple #[r, .int .i64 (c : Nat)]) ∧ w'.ownsRow x.heap.size 34 3 r T.length (vcs T) ∧ Below x.heap.size x w') from by
    obtain ⟨T, c, h1, h2, h3⟩ := dec_one k n bs
    refine ⟨T, c, h1, h2, fun x hx => (refdecode11 x v bs k n (hB.2.below hx) hX hb).mono fun e w' hd => h3 x e w' hd, fun x hx => (decode12 x v bs k n (hB.below hx) hX (by omega) (hT.below hx hT.1) (hD.below hx (by have := hD.1; omega))).mono fun e w' hd => h3 x e w' hd⟩))
  clear hB hX hb hT hD
  go_enter Tryd.func3, Tryd.ntmps3
  go_wp2_with (go_at_call 9; refine FA.out.mono ?_; rintro e w1 ⟨rfl, b1⟩; have B1 := Lib.hid b1; clear b1)
  go_loopw [15] (fun i wr => ∃ k : Nat, k ≤ 5 ∧ i = .int .i64 (k : Nat) ∧ Below w.heap.size w wr) (fun i _ => 5 - (intOf i).toNat)
  case atStart => exact ⟨0, by omega, rfl, B1.out⟩
  case round =>
    obtain ⟨k, hk, rfl, hb⟩ := hrel
    have HB := Lib.hid hb
    clear hb
    by_cases hk5 : k < 5
    · by_cases hk0 : k = 0
      · subst hk0
        obtain ⟨T, c, hw, hT9, F11, F12⟩ := FD.out kind
        have G11 := Lib.hid F11
        have G12 := Lib.hid F12
        have HW := Lib.hid hw
        have HT9 := Lib.hid hT9
        clear F11 F12 hw hT9
        go_wp2_with fail
        refine (G11.out _ HB.out).mono ?_
        rintro e w2 ⟨r2, rfl, o2, b2⟩
        have B2 := Lib.hid (HB.out.trans (b2.mono HB.out.size))
        have O2 := Lib.hid o2
        clear o2 b2
        go_wp2_with fail
        refine (G12.out _ B2.out).mono ?_
        rintro e w3 ⟨r3, rfl, o3, b3⟩
        have B3 := Lib.hid (B2.out.trans (b3.mono B2.out.size))
        have FS := Lib.hid (same13 w3 r3 r2 T T (vi_own o3 HW.out) ((vi_own O2.out HW.out).below b3) (by have := HT9.out; omega))
        rw [decide_eq_true rfl] at FS
        clear o3 b3
        go_wp2_with fail
        refine FS.out.mono ?_
        rintro e w4 ⟨rfl, b4⟩
        have B4 := Lib.hid (B3.out.trans (b4.mono B3.out.size))
        clear b4
        go_wp2_with fail
        go_roundw
        case rel => exact ⟨1, by omega, by go_num, B4.out⟩
        case measure => simp [intOf] <;> omega
      · have hki : (0 : Int) < (k : Int) := by omega
        obtain ⟨T, c, hw, hT9, F11, F12⟩ := FD.out (k : Int)
        have G11 := Lib.hid F11
        have G12 := Lib.hid F12
        have HW := Lib.hid hw
        have HT9 := Lib.hid hT9
        clear F11 F12 hw hT9
        go_wp2_with fail
        refine (G11.out _ HB.out).mono ?_
        rintro e w2 ⟨r2, rfl, o2, b2⟩
        have B2 := Lib.hid (HB.out.trans (b2.mono HB.out.size))
        have O2 := Lib.hid o2
        clear o2 b2
        go_wp2_with fail
        refine (G12.out _ B2.out).mono ?_
        rintro e w3 ⟨r3, rfl, o3, b3⟩
        have B3 := Lib.hid (B2.out.trans (b3.mono B2.out.size))
        have FS := Lib.hid (same13 w3 r3 r2 T T (vi_own o3 HW.out) ((vi_own O2.out HW.out).below b3) (by have := HT9.out; omega))
        rw [decide_eq_true rfl] at FS
        clear o3 b3
        go_wp2_with fail
        refine FS.out.mono ?_
        rintro e w4 ⟨rfl, b4⟩
        have B4 := Lib.hid (B3.out.trans (b4.mono B3.out.size))
        clear b4
        go_wp2_with fail
        go_roundw
        case rel => exact ⟨k + 1, by omega, by go_num, B4.out⟩
        case measure => simp [intOf] <;> omega
    · obtain rfl : k = 5 := by omega
      go_wp2_with fail
      go_ret
      exact ⟨rfl, HB.out⟩
end An
end Go.Proofs.YtlnokbkkjcpeoaaDoor

/- The law ColumnBack. -/
namespace Go.Proofs.YtlnokbkkjcpeoaaDoor
open Go.RowKit
namespace Ax
open Cm Wr Bm Pk Zs Vs Fo Cv Fl Ld En De Lk Rw Qr Sa An

theorem enc_no {T : List Vl} (h : (enc T).1 ≠ 0) : (enc T).2 = [] := by
  by_cases h0 : T.length = 0 ∨ 1000 < T.length
  · rw [enc_len h0]
  · cases hf : T.all formed with
    | false => rw [enc_bad hf]
    | true =>
      cases ho : one T with
      | false => rw [enc_mixed (by omega) (by omega) hf ho]
      | true =>
        rw [enc_kind (by omega) (by omega) hf ho] at h ⊢
        by_cases k1 : (T.getD 0 z0).1 = 1
        · rw [if_pos k1] at h; exact absurd rfl h
        rw [if_neg k1] at h ⊢
        by_cases k2 : (T.getD 0 z0).1 = 2
        · rw [if_pos k2] at h; exact absurd rfl h
        rw [if_neg k2] at h ⊢
        by_cases k3 : (T.getD 0 z0).1 = 3
        · rw [if_pos k3] at h; exact absurd rfl h
        rw [if_neg k3] at h ⊢
        unfold senc at h ⊢
        split
        · rfl
        · rename_i hs
          rw [if_neg hs] at h
          exact absurd rfl h

set_option maxRecDepth 100000 in
set_option maxHeartbeats 2000000 in
theorem back5 (w : World) (v : Value) (T : List Vl) (n y : Int) (h : Vi w v T) (hT : Tab w) (hD : Dt w) (y1 : 0 ≤ y) (y2 : y < 256) :
    Calls Tryd.prog 4 #[v, .int .i64 n, .int .u8 y] w fun e w' => e = .returned (.bool true) ∧ Below w.heap.size w w' := by
  obtain ⟨q, rfl⟩ := Int.eq_ofNat_of_zero_le y1
  have FA := Lib.hid (awake8 w hT hD)
  have F10 := Lib.hid (fun (x : World) (hb : Below w.heap.size w x) => (show Calls Tryd.prog 13 #[v] x fun e w' => ∃ r, e = .returned (.tuple #[r, .int .i64 ((enc T).1 : Nat)]) ∧ w'.ownsRow x.heap.size 5 1 r (enc T).2.length (u8s (enc T).2) ∧ Below x.heap.size x w' from encode10 x v T (h.below hb) (hT.below hb hT.1) (hD.below hb (by have := hD.1; omega))))
  by_cases hc : (enc T).1 = 0
  case neg =>
    have hn := enc_no hc
    obtain ⟨c, hce⟩ : ∃ c, c = (enc T).1 := ⟨_, rfl⟩
    rw [← hce] at F10 hc
    rw [hn] at F10
    have hcz : ((c : Int) != 0) = true := by simp; omega
    clear h hT hD hce
    go_enter Tryd.func4, Tryd.ntmps4
    go_wp2_with (go_at_call 9; refine FA.out.mono ?_; rintro e w1 ⟨rfl, b1⟩; have B1 := Lib.hid b1; clear b1)
    refine (F10.out _ B1.out).mono ?_
    rintro e w2 ⟨r2, rfl, o2, b2⟩
    have B2 := Lib.hid (B1.out.trans (b2.mono B1.out.size))
    clear b2
    rcases Go.Joins.ownsRow_forms o2 with ⟨rfl, _⟩ | ⟨g, c2, rfl⟩
    all_goals
      clear o2
      go_wp2_with fail
      go_ret
      exact ⟨rfl, B2.out⟩
  have hof := Kd.enc_of h.1 hc
  obtain ⟨hb1, hb9⟩ := Ke.enc_size h.1 hc
  have hX := enc_lt h.1
  obtain ⟨ht1, ht9, _⟩ := Kd.enc_formed hc
  rw [hc] at F10
  obtain ⟨bs, hbs⟩ : ∃ bs, bs = (enc T).2 := ⟨_, rfl⟩
  rw [← hbs] at F10 hof hb1 hb9 hX
  obtain ⟨k, hk⟩ : ∃ k, k = (T.getD 0 z0).1 := ⟨_, rfl⟩
  rw [← hk] at hof
  obtain ⟨b, off, cc, hv, hcc, hbw, hat⟩ : ∃ b off c, v = .slice (some ⟨b, off, none⟩) T.length c ∧ T.length ≤ c ∧ b < w.heap.size ∧ ∀ i, i < T.length → At w b (off + i * 3) (T.getD i z0) := by
    rcases h.2 with ⟨_, _, _, rfl⟩ | h2
    · simp at ht1
    · exact h2
  have HK := Lib.hid (fun (x : World) (hx : Below w.heap.size w x) => (show x.cell? ⟨b, off, none⟩ = some (.int .i64 k) from by
    have h1 := (hat 0 (by omega)).1
    rw [hk]
    simpa using (hx.cell (p := ⟨b, off + 0 * 3, none⟩) hbw).trans h1))
  have HTD := Lib.hid (fun (x : World) (hb : Below w.heap.size w x) => And.intro (hT.below hb hT.1) (hD.below hb (by have := hD.1; omega)))
  have G12 := Lib.hid (fun (x : World) (B : Nat) (r : Value) (hx : Below w.heap.size w x) (ho : x.ownsRow B 5 1 r bs.length (u8s bs)) => (show Calls Tryd.prog 11 #[.int .i64 k, .int .i64 (T.length : Nat), r] x fun e w' => ∃ q, e = .returned (.tuple #[q, .int .i64 0]) ∧ w'.ownsRow x.heap.size 34 3 q T.length (vcs T) ∧ Below x.heap.size x w' from
    (decode12 x r bs k (T.length : Nat) (by_own ho) hX (by omega) (HTD.out x hx).1 (HTD.out x hx).2).mono fun e w' hd => by
      obtain ⟨⟨T', q, he, ho', _, hu⟩ | ⟨hno, _⟩, bl⟩ := hd
      · rw [hu T hof]
        exact ⟨q, he, ho', bl⟩
      · exact absurd hof (hno T)))
  have G13 := Lib.hid (fun (x : World) (B : Nat) (r : Value) (hx : Below w.heap.size w x) (ho : x.ownsRow B 34 3 r T.length (vcs T)) => (show Calls Tryd.prog 12 #[r, v] x fun e w' => e = .returned (.bool true) ∧ Below x.heap.size x w' from by
    have := same13 x r v T T (vi_own ho h.1) (h.below hx) (by omega)
    rwa [decide_eq_true rfl] at this))
  have HX := Lib.hid hX
  obtain ⟨L, hL⟩ : ∃ L, L = bs.length := ⟨_, rfl⟩
  have HLL := Lib.hid hL
  obtain ⟨N, hN⟩ : ∃ N, N = T.length := ⟨_, rfl⟩
  have GT2 := Lib.hid (fun (j z : Nat) (hz : z < 256) => (show ∃ (U : List Vl) (c : Nat), (∀ x ∈ U, Wv x) ∧ U.length ≤ 1000 ∧ (∀ x B r, Below w.heap.size w x → World.ownsRow x B 5 1 r L (u8s (bs.set j z)) → Calls Tryd.prog 11 #[.int .i64 k, .int .i64 (N : Nat), r] x fun e w' => ∃ q, e = .returned (.tuple #[q, .int .i64 (c : Nat)]) ∧ w'.ownsRow x.heap.size 34 3 q U.length (vcs U) ∧ Below x.heap.size x w') ∧
      (∀ x B r, Below w.heap.size w x → World.ownsRow x B 5 1 r L (u8s (bs.set j z)) → Calls Tryd.prog 10 #[.int .i64 k, .int .i64 (N : Nat), r] x fun e w' => ∃ q, e = .returned (.tuple #[q, .int .i64 (c : Nat)]) ∧ w'.ownsRow x.heap.size 34 3 q U.length (vcs U) ∧ Below x.heap.size x w') from by
    obtain ⟨U, c, u1, u2, u3⟩ := dec_one k (N : Nat) (bs.set j z)
    have hl' : L = (bs.set j z).length := by rw [List.length_set]; exact hL
    rw [hl']
    refine ⟨U, c, u1, u2, fun x B r hx ho => (decode12 x r (bs.set j z) k (N : Nat) (by_own ho) (Ku.set_lt hX j z hz) (by omega) (HTD.out x hx).1 (HTD.out x hx).2).mono fun e w' hd => u3 x e w' hd, fun x B r hx ho => (refdecode11 x r (bs.set j z) k (N : Nat) (by_own ho).2 (Ku.set_lt hX j z hz) (by omega)).mono fun e w' hd => u3 x e w' hd⟩))
  rw [← hL] at F10 G12 hb1 hb9
  rw [← hN] at G12 G13 ht1 ht9 hv hcc
  obtain ⟨U, hU⟩ : ∃ U, U = Tm.ut n := ⟨_, rfl⟩
  have hu := @Tm.ut_of n
  rw [← hU] at hu
  have hwn : IntKind.u64.wrap n = (U : Int) := by rw [IntKind.wrap_u64]; omega
  have hwl : IntKind.u64.wrap (L : Int) = (L : Int) := by rw [IntKind.wrap_u64]; omega
  obtain ⟨p, hPe⟩ : ∃ p, p = U % L := ⟨_, rfl⟩
  have hpl : p < L := by rw [hPe]; exact Nat.mod_lt _ (by omega)
  have hmod : (U : Int) % (L : Int) = (p : Int) := by rw [hPe]; push_cast; rfl
  subst hv
  clear h hT hD hc hof hX hL hN hU hu hPe hbs hk hat
  go_enter Tryd.func4, Tryd.ntmps4
  go_wp2_with (go_at_call 9; refine FA.out.mono ?_; rintro e w1 ⟨rfl, b1⟩; have B1 := Lib.hid b1; clear b1)
  refine (F10.out _ B1.out).mono ?_
  rintro e w2 ⟨r2, rfl, o2, b2⟩
  have O2 := Lib.hid o2
  have B2 := Lib.hid (B1.out.trans (b2.mono B1.out.size))
  have HG := Lib.hid (fun g (hg : r2.ownBlock = some g) => (show w.heap.size ≤ g from Nat.le_trans B1.out.size (o2.lt g hg).1))
  have e2 := HK.out _ B2.out
  clear b2 o2
  go_wp2_with fail
  refine (G12.out _ _ _ B2.out O2.out).mono ?_
  rintro e w3 ⟨r3, rfl, o3, b3⟩
  have O3 := Lib.hid o3
  have O23 := Lib.hid (Rp.own_below O2.out b3)
  have B3 := Lib.hid (B2.out.trans (b3.mono B2.out.size))
  clear o3 b3 e2
  go_wp2_with fail
  refine (G13.out _ _ _ B3.out O3.out).mono ?_
  rintro e w4 ⟨rfl, b4⟩
  have O24 := Lib.hid (Rp.own_below O23.out b4)
  have B4 := Lib.hid (B3.out.trans (b4.mono B3.out.size))
  clear b4
  obtain ⟨g, c4, hr⟩ := Go.Joins.ownsRow_form O24.out (by omega)
  subst hr
  have e1 : w4.cell? ⟨g, p, none⟩ = some (.int .u8 (bs.getD p 0 : Nat)) := by
    rw [O24.out.cellAt p (by omega)]
    exact u8s_get bs p (by have := HLL.out; omega)
  have e2 : w4.frozen? ⟨g, p, none⟩ = false := O24.out.frozenAt p
  have hby := getD_lt HX.out p
  obtain ⟨Y, hY⟩ : ∃ Y, Y = bs.getD p 0 := ⟨_, rfl⟩
  rw [← hY] at e1 hby
  clear hY
  have hgb : g ≠ b := by have := HG.out g rfl; omega
  have hbg : b ≠ g := fun e => hgb e.symm
  have e4 := HK.out _ B4.out
  have e3 : (w4.setCell ⟨g, p, none⟩ (.int .u8 (((Y : Int) + (q : Int)) % 256))).cell? ⟨b, off, none⟩ = some (.int .i64 k) := (World.cell?_setCell_far w4 _ _ _ hgb).trans e4
  go_wp2_with fail
  obtain ⟨Z, hZ⟩ : ∃ Z, Z = (Y + q) % 256 := ⟨_, rfl⟩
  have hZi : ((Y : Int) + (q : Int)) % 256 = (Z : Int) := by omega
  have hZ9 : Z < 256 := by omega
  rw [hZi] at e3 ⊢
  obtain ⟨w5, hw5⟩ : ∃ w5, w5 = w4.setCell ⟨g, p, none⟩ (.int .u8 (Z : Nat)) := ⟨_, rfl⟩
  have O5 : Hid (w5.ownsRow w1.heap.size 5 1 (.slice (some ⟨g, 0, none⟩) L c4) L (u8s (bs.set p Z))) := Lib.hid (by rw [hw5, Wr.u8s_set]; exact (O24.out.stored p _).1)
  have B5 : Hid (Below w.heap.size w w5) := Lib.hid (by
    rw [hw5]
    have hb := B4.out
    have hg := HG.out g rfl
    exact ⟨hb.os, hb.tape, hb.output, by simpa using hb.size, fun k hk => by rw [heap_setCell_other _ _ _ _ (by simp; omega)]; exact hb.block k hk⟩)
  rw [← hw5] at e3 ⊢
  obtain ⟨U, c, hwU, hlU, F12, F11⟩ := GT2.out p Z hZ9
  have G12' := Lib.hid F12
  have G11' := Lib.hid F11
  have HWU := Lib.hid hwU
  have HLU := Lib.hid hlU
  clear F11 F12 hwU hlU hw5 e1 e2 e4 hby hZ hZi hmod hwn hwl hgb hbg
  refine (G12'.out _ _ _ B5.out O5.out).mono ?_
  rintro e w6 ⟨r6, rfl, o6, b6⟩
  have O6 := Lib.hid o6
  have O56 := Lib.hid (Rp.own_below O5.out b6)
  have B6 := Lib.hid (B5.out.trans (b6.mono B5.out.size))
  have e6 := HK.out _ B6.out
  clear o6 b6 e3
  go_wp2_with fail
  refine (G11'.out _ _ _ B6.out O56.out).mono ?_
  rintro e w7 ⟨r7, rfl, o7, b7⟩
  have B7 := Lib.hid (B6.out.trans (b7.mono B6.out.size))
  have FS := Lib.hid (same13 w7 r6 r7 U U ((vi_own O6.out HWU.out).below b7) (vi_own o7 HWU.out) (by have := HLU.out; omega))
  rw [decide_eq_true rfl] at FS
  clear o7 b7 e6
  go_wp2_with fail
  refine FS.out.mono ?_
  rintro e w8 ⟨rfl, b8⟩
  have B8 := Lib.hid (B7.out.trans (b8.mono B7.out.size))
  clear b8
  go_wp2_with fail
  go_ret
  exact ⟨rfl, B8.out⟩
end Ax
end Go.Proofs.YtlnokbkkjcpeoaaDoor
