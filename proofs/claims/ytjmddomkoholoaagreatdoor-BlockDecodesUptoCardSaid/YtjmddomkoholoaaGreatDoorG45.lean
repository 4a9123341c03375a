import Derived.Test.YtjmddomkoholoaaGreatDoorG41
import Derived.Test.YtjmddomkoholoaaGreatDoorG17
import Derived.Test.YtjmddomkoholoaaGreatDoorG44

/- The document's read: strings. -/
namespace Go.Proofs.YtjmddomkoholoaaGreatDoor
open Go.RowKit
namespace Qr
open Cm Wr Bm Rd Cv Vs Rw Rf Ro Qo Sz Pk Rx

theorem qt_any {w : World} {B size n : Nat} {e : TypeId} {v : Value} {xs : List Value} (ho : w.ownsRow B e size v n xs) : ∃ a c, v = .slice a n c := by
  rcases Go.Joins.ownsRow_forms ho with ⟨rfl, h0⟩ | ⟨q, c, rfl⟩
  · exact ⟨none, 0, by rw [h0]⟩
  · exact ⟨_, _, rfl⟩
theorem conv_part' {w : World} {b off c k x : Nat} {bs : List Nat} (h : ∀ i, i < bs.length → w.cell? ⟨b, off + i, none⟩ = some (.int .u8 (bs.getD i 0 : Nat))) (hk : k + x ≤ bs.length) (hc : x ≤ c) :
    (convert 22 9 (.slice (some ⟨b, off + k, none⟩) x c)).run Tryz.prog w = .ok (.string (str ((bs.drop k).take x))) w := conv_part h hk hc
/-- Either B are the texts' bytes, or there are no values at all. -/
def Dx (n m : Nat) (r B : List Nat) : Prop := Tx m r B ∨ ∀ T, ¬ Of 4 n (m :: r) T
theorem Dx.full {n m : Nat} {r B : List Nat} {outs : List (List Nat)} {rest : List Nat} (h : Dx n m r B) (hg : GT B n outs rest) (hl : outs.length = n) (hb : ∀ t ∈ outs, ∀ x ∈ t, x < 256) : Rdk 4 n (m :: r) (mkT outs) := by
  rcases h with h | h
  · exact Rdk.texts h hg hl hb
  · exact ⟨by rw [mkT_len]; omega, mkT_wv hb, fun T hT => absurd hT (h T)⟩
theorem Dx.none {n m : Nat} {r B : List Nat} (h : Dx n m r B) (hg : NT B n) (T : List Vl) : ¬ Of 4 n (m :: r) T := by
  rcases h with h | h
  · exact Rdk.no_texts h hg T
  · exact h T
theorem Dx.few {n m : Nat} {r B : List Nat} {outs : List (List Nat)} (h : Dx n m r B) (hg : NT B n) (hl : outs.length ≤ n) (hb : ∀ t ∈ outs, ∀ x ∈ t, x < 256) : Rdk 4 n (m :: r) (mkT outs) :=
  ⟨by rw [mkT_len]; omega, mkT_wv hb, fun T hT => absurd hT (h.none hg T)⟩

set_option maxRecDepth 100000 in
set_option maxHeartbeats 8000000 in
theorem qtexts0 (w : World) (b off c m : Nat) (r : List Nat) (n : Nat) (hm : m ≠ 1) (hc : r.length + 1 ≤ c) (hcell : ∀ i, i < (m :: r).length → w.cell? ⟨b, off + i, none⟩ = some (.int .u8 ((m :: r).getD i 0 : Nat))) (hX : ∀ b ∈ r, b < 256) (hb : r.length ≤ 10000000000) (hn1 : 1 ≤ n) (hn9 : n ≤ 1000) :
    Calls Tryz.prog 53 #[.int .i64 4, .int .i64 (n : Nat), .slice (some ⟨b, off, none⟩) (r.length + 1) c] w fun e w' => Rq w 4 n (m :: r) e w' := by
  obtain ⟨i0, hi, hz0, hz1, hz2⟩ := info_parts info35
  have hbw : b < w.heap.size := cell_lt (hcell 0 (by simp))
  have e0 := hcell 0 (by simp)
  simp only [Nat.add_zero, List.getD_cons_zero] at e0
  have HD := Lib.hid (show Dx n m r r from by
    by_cases h0 : m = 0
    · exact .inl (.inl ⟨h0, rfl⟩)
    · exact .inr fun T => Rdk.no_other h0 hm T)
  obtain ⟨L, hL⟩ : ∃ L, L = r.length + 1 := ⟨_, rfl⟩
  have HB1 := Lib.hid (by_drop (k := 1) (c := c) (L := L) (by simp [hL]) (by omega) (by omega) hcell)
  have HT := Lib.hid (fun v (hv : By w v r) => (show TR w w n r 0 v (.slice none 0 0) [] r from ⟨rfl, gt_start r n, hv, Nat.le_refl _, hX, by simp, World.ownsRow_nil _ _ _ _, Below.refl _ _⟩))
  have hm1 : ((m : Int) == 1) = false := by rw [beq_eq_false_iff_ne]; omega
  have hRL := Lib.hid (show r.length = L - 1 by omega)
  rw [← hL] at hc ⊢
  have hLi : ¬ (L : Int) < 1 := by omega
  have hL1 : 1 ≤ L := by omega
  have hL9 : L ≤ 10000000001 := by omega
  clear hcell hX hb hL
  by_cases hc1 : c = 1
  · have hLo : L = 1 := by omega
    have HE := Lib.hid (show Rq w 4 n (m :: r) (.returned (.slice none 0 0)) w from ⟨_, mkT [], rfl, World.ownsRow_nil _ _ _ _, HD.out.few (outs := []) (by
      have hr : r = [] := List.length_eq_zero_iff.1 (by have := hRL.out; omega)
      subst hr
      exact gt_empty (gt_start [] n) (by simp; omega)) (by simp) (by simp), Below.refl _ _⟩)
    clear HT HB1
    subst hc1
    subst hLo
    go_enter Tryz.func53, Tryz.ntmps53
    go_wp2_with fail
    refine wp_loop_rounds 1 ?_
    rw [rounds_succ]
    go_wp2_with fail
    go_ret
    exact HE.out
  have H0 := Lib.hid (HT.out _ HB1.out)
  have HBW := Lib.hid (Below.refl w.heap.size w)
  have hBL := Lib.hid (show r.length ≤ 10000000000 by have := hRL.out; omega)
  have HZ := Lib.hid (trivial)
  clear HT
  go_enter Tryz.func53, Tryz.ntmps53
  go_wp2_with fail
  go_loopw [7, 19] (fun x t wr => ∃ k outs rest, k ≤ n ∧ TR w wr n r k t x outs rest) (fun _ t _ => Bs.lenOf t)
  case atStart => exact ⟨0, [], r, Nat.zero_le _, H0.out⟩
  case round =>
    obtain ⟨k, outs, rest, hk, hR⟩ := hrel
    have HR := Lib.hid hR
    clear H0
    obtain ⟨a1, a2, a3, a4, a5, a6, a7, a8⟩ := hR
    obtain ⟨ax, cx, hx⟩ := qt_any a7
    subst hx
    have hr9 : rest.length ≤ 10000000000 := by have := hBL.out; omega
    rcases Nat.eq_zero_or_pos rest.length with h0 | h0
    · obtain rfl := List.length_eq_zero_iff.1 h0
      obtain ⟨a, c', hu⟩ := a3.forms
      simp only [List.length_nil] at hu
      subst hu
      have HE := Lib.hid (show Rq w 4 n (m :: r) (.returned (.slice ax k cx)) wr from ⟨_, mkT outs, rfl, by rw [mkT_len, a1]; exact Go.Joins.ownsRow_le a7 HBW.out.size, by
        by_cases hkn : k = n
        · exact HD.out.full a2 (by omega) a6
        · exact HD.out.few (gt_empty a2 (by omega)) (by omega) a6, HBW.out.trans (a8.mono HBW.out.size)⟩)
      clear a1 a2 a3 a4 a5 a6 a7 a8 h0
      go_wp2_with fail
      go_ret
      exact HE.out
    first | (exfalso; have := HZ.out; omega) | skip
    all_goals
      obtain ⟨b', off', c', hu, hc', hcell'⟩ := a3.cells h0
      subst hu
      by_cases hkn : k < n
      case neg =>
        obtain rfl : k = n := by omega
        have HE := Lib.hid (show Rq w 4 k (m :: r) (.returned (.slice ax k cx)) wr from ⟨_, mkT outs, rfl, by rw [mkT_len, a1]; exact Go.Joins.ownsRow_le a7 HBW.out.size, HD.out.full a2 (by omega) a6, HBW.out.trans (a8.mono HBW.out.size)⟩)
        clear a1 a2 a3 a4 a5 a6 a7 a8 hcell'
        go_wp2_with fail
        go_ret
        exact HE.out
      have F94 := Lib.hid (Sr.read28 wr _ rest (a3.below a8).2 a5 (by omega))
      have hbw' : b' < w.heap.size := cell_lt (hcell' 0 h0)
      have HCW := Lib.hid hcell'
      have HGN := Lib.hid (fun (x kk : Nat) (hr : Sm.Res rest x kk) (hq : kk = 0 ∨ rest.length - kk < x) => gt_none a2 (by omega) hr hq)
      have HO := Lib.hid a7
      have HB8 := Lib.hid a8
      obtain ⟨L', hL'⟩ : ∃ L', L' = rest.length := ⟨_, rfl⟩
      have HL' := Lib.hid hL'
      have hkn' : (k : Int) < (n : Int) := by omega
      rw [← hL'] at hc' h0 F94 hr9 ⊢
      clear a1 a2 a3 a4 a5 a6 a7 a8 hcell' hL'
      go_wp2_with fail
      refine F94.out.mono ?_
      rintro e w2 ⟨x, kk, rfl, hres, b2⟩
      have HB2 := Lib.hid (HB8.out.trans (b2.mono HB8.out.size))
      have HO2 := Lib.hid (Rp.own_below HO.out b2)
      have HCR := Lib.hid (show ∀ i, i < rest.length → w2.cell? ⟨b', off' + i, none⟩ = some (.int .u8 (rest.getD i 0 : Nat)) from fun i hi => (HB2.out.cell (p := ⟨b', off' + i, none⟩) hbw').trans (HCW.out i hi))
      obtain ⟨x64, hkL, hk10⟩ := res_in hres
      rw [← HL'.out] at hkL
      have HRES := Lib.hid hres
      clear hres b2
      by_cases hk0 : kk = 0
      · have HN := Lib.hid (HGN.out x kk HRES.out (.inl hk0))
        subst hk0
        go_wp2_with fail
        go_ret
        exact Rq.none (HD.out.none HN.out) (HBW.out.trans (HB2.out.mono HBW.out.size))
      have hkk : ((kk : Int) == 0) = false := by rw [beq_eq_false_iff_ne]; omega
      have hsub : IntKind.u64.wrap ((L' : Int) - (kk : Int)) = ((L' - kk : Nat) : Int) := by rw [IntKind.wrap_u64]; omega
      by_cases hbig : L' - kk < x
      · have HN := Lib.hid (HGN.out x kk HRES.out (.inr (by rw [← HL'.out]; exact hbig)))
        have hbi : ((L' - kk : Nat) : Int) < (x : Int) := by omega
        go_wp2_with fail
        go_ret
        exact Rq.none (HD.out.none HN.out) (HBW.out.trans (HB2.out.mono HBW.out.size))
      have hxi : ¬ ((L' - kk : Nat) : Int) < (x : Int) := by omega
      have hwx : IntKind.i64.wrap (x : Int) = (x : Int) := by rw [IntKind.wrap_i64]; omega
      obtain ⟨S, hS⟩ : ∃ S, S = str ((rest.drop kk).take x) := ⟨_, rfl⟩
      have HSS := Lib.hid hS
      have hconv : ∀ z, x ≤ z → (convert 22 9 (.slice (some ⟨b', off' + kk, none⟩) x z)).run Tryz.prog w2 = .ok (.string S) w2 := fun z hz => by
        rw [hS]
        exact conv_part HCR.out (by rw [← HL'.out]; omega) hz
      have HNX := Lib.hid (fun (w6 : World) (v6 t' : Value) (hB : By w t' (rest.drop (kk + x))) (h6 : w6.ownsRow w.heap.size 35 3 v6 (k + 1) (vcs (mkT outs) ++ [.int .i64 4, .int .u64 0, .string S])) (b6 : Below w.heap.size w w6) => tr_next HR.out hkn HRES.out hB (by rw [← HSS.out]; exact h6) b6)
      have hsz2 := HB2.out.size
      have hkx1 : 1 ≤ kk := by omega
      have hkx : kk + x ≤ L' := by omega
      have hkxi : (kk : Int) + (x : Int) ≤ (L' : Int) := by omega
      clear hbig hk0
      by_cases hck : c' = kk
      · have hLk : L' = kk := by omega
        obtain rfl : x = 0 := by omega
        have hS0 : S = ⟨#[]⟩ := by rw [hS, List.take_zero, str_nil]
        have hcv : (convert 22 9 (.slice (some ⟨b', off', none⟩) 0 0)).run Tryz.prog w2 = .ok (.string S) w2 := by
          rw [hS0, ← str_nil]
          exact conv_pl (.inl ⟨rfl, _, _, rfl⟩)
        have HBY := Lib.hid (show By w (.slice (some ⟨b', off', none⟩) 0 0) (rest.drop (kk + 0)) from by
          rw [show rest.drop (kk + 0) = [] from List.drop_of_length_le (by rw [← HL'.out]; omega)]
          exact by_empty _ _ _)
        clear hconv hS hS0
        subst hck
        subst hLk
        go_wp2_with (at_builtin; refine wpList_append_own _ rfl _ _ 57 rfl w.heap.size 35 i0 (.agg #[.int .i64 0, .int .u64 0, .string ⟨#[]⟩]) 3 32 Tryz.underlying57 hi hz0 hz1 hz2 rfl (by decide) _ _ _ rfl (HO2.out.alloc _) ⟨w2.heap.size, 0, none⟩ 1 1 [.int .i64 4, .int .u64 0, .string S] rfl rfl (cells3_new _ _ _ _ _) ?c2 ?c3 ?c4 ?c5 ?_)
        case c2 => intro u hu; simp at hu; rcases hu with rfl | rfl | rfl <;> rfl
        case c3 => unfold maxLen; omega
        case c4 => omega
        case c5 => simp; omega
        intro v6 w6 h6 g6 _
        have HE := Lib.hid (HNX.out w6 v6 _ HBY.out h6 ((HB2.out.alloc hsz2 _).grown g6 (by simp; omega) (fun r hr => (HO2.out.lt r hr).1)))
        have hv := qt_any h6
        obtain ⟨a6, c6, hv6⟩ := hv
        subst hv6
        clear h6 g6
        go_wp2_with fail
        exact ⟨⟨k + 1, _, _, by omega, HE.out⟩, by simp [Bs.lenOf]; omega⟩
      by_cases hcx : c' = kk + x
      · have HBY := Lib.hid (show By w (.slice (some ⟨b', off', none⟩) (L' - (kk + x)) (c' - (kk + x))) (rest.drop (kk + x)) from by
          rw [show L' - (kk + x) = 0 from by omega]
          rw [show rest.drop (kk + x) = [] from List.drop_of_length_le (by rw [← HL'.out]; omega)]
          exact by_empty _ _ _)
        have hcv := hconv x (Nat.le_refl _)
        have hx0 : ¬ x = 0 := by omega
        clear hconv hS hck
        subst hcx
        go_wp2_with (at_builtin; refine wpList_append_own _ rfl _ _ 57 rfl w.heap.size 35 i0 (.agg #[.int .i64 0, .int .u64 0, .string ⟨#[]⟩]) 3 32 Tryz.underlying57 hi hz0 hz1 hz2 rfl (by decide) _ _ _ rfl (HO2.out.alloc _) ⟨w2.heap.size, 0, none⟩ 1 1 [.int .i64 4, .int .u64 0, .string S] rfl rfl (cells3_new _ _ _ _ _) ?d2 ?d3 ?d4 ?d5 ?_)
        case d2 => intro u hu; simp at hu; rcases hu with rfl | rfl | rfl <;> rfl
        case d3 => unfold maxLen; omega
        case d4 => omega
        case d5 => simp; omega
        intro v6 w6 h6 g6 _
        have HE := Lib.hid (HNX.out w6 v6 _ HBY.out h6 ((HB2.out.alloc hsz2 _).grown g6 (by simp; omega) (fun r hr => (HO2.out.lt r hr).1)))
        have hv := qt_any h6
        obtain ⟨a6, c6, hv6⟩ := hv
        subst hv6
        clear h6 g6
        go_wp2_with fail
        exact ⟨⟨k + 1, _, _, by omega, HE.out⟩, by simp [Bs.lenOf]; omega⟩
      · have HBY := Lib.hid (show By w (.slice (some ⟨b', off' + (kk + x), none⟩) (L' - (kk + x)) (c' - (kk + x))) (rest.drop (kk + x)) from by_drop (k := kk + x) (c := c') HL'.out hc' (by omega) HCW.out)
        have hcv := hconv (c' - kk) (by omega)
        clear hconv hS
        go_wp2_with (at_builtin; refine wpList_append_own _ rfl _ _ 57 rfl w.heap.size 35 i0 (.agg #[.int .i64 0, .int .u64 0, .string ⟨#[]⟩]) 3 32 Tryz.underlying57 hi hz0 hz1 hz2 rfl (by decide) _ _ _ rfl (HO2.out.alloc _) ⟨w2.heap.size, 0, none⟩ 1 1 [.int .i64 4, .int .u64 0, .string S] rfl rfl (cells3_new _ _ _ _ _) ?e2 ?e3 ?e4 ?e5 ?_)
        case e2 => intro u hu; simp at hu; rcases hu with rfl | rfl | rfl <;> rfl
        case e3 => unfold maxLen; omega
        case e4 => omega
        case e5 => simp; omega
        intro v6 w6 h6 g6 _
        have HE := Lib.hid (HNX.out w6 v6 _ HBY.out h6 ((HB2.out.alloc hsz2 _).grown g6 (by simp; omega) (fun r hr => (HO2.out.lt r hr).1)))
        have hv := qt_any h6
        obtain ⟨a6, c6, hv6⟩ := hv
        subst hv6
        clear h6 g6
        go_wp2_with fail
        exact ⟨⟨k + 1, _, _, by omega, HE.out⟩, by simp [Bs.lenOf]; omega⟩

set_option maxRecDepth 100000 in
set_option maxHeartbeats 8000000 in
theorem qtexts1 (w : World) (b off c : Nat) (r : List Nat) (n : Nat) (hc : r.length + 1 ≤ c) (hcell : ∀ i, i < (1 :: r).length → w.cell? ⟨b, off + i, none⟩ = some (.int .u8 ((1 :: r).getD i 0 : Nat))) (hX : ∀ b ∈ r, b < 256) (hb : r.length ≤ 10000000000) (hn1 : 1 ≤ n) (hn9 : n ≤ 1000) :
    Calls Tryz.prog 53 #[.int .i64 4, .int .i64 (n : Nat), .slice (some ⟨b, off, none⟩) (r.length + 1) c] w fun e w' => Rq w 4 n (1 :: r) e w' := by
  obtain ⟨i0, hi, hz0, hz1, hz2⟩ := info_parts info35
  have e0 := hcell 0 (by simp)
  simp only [Nat.add_zero, List.getD_cons_zero] at e0
  obtain ⟨L, hL⟩ : ∃ L, L = r.length + 1 := ⟨_, rfl⟩
  have HB1 := by_drop (k := 1) (c := c) (L := L) (by simp [hL]) (by omega) (by omega) hcell
  have FU := Lib.hid (fun v (hv : Pl w v r) => Qu.qunpack w v r hv hX (by omega))
  have FE := Lib.hid (show L = 1 → (∀ a z, Pl w (.slice a 0 z) r) ∧ ∀ o, Lu.unp 4194304 [] r = .ok o → o.length = 0 from fun h => by
    have hr : r = [] := List.length_eq_zero_iff.1 (by omega)
    subst hr
    refine ⟨fun a z => .inl ⟨rfl, a, z, rfl⟩, fun o ho => ?_⟩
    rw [Lu.unp_nil] at ho
    cases ho
    rfl)
  have HP := Lib.hid (show Pl w (.slice (some ⟨b, off + 1, none⟩) (L - 1) (c - 1)) r from HB1.2)
  rw [← hL] at hc ⊢
  have hLi : ¬ (L : Int) < 1 := by omega
  have hL1 : 1 ≤ L := by omega
  have hL9 : L ≤ 10000000001 := by omega
  clear hcell hX hb hL HB1
  by_cases hc1 : c = 1
  case' pos =>
    have hLo : L = 1 := by omega
    have F := Lib.hid (fun a z => FU.out _ ((FE.out hLo).1 a z))
    have HZF := Lib.hid (FE.out hLo).2
    clear FU FE HP
    subst hc1
    subst hLo
    go_enter Tryz.func53, Tryz.ntmps53
    go_wp2_with fail
    refine (F.out _ _).mono ?_
    clear F
  case' neg =>
    have F := Lib.hid (FU.out _ HP.out)
    have HZF := Lib.hid (fun (o : List Nat) (_ : Lu.unp 4194304 [] r = .ok o) => Nat.le_refl o.length)
    clear FU FE HP
    go_enter Tryz.func53, Tryz.ntmps53
    go_wp2_with fail
    refine F.out.mono ?_
    clear F
  all_goals
    rintro e w1 ⟨⟨o, rv, hok, rfl, o1, hX1, hl1⟩ | ⟨er, hbad, rfl⟩, b1⟩
    case inr =>
      have HE := Lib.hid (show Rq w 4 n (1 :: r) (.returned (.slice none 0 0)) w1 from Rq.none (Rdk.no_packed hbad) b1)
      clear hbad b1
      go_wp2_with fail
      refine wp_loop_rounds 1 ?_
      rw [rounds_succ]
      go_wp2_with fail
      go_ret
      exact HE.out
    have HBW := Lib.hid b1
    have HD := Lib.hid (show Dx n 1 r o from .inl (.inr ⟨rfl, hok⟩))
    have HZ := Lib.hid (HZF.out o hok)
    have hBL := Lib.hid (show o.length ≤ 10000000000 by omega)
    have H0 := Lib.hid (show TR w1 w1 n o 0 rv (.slice none 0 0) [] o from ⟨rfl, gt_start o n, by_own o1, Nat.le_refl _, hX1, by simp, World.ownsRow_nil _ _ _ _, Below.refl _ _⟩)
    clear hok o1 hX1 hl1 b1
    go_wp2_with fail
    go_loopw [7, 19] (fun x t wr => ∃ k outs rest, k ≤ n ∧ TR w1 wr n o k t x outs rest) (fun _ t _ => Bs.lenOf t)
    case atStart => exact ⟨0, [], o, Nat.zero_le _, H0.out⟩
    case round =>
      obtain ⟨k, outs, rest, hk, hR⟩ := hrel
      have HR := Lib.hid hR
      clear H0
      obtain ⟨a1, a2, a3, a4, a5, a6, a7, a8⟩ := hR
      obtain ⟨ax, cx, hx⟩ := qt_any a7
      subst hx
      have hr9 : rest.length ≤ 10000000000 := by have := hBL.out; omega
      rcases Nat.eq_zero_or_pos rest.length with h0 | h0
      · obtain rfl := List.length_eq_zero_iff.1 h0
        obtain ⟨a, c', hu⟩ := a3.forms
        simp only [List.length_nil] at hu
        subst hu
        have HE := Lib.hid (show Rq w 4 n (1 :: r) (.returned (.slice ax k cx)) wr from ⟨_, mkT outs, rfl, by rw [mkT_len, a1]; exact Go.Joins.ownsRow_le a7 HBW.out.size, by
          by_cases hkn : k = n
          · exact HD.out.full a2 (by omega) a6
          · exact HD.out.few (gt_empty a2 (by omega)) (by omega) a6, HBW.out.trans (a8.mono HBW.out.size)⟩)
        clear a1 a2 a3 a4 a5 a6 a7 a8 h0
        go_wp2_with fail
        go_ret
        exact HE.out
      first | (exfalso; have := HZ.out; omega) | skip
      all_goals
        obtain ⟨b', off', c', hu, hc', hcell'⟩ := a3.cells h0
        subst hu
        by_cases hkn : k < n
        case neg =>
          obtain rfl : k = n := by omega
          have HE := Lib.hid (show Rq w 4 k (1 :: r) (.returned (.slice ax k cx)) wr from ⟨_, mkT outs, rfl, by rw [mkT_len, a1]; exact Go.Joins.ownsRow_le a7 HBW.out.size, HD.out.full a2 (by omega) a6, HBW.out.trans (a8.mono HBW.out.size)⟩)
          clear a1 a2 a3 a4 a5 a6 a7 a8 hcell'
          go_wp2_with fail
          go_ret
          exact HE.out
        have F94 := Lib.hid (Sr.read28 wr _ rest (a3.below a8).2 a5 (by omega))
        have hbw' : b' < w1.heap.size := cell_lt (hcell' 0 h0)
        have HCW := Lib.hid hcell'
        have HGN := Lib.hid (fun (x kk : Nat) (hr : Sm.Res rest x kk) (hq : kk = 0 ∨ rest.length - kk < x) => gt_none a2 (by omega) hr hq)
        have HO := Lib.hid a7
        have HB8 := Lib.hid a8
        obtain ⟨L', hL'⟩ : ∃ L', L' = rest.length := ⟨_, rfl⟩
        have HL' := Lib.hid hL'
        have hkn' : (k : Int) < (n : Int) := by omega
        rw [← hL'] at hc' h0 F94 hr9 ⊢
        clear a1 a2 a3 a4 a5 a6 a7 a8 hcell' hL'
        go_wp2_with fail
        refine F94.out.mono ?_
        rintro e w2 ⟨x, kk, rfl, hres, b2⟩
        have HB2 := Lib.hid (HB8.out.trans (b2.mono HB8.out.size))
        have HO2 := Lib.hid (Rp.own_below HO.out b2)
        have HCR := Lib.hid (show ∀ i, i < rest.length → w2.cell? ⟨b', off' + i, none⟩ = some (.int .u8 (rest.getD i 0 : Nat)) from fun i hi => (HB2.out.cell (p := ⟨b', off' + i, none⟩) hbw').trans (HCW.out i hi))
        obtain ⟨x64, hkL, hk10⟩ := res_in hres
        rw [← HL'.out] at hkL
        have HRES := Lib.hid hres
        clear hres b2
        by_cases hk0 : kk = 0
        · have HN := Lib.hid (HGN.out x kk HRES.out (.inl hk0))
          subst hk0
          go_wp2_with fail
          go_ret
          exact Rq.none (HD.out.none HN.out) (HBW.out.trans (HB2.out.mono HBW.out.size))
        have hkk : ((kk : Int) == 0) = false := by rw [beq_eq_false_iff_ne]; omega
        have hsub : IntKind.u64.wrap ((L' : Int) - (kk : Int)) = ((L' - kk : Nat) : Int) := by rw [IntKind.wrap_u64]; omega
        by_cases hbig : L' - kk < x
        · have HN := Lib.hid (HGN.out x kk HRES.out (.inr (by rw [← HL'.out]; exact hbig)))
          have hbi : ((L' - kk : Nat) : Int) < (x : Int) := by omega
          go_wp2_with fail
          go_ret
          exact Rq.none (HD.out.none HN.out) (HBW.out.trans (HB2.out.mono HBW.out.size))
        have hxi : ¬ ((L' - kk : Nat) : Int) < (x : Int) := by omega
        have hwx : IntKind.i64.wrap (x : Int) = (x : Int) := by rw [IntKind.wrap_i64]; omega
        obtain ⟨S, hS⟩ : ∃ S, S = str ((rest.drop kk).take x) := ⟨_, rfl⟩
        have HSS := Lib.hid hS
        have hconv : ∀ z, x ≤ z → (convert 22 9 (.slice (some ⟨b', off' + kk, none⟩) x z)).run Tryz.prog w2 = .ok (.string S) w2 := fun z hz => by
          rw [hS]
          exact conv_part HCR.out (by rw [← HL'.out]; omega) hz
        have HNX := Lib.hid (fun (w6 : World) (v6 t' : Value) (hB : By w1 t' (rest.drop (kk + x))) (h6 : w6.ownsRow w1.heap.size 35 3 v6 (k + 1) (vcs (mkT outs) ++ [.int .i64 4, .int .u64 0, .string S])) (b6 : Below w1.heap.size w1 w6) => tr_next HR.out hkn HRES.out hB (by rw [← HSS.out]; exact h6) b6)
        have hsz2 := HB2.out.size
        have hkx1 : 1 ≤ kk := by omega
        have hkx : kk + x ≤ L' := by omega
        have hkxi : (kk : Int) + (x : Int) ≤ (L' : Int) := by omega
        clear hbig hk0
        by_cases hck : c' = kk
        · have hLk : L' = kk := by omega
          obtain rfl : x = 0 := by omega
          have hS0 : S = ⟨#[]⟩ := by rw [hS, List.take_zero, str_nil]
          have hcv : (convert 22 9 (.slice (some ⟨b', off', none⟩) 0 0)).run Tryz.prog w2 = .ok (.string S) w2 := by
            rw [hS0, ← str_nil]
            exact conv_pl (.inl ⟨rfl, _, _, rfl⟩)
          have HBY := Lib.hid (show By w1 (.slice (some ⟨b', off', none⟩) 0 0) (rest.drop (kk + 0)) from by
            rw [show rest.drop (kk + 0) = [] from List.drop_of_length_le (by rw [← HL'.out]; omega)]
            exact by_empty _ _ _)
          clear hconv hS hS0
          subst hck
          subst hLk
          go_wp2_with (at_builtin; refine wpList_append_own _ rfl _ _ 57 rfl w1.heap.size 35 i0 (.agg #[.int .i64 0, .int .u64 0, .string ⟨#[]⟩]) 3 32 Tryz.underlying57 hi hz0 hz1 hz2 rfl (by decide) _ _ _ rfl (HO2.out.alloc _) ⟨w2.heap.size, 0, none⟩ 1 1 [.int .i64 4, .int .u64 0, .string S] rfl rfl (cells3_new _ _ _ _ _) ?c2 ?c3 ?c4 ?c5 ?_)
          case c2 => intro u hu; simp at hu; rcases hu with rfl | rfl | rfl <;> rfl
          case c3 => unfold maxLen; omega
          case c4 => omega
          case c5 => simp; omega
          intro v6 w6 h6 g6 _
          have HE := Lib.hid (HNX.out w6 v6 _ HBY.out h6 ((HB2.out.alloc hsz2 _).grown g6 (by simp; omega) (fun r hr => (HO2.out.lt r hr).1)))
          have hv := qt_any h6
          obtain ⟨a6, c6, hv6⟩ := hv
          subst hv6
          clear h6 g6
          go_wp2_with fail
          exact ⟨⟨k + 1, _, _, by omega, HE.out⟩, by simp [Bs.lenOf]; omega⟩
        by_cases hcx : c' = kk + x
        · have HBY := Lib.hid (show By w1 (.slice (some ⟨b', off', none⟩) (L' - (kk + x)) (c' - (kk + x))) (rest.drop (kk + x)) from by
            rw [show L' - (kk + x) = 0 from by omega]
            rw [show rest.drop (kk + x) = [] from List.drop_of_length_le (by rw [← HL'.out]; omega)]
            exact by_empty _ _ _)
          have hcv := hconv x (Nat.le_refl _)
          have hx0 : ¬ x = 0 := by omega
          clear hconv hS hck
          subst hcx
          go_wp2_with (at_builtin; refine wpList_append_own _ rfl _ _ 57 rfl w1.heap.size 35 i0 (.agg #[.int .i64 0, .int .u64 0, .string ⟨#[]⟩]) 3 32 Tryz.underlying57 hi hz0 hz1 hz2 rfl (by decide) _ _ _ rfl (HO2.out.alloc _) ⟨w2.heap.size, 0, none⟩ 1 1 [.int .i64 4, .int .u64 0, .string S] rfl rfl (cells3_new _ _ _ _ _) ?d2 ?d3 ?d4 ?d5 ?_)
          case d2 => intro u hu; simp at hu; rcases hu with rfl | rfl | rfl <;> rfl
          case d3 => unfold maxLen; omega
          case d4 => omega
          case d5 => simp; omega
          intro v6 w6 h6 g6 _
          have HE := Lib.hid (HNX.out w6 v6 _ HBY.out h6 ((HB2.out.alloc hsz2 _).grown g6 (by simp; omega) (fun r hr => (HO2.out.lt r hr).1)))
          have hv := qt_any h6
          obtain ⟨a6, c6, hv6⟩ := hv
          subst hv6
          clear h6 g6
          go_wp2_with fail
          exact ⟨⟨k + 1, _, _, by omega, HE.out⟩, by simp [Bs.lenOf]; omega⟩
        · have HBY := Lib.hid (show By w1 (.slice (some ⟨b', off' + (kk + x), none⟩) (L' - (kk + x)) (c' - (kk + x))) (rest.drop (kk + x)) from by_drop (k := kk + x) (c := c') HL'.out hc' (by omega) HCW.out)
          have hcv := hconv (c' - kk) (by omega)
          clear hconv hS
          go_wp2_with (at_builtin; refine wpList_append_own _ rfl _ _ 57 rfl w1.heap.size 35 i0 (.agg #[.int .i64 0, .int .u64 0, .string ⟨#[]⟩]) 3 32 Tryz.underlying57 hi hz0 hz1 hz2 rfl (by decide) _ _ _ rfl (HO2.out.alloc _) ⟨w2.heap.size, 0, none⟩ 1 1 [.int .i64 4, .int .u64 0, .string S] rfl rfl (cells3_new _ _ _ _ _) ?e2 ?e3 ?e4 ?e5 ?_)
          case e2 => intro u hu; simp at hu; rcases hu with rfl | rfl | rfl <;> rfl
          case e3 => unfold maxLen; omega
          case e4 => omega
          case e5 => simp; omega
          intro v6 w6 h6 g6 _
          have HE := Lib.hid (HNX.out w6 v6 _ HBY.out h6 ((HB2.out.alloc hsz2 _).grown g6 (by simp; omega) (fun r hr => (HO2.out.lt r hr).1)))
          have hv := qt_any h6
          obtain ⟨a6, c6, hv6⟩ := hv
          subst hv6
          clear h6 g6
          go_wp2_with fail
          exact ⟨⟨k + 1, _, _, by omega, HE.out⟩, by simp [Bs.lenOf]; omega⟩
end Qr
end Go.Proofs.YtjmddomkoholoaaGreatDoor
