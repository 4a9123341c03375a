import Derived.Test.YtjmddomkoholoaaGreatDoorG16
import Derived.Test.YtjmddomkoholoaaGreatDoorG13
import Derived.Test.YtjmddomkoholoaaGreatDoorG04

/- readIntegers. -/
namespace Go.Proofs.YtjmddomkoholoaaGreatDoor
open Go.RowKit
namespace Rw
open Cm Wr Bm Rd Cv Vs Pk Rx Sz

theorem by_empty (w : World) (ad : Addr) (z : Nat) : By w (.slice (some ad) 0 z) [] := ⟨.inr ⟨ad, z, rfl, fun j u h => by simp [u8s] at h⟩, .inl ⟨rfl, _, _, rfl⟩⟩
theorem by_cells {w : World} {b off L c : Nat} {bs : List Nat} (hL : L = bs.length) (hc : L ≤ c) (h : ∀ i, i < bs.length → w.cell? ⟨b, off + i, none⟩ = some (.int .u8 (bs.getD i 0 : Nat))) : By w (.slice (some ⟨b, off, none⟩) L c) bs := by
  subst hL
  refine ⟨.inr ⟨_, c, rfl, fun j u hj => ?_⟩, ?_⟩
  · have hjl : j < bs.length := by rw [← u8s_len]; exact (List.getElem?_eq_some_iff.1 hj).1
    rw [u8s_get bs j hjl] at hj
    cases hj
    have := h j hjl
    unfold Addr.add
    split
    · rename_i e; subst e; exact this
    · exact this
  · by_cases h0 : 0 < bs.length
    · exact .inr ⟨h0, b, off, c, rfl, hc, h⟩
    · obtain rfl := List.length_eq_zero_iff.1 (show bs.length = 0 by omega)
      exact .inl ⟨rfl, _, _, rfl⟩
/-- What is behind the first k bytes. -/
theorem by_drop {w : World} {b off L c k : Nat} {bs : List Nat} (hL : L = bs.length) (hc : L ≤ c) (hk : k ≤ L) (h : ∀ i, i < bs.length → w.cell? ⟨b, off + i, none⟩ = some (.int .u8 (bs.getD i 0 : Nat))) : By w (.slice (some ⟨b, off + k, none⟩) (L - k) (c - k)) (bs.drop k) := by
  refine by_cells (by rw [List.length_drop]; omega) (by omega) fun i hi => ?_
  rw [List.length_drop] at hi
  rw [Nat.add_assoc, h (k + i) (by omega)]
  simp [List.getD_eq_getElem?_getD]
theorem By.cells {w : World} {v : Value} {bs : List Nat} (h : By w v bs) (h0 : 0 < bs.length) : ∃ b off c, v = .slice (some ⟨b, off, none⟩) bs.length c ∧ bs.length ≤ c ∧ ∀ i, i < bs.length → w.cell? ⟨b, off + i, none⟩ = some (.int .u8 (bs.getD i 0 : Nat)) := by
  rcases h.2 with ⟨rfl, _⟩ | ⟨_, b, off, c, h1, h2, h3⟩
  · simp at h0
  · exact ⟨b, off, c, h1, h2, h3⟩

set_option maxRecDepth 100000 in
set_option maxHeartbeats 4000000 in
theorem ints58 (w : World) (v : Value) (bs : List Nat) (n : Nat) (hB : By w v bs) (hX : ∀ b ∈ bs, b < 256) (hb : bs.length ≤ 140737488353272) (hT : Tab w) (hn1 : 1 ≤ n) (hn9 : n ≤ 1000) :
    Calls Tryz.prog 115 #[.int .i64 (n : Nat), v] w fun e w' => Rres w 2 n bs e w' := by
  cases bs with
  | nil =>
    obtain ⟨a, c, rfl⟩ := hB.forms
    clear hB hX hT
    go_enter Tryz.func115, Tryz.ntmps115
    go_wp2_with fail
    go_ret
    exact Rres.none ints_none (Below.refl _ _)
  | cons m r =>
    obtain ⟨b, off, c, rfl, hc, hcell⟩ := hB.cells (by simp)
    have e0 := hcell 0 (by simp)
    simp only [Nat.add_zero, List.getD_cons_zero] at e0
    have hXr : ∀ x ∈ r, x < 256 := fun x hx => hX x (by simp [hx])
    have hm := hX m (by simp)
    have hb' := hb
    simp only [List.length_cons] at hb' hc
    obtain ⟨L, hL⟩ : ∃ L, L = (m :: r).length := ⟨_, rfl⟩
    have hLr : L = r.length + 1 := by rw [hL]; simp
    have HD : Hid (∀ ad z, By w (.slice (some ⟨b, off + 1, none⟩) (L - 1) (c - 1)) r ∧ (r = [] → By w (.slice (some ad) 0 z) r)) := Lib.hid fun ad z => ⟨by
      have := by_drop (k := 1) (c := c) hL (by omega) (by omega) hcell
      exact this, fun e => by subst e; exact by_empty w ad z⟩
    have FP := Lib.hid (fun (u : Value) (hu : By w u r) => (plain78 w u r n hu.1 hXr (by omega) hn9))
    have FS := Lib.hid (fun (u : Value) (hu : By w u r) => (steps79 w u r n hu hXr (by omega) hT hn1 hn9))
    have HP := Lib.hid (Rdk.plain (n := n) hXr).1
    have HV := Lib.hid (show tab (val r 64) n = tab (word r) n from by congr 1; funext k; exact val_word hXr k)
    have HO := Lib.hid (@Rdk.ints_other n m r)
    rw [← hL]
    simp only [List.length_cons] at hb
    have hcL : L ≤ c := by omega
    have hL1 : 1 ≤ L := by omega
    have hL0 : ((L : Int) == 0) = false := by rw [beq_eq_false_iff_ne]; omega
    have HLR := Lib.hid hLr
    clear hB hX hcell hXr hT hL hLr hc hb
    by_cases m0 : m = 0
    · subst m0
      clear FS HO
      by_cases hc1 : c = 1
      · obtain rfl : L = 1 := by omega
        subst hc1
        have HD' := Lib.hid ((HD.out ⟨b, off, none⟩ 0).2 (List.length_eq_zero_iff.1 (by have := HLR.out; omega)))
        go_enter Tryz.func115, Tryz.ntmps115
        go_wp2_with fail
        refine (FP.out _ HD'.out).mono ?_
        rintro e w2 ⟨r2, rfl, o2, b2⟩
        rw [HV.out] at o2
        have O2 := Lib.hid o2
        have B2 := Lib.hid b2
        clear o2 b2
        go_wp2_with fail
        go_ret
        exact ⟨_, mk 2 (tab (word r) n), rfl, by rw [mk_len, tab_len]; exact O2.out, HP.out, .inr (by rw [mk_len, tab_len]), B2.out⟩
      · go_enter Tryz.func115, Tryz.ntmps115
        go_wp2_with fail
        refine (FP.out _ (HD.out ⟨b, off, none⟩ 0).1).mono ?_
        rintro e w2 ⟨r2, rfl, o2, b2⟩
        rw [HV.out] at o2
        have O2 := Lib.hid o2
        have B2 := Lib.hid b2
        clear o2 b2
        go_wp2_with fail
        go_ret
        exact ⟨_, mk 2 (tab (word r) n), rfl, by rw [mk_len, tab_len]; exact O2.out, HP.out, .inr (by rw [mk_len, tab_len]), B2.out⟩
    · by_cases m1 : m = 1
      · subst m1
        clear FP HO HP HV
        by_cases hc1 : c = 1
        · obtain rfl : L = 1 := by omega
          subst hc1
          have HD' := Lib.hid ((HD.out ⟨b, off, none⟩ 0).2 (List.length_eq_zero_iff.1 (by have := HLR.out; omega)))
          go_enter Tryz.func115, Tryz.ntmps115
          go_wp2_with fail
          refine (FS.out _ HD'.out).mono ?_
          rintro e w2 ⟨r2, T2, rfl, o2, k2, l2, b2⟩
          have Q2 := Lib.hid (show Rres w 2 n (1 :: r) (.returned r2) w2 from ⟨r2, T2, rfl, o2, k2, l2, b2⟩)
          clear o2 k2 l2 b2
          go_wp2_with fail
          go_ret
          exact Q2.out
        · go_enter Tryz.func115, Tryz.ntmps115
          go_wp2_with fail
          refine (FS.out _ (HD.out ⟨b, off, none⟩ 0).1).mono ?_
          rintro e w2 ⟨r2, T2, rfl, o2, k2, l2, b2⟩
          have Q2 := Lib.hid (show Rres w 2 n (1 :: r) (.returned r2) w2 from ⟨r2, T2, rfl, o2, k2, l2, b2⟩)
          clear o2 k2 l2 b2
          go_wp2_with fail
          go_ret
          exact Q2.out
      · have hi0 : ((m : Int) == 0) = false := by rw [beq_eq_false_iff_ne]; omega
        have hi1 : ((m : Int) == 1) = false := by rw [beq_eq_false_iff_ne]; omega
        have HQ := Lib.hid (HO.out m0 m1)
        clear FP FS HP HV HO m0 m1
        go_enter Tryz.func115, Tryz.ntmps115
        go_wp2_with fail
        go_ret
        exact ⟨_, [], rfl, World.ownsRow_nil _ _ _ _, HQ.out, .inl rfl, Below.refl _ _⟩
end Rw
end Go.Proofs.YtjmddomkoholoaaGreatDoor

/- readTexts. -/
namespace Go.Proofs.YtjmddomkoholoaaGreatDoor
open Go.RowKit
namespace Rw
open Cm Wr Bm Rd Cv Vs Pk Rx Sz

theorem res_in {b : List Nat} {x k : Nat} (h : Sm.Res b x k) : x < 18446744073709551616 ∧ k ≤ b.length ∧ k ≤ 10 := by
  rcases h with ⟨i, ⟨g1, g2, g3, g4, g5, g6⟩, rfl, rfl⟩ | ⟨_, rfl, rfl⟩
  · refine ⟨?_, by omega, by omega⟩
    by_cases h9 : i ≤ 8
    · have := Sm.vs_fit (b := b) (k := i + 1) (by omega); omega
    · obtain rfl : i = 9 := by omega
      have h1 := Sm.vs_fit (b := b) (k := 9) (by omega)
      have h2 := g6 rfl
      simp only [Sm.vs]
      have : b.getD 9 0 % 128 ≤ 1 := by omega
      have h3 := Nat.mul_le_mul_right (128 ^ 9) this
      have h4 : (128 : Nat) ^ 9 = 9223372036854775808 := by decide
      have h5 : Sm.vs b 9 = Sm.vs b 8 + b.getD 8 0 % 128 * 128 ^ 8 := rfl
      simp only [Sm.vs] at h1
      omega
  · exact ⟨by decide, Nat.zero_le _, by decide⟩
theorem mkT_snoc (l : List (List Nat)) (t : List Nat) : mkT (l ++ [t]) = mkT l ++ [(4, 0, t)] := by simp [mkT]
theorem vc_text (t : List Nat) : vc (4, 0, t) = [.int .i64 4, .int .u64 0, .string (str t)] := rfl
theorem conv_part {w : World} {b off c k x : Nat} {bs : List Nat} (h : ∀ i, i < bs.length → w.cell? ⟨b, off + i, none⟩ = some (.int .u8 (bs.getD i 0 : Nat))) (hk : k + x ≤ bs.length) (hc : x ≤ c) :
    (convert 22 9 (.slice (some ⟨b, off + k, none⟩) x c)).run Tryz.prog w = .ok (.string (str ((bs.drop k).take x))) w := by
  have hl : ((bs.drop k).take x).length = x := by rw [List.length_take, List.length_drop]; omega
  refine conv_pl (bs := (bs.drop k).take x) (by_cells hl.symm hc fun i hi => ?_).2
  rw [hl] at hi
  rw [Nat.add_assoc, h (k + i) (by omega)]
  simp [List.getD_eq_getElem?_getD, hi]
/-- What readTexts answers. -/
def Tres (w : World) (n : Nat) (B : List Nat) (e : Ending) (w' : World) : Prop :=
  ((∃ r outs rest, e = .returned r ∧ w'.ownsRow w.heap.size 35 3 r n (vcs (mkT outs)) ∧ outs.length = n ∧ GT B n outs rest ∧ (∀ t ∈ outs, ∀ x ∈ t, x < 256)) ∨ (NT B n ∧ e = .returned (.slice none 0 0))) ∧ Below w.heap.size w w'
/-- What holds ahead of each round. -/
def TR (w wr : World) (n : Nat) (B : List Nat) (k : Nat) (t x : Value) (outs : List (List Nat)) (rest : List Nat) : Prop :=
  outs.length = k ∧ GT B n outs rest ∧ By w t rest ∧ rest.length ≤ B.length ∧ (∀ x ∈ rest, x < 256) ∧ (∀ t ∈ outs, ∀ x ∈ t, x < 256) ∧ wr.ownsRow w.heap.size 35 3 x k (vcs (mkT outs)) ∧ Below w.heap.size w wr
theorem tr_next {w wr w6 : World} {n k kk x : Nat} {B : List Nat} {t u v6 t' : Value} {outs : List (List Nat)} {rest : List Nat} (h : TR w wr n B k t u outs rest) (hk : k < n) (hr : Sm.Res rest x kk)
    (hB : By w t' (rest.drop (kk + x))) (h6 : w6.ownsRow w.heap.size 35 3 v6 (k + 1) (vcs (mkT outs) ++ [.int .i64 4, .int .u64 0, .string (str ((rest.drop kk).take x))])) (b6 : Below w.heap.size w w6) :
    TR w w6 n B (k + 1) t' v6 (outs ++ [(rest.drop kk).take x]) (rest.drop (kk + x)) := by
  obtain ⟨a1, a2, a3, a4, a5, a6, a7, a8⟩ := h
  refine ⟨by rw [List.length_append, a1]; rfl, gt_step a2 (by omega) hr, hB, by rw [List.length_drop]; omega, fun y hy => a5 y (List.mem_of_mem_drop hy), fun s hs y hy => ?_, by rw [mkT_snoc, vcs_snoc, vc_text]; exact h6, b6⟩
  rcases List.mem_append.1 hs with hs | hs
  · exact a6 s hs y hy
  · simp at hs; subst hs; exact a5 y (List.mem_of_mem_drop (List.mem_of_mem_take hy))

set_option maxRecDepth 100000 in
set_option maxHeartbeats 8000000 in
theorem texts80 (w : World) (v : Value) (B : List Nat) (n : Nat) (hB : By w v B) (hX : ∀ b ∈ B, b < 256) (hb : B.length ≤ 140737488353272) (hn9 : n ≤ 1000) :
    Calls Tryz.prog 151 #[.int .i64 (n : Nat), v] w fun e w' => Tres w n B e w' := by
  obtain ⟨i0, hi, hz0, hz1, hz2⟩ := info_parts info35
  have H0 := Lib.hid (show TR w w n B 0 v (.slice none 0 0) [] B from ⟨rfl, gt_start B n, hB, Nat.le_refl _, hX, by simp, World.ownsRow_nil _ _ _ _, Below.refl _ _⟩)
  clear hB hX
  go_enter Tryz.func151, Tryz.ntmps151
  go_wp2_with fail
  go_loopw [1, 5, 9] (fun t x i wr => ∃ k outs rest, k ≤ n ∧ i = .int .i64 (k : Nat) ∧ TR w wr n B k t x outs rest) (fun _ _ i _ => n - (intOf i).toNat)
  case atStart => exact ⟨0, [], B, Nat.zero_le _, rfl, H0.out⟩
  case round =>
    obtain ⟨k, outs, rest, hk, rfl, hR⟩ := hrel
    have HR := Lib.hid hR
    clear H0
    by_cases hkn : k < n
    · obtain ⟨a1, a2, a3, a4, a5, a6, a7, a8⟩ := hR
      have F94 := Lib.hid (Sr.read27 wr u1 rest (a3.below a8).2 a5 (by omega))
      rcases Nat.eq_zero_or_pos rest.length with h0 | h0
      · obtain rfl := List.length_eq_zero_iff.1 h0
        have HN := Lib.hid (gt_empty a2 (by omega))
        obtain ⟨a, c, hu⟩ := a3.forms
        have FK := Lib.hid (F94.out.mono fun e w' hp => (show e = .returned (.tuple #[.int .u64 0, .int .i64 0]) ∧ w' = wr from by
          obtain ⟨x, kk, rfl, hres, rfl⟩ := hp
          rcases hres with ⟨i, g, _⟩ | ⟨_, rfl, rfl⟩
          · have := g.1; simp at this
          · exact ⟨rfl, rfl⟩))
        have HB8 := Lib.hid a8
        simp only [List.length_nil] at hu
        clear F94 a1 a2 a3 a4 a5 a6 a7 a8 h0
        subst hu
        go_wp2_with (go_at_call 170; refine FK.out.mono ?_; rintro e w2 ⟨rfl, rfl⟩)
        go_ret
        exact ⟨.inr ⟨HN.out, rfl⟩, HB8.out⟩
      · obtain ⟨b, off, c, hu, hc, hcell⟩ := a3.cells h0
        have hbw : b < w.heap.size := cell_lt (hcell 0 h0)
        have HCW := Lib.hid hcell
        have HCR := Lib.hid (show ∀ i, i < rest.length → wr.cell? ⟨b, off + i, none⟩ = some (.int .u8 (rest.getD i 0 : Nat)) from fun i hi => (a8.cell (p := ⟨b, off + i, none⟩) hbw).trans (hcell i hi))
        have HGN := Lib.hid (fun (x kk : Nat) (hr : Sm.Res rest x kk) (hq : kk = 0 ∨ rest.length - kk < x) => gt_none a2 (by omega) hr hq)
        have HO := Lib.hid a7
        have HB8 := Lib.hid a8
        have hL4 : rest.length ≤ 140737488353272 := by omega
        obtain ⟨L, hL⟩ : ∃ L, L = rest.length := ⟨_, rfl⟩
        have HL := Lib.hid hL
        subst hu
        rw [← hL] at hc h0 hL4 F94 ⊢
        clear a1 a2 a3 a4 a5 a6 a7 a8 hcell hL
        go_wp2_with fail
        refine F94.out.mono ?_
        rintro e w2 ⟨x, kk, rfl, hres, hw2⟩
        obtain rfl : w2 = wr := hw2
        obtain ⟨x64, hkL, hk10⟩ := res_in hres
        rw [← HL.out] at hkL
        have HRES := Lib.hid hres
        clear hres
        by_cases hk0 : kk = 0
        · have HN := Lib.hid (HGN.out x kk HRES.out (.inl hk0))
          subst hk0
          go_wp2_with fail
          go_ret
          exact ⟨.inr ⟨HN.out, rfl⟩, HB8.out⟩
        have hkk : ((kk : Int) == 0) = false := by rw [beq_eq_false_iff_ne]; omega
        by_cases hbig : L - kk < x
        · have HN := Lib.hid (HGN.out x kk HRES.out (.inr (by rw [← HL.out]; exact hbig)))
          by_cases hck : c = kk
          · subst hck
            obtain rfl : L = c := by omega
            go_wp2_with fail
            go_ret
            exact ⟨.inr ⟨HN.out, rfl⟩, HB8.out⟩
          · go_wp2_with fail
            go_ret
            exact ⟨.inr ⟨HN.out, rfl⟩, HB8.out⟩
        · have hx9 : x ≤ L - kk := by omega
          have hxi : ¬ ((L : Int) - (kk : Int) < (x : Int)) := by omega
          have HS : Hid (∃ S, S = str ((rest.drop kk).take x)) := Lib.hid ⟨_, rfl⟩
          obtain ⟨S, hS⟩ := HS.out
          clear HS
          have HS := Lib.hid hS
          have hconv : ∀ z, x ≤ z → (convert 22 9 (.slice (some ⟨b, off + kk, none⟩) x z)).run Tryz.prog w2 = .ok (.string S) w2 := fun z hz => by
            rw [hS]
            exact conv_part HCR.out (by rw [← HL.out]; omega) hz
          by_cases hck : c = kk
          · have hLk : L = kk := by omega
            obtain rfl : x = 0 := by omega
            have hS0 : S = ⟨#[]⟩ := by rw [hS, List.take_zero, str_nil]
            have hcv : (convert 22 9 (.slice (some ⟨b, off, none⟩) 0 0)).run Tryz.prog w2 = .ok (.string S) w2 := by
              rw [hS0, ← str_nil]
              exact conv_pl (.inl ⟨rfl, _, _, rfl⟩)
            have HBY := Lib.hid (show By w (.slice (some ⟨b, off, none⟩) 0 0) (rest.drop (kk + 0)) from by
              rw [show rest.drop (kk + 0) = [] from List.drop_of_length_le (by rw [← HL.out]; omega)]
              exact by_empty _ _ _)
            clear hconv hS hS0
            subst hck
            subst hLk
            go_wp2_with (at_builtin; refine wpList_append_own _ rfl (.tmp 28) (.tmp 34) 57 rfl w.heap.size 35 i0 (.agg #[.int .i64 0, .int .u64 0, .string ⟨#[]⟩]) 3 32 Tryz.underlying57 hi hz0 hz1 hz2 rfl (by decide) _ _ _ rfl (HO.out.alloc _) ⟨w2.heap.size, 0, none⟩ 1 1 [.int .i64 4, .int .u64 0, .string S] rfl rfl (cells3_new _ _ _ _ _) ?c2 ?c3 ?c4 ?c5 ?_)
            case c2 => intro u hu; simp at hu; rcases hu with rfl | rfl | rfl <;> rfl
            case c3 => unfold maxLen; omega
            case c4 => omega
            case c5 => have := HB8.out.size; simp; omega
            intro v6 w6 h6 g6 _
            have HE := Lib.hid (tr_next HR.out hkn HRES.out HBY.out (by rw [← HS.out]; exact h6) ((HB8.out.alloc HB8.out.size _).grown g6 (by have := HB8.out.size; simp; omega) (fun r hr => (HO.out.lt r hr).1)))
            clear h6 g6
            go_wp2_with fail
            go_roundw
            case rel => exact ⟨k + 1, _, _, by omega, by go_num, HE.out⟩
            case measure => simp [intOf]; omega
          · by_cases hcx : c - kk = x
            · have hcv := hconv x (Nat.le_refl _)
              have HBY := Lib.hid (show By w (.slice (some ⟨b, off + kk, none⟩) (L - kk - x) 0) (rest.drop (kk + x)) from by
                rw [show L - kk - x = 0 from by omega]
                rw [show rest.drop (kk + x) = [] from List.drop_of_length_le (by rw [← HL.out]; omega)]
                exact by_empty _ _ _)
              clear hconv hS
              go_wp2_with (at_builtin; refine wpList_append_own _ rfl (.tmp 28) (.tmp 34) 57 rfl w.heap.size 35 i0 (.agg #[.int .i64 0, .int .u64 0, .string ⟨#[]⟩]) 3 32 Tryz.underlying57 hi hz0 hz1 hz2 rfl (by decide) _ _ _ rfl (HO.out.alloc _) ⟨w2.heap.size, 0, none⟩ 1 1 [.int .i64 4, .int .u64 0, .string S] rfl rfl (cells3_new _ _ _ _ _) ?c2 ?c3 ?c4 ?c5 ?_)
              case c2 => intro u hu; simp at hu; rcases hu with rfl | rfl | rfl <;> rfl
              case c3 => unfold maxLen; omega
              case c4 => omega
              case c5 => have := HB8.out.size; simp; omega
              intro v6 w6 h6 g6 _
              have HE := Lib.hid (tr_next HR.out hkn HRES.out HBY.out (by rw [← HS.out]; exact h6) ((HB8.out.alloc HB8.out.size _).grown g6 (by have := HB8.out.size; simp; omega) (fun r hr => (HO.out.lt r hr).1)))
              clear h6 g6
              go_wp2_with fail
              go_roundw
              case rel => exact ⟨k + 1, _, _, by omega, by go_num, HE.out⟩
              case measure => simp [intOf]; omega
            · have hcv := hconv (c - kk) (by omega)
              have HBY := Lib.hid (show By w (.slice (some ⟨b, off + kk + x, none⟩) (L - kk - x) (c - kk - x)) (rest.drop (kk + x)) from by
                have := by_drop (k := kk + x) (c := c) HL.out hc (by omega) HCW.out
                rw [show off + kk + x = off + (kk + x) from by omega, show L - kk - x = L - (kk + x) from by omega, show c - kk - x = c - (kk + x) from by omega]
                exact this)
              clear hconv hS
              go_wp2_with (at_builtin; refine wpList_append_own _ rfl (.tmp 28) (.tmp 34) 57 rfl w.heap.size 35 i0 (.agg #[.int .i64 0, .int .u64 0, .string ⟨#[]⟩]) 3 32 Tryz.underlying57 hi hz0 hz1 hz2 rfl (by decide) _ _ _ rfl (HO.out.alloc _) ⟨w2.heap.size, 0, none⟩ 1 1 [.int .i64 4, .int .u64 0, .string S] rfl rfl (cells3_new _ _ _ _ _) ?c2 ?c3 ?c4 ?c5 ?_)
              case c2 => intro u hu; simp at hu; rcases hu with rfl | rfl | rfl <;> rfl
              case c3 => unfold maxLen; omega
              case c4 => omega
              case c5 => have := HB8.out.size; simp; omega
              intro v6 w6 h6 g6 _
              have HE := Lib.hid (tr_next HR.out hkn HRES.out HBY.out (by rw [← HS.out]; exact h6) ((HB8.out.alloc HB8.out.size _).grown g6 (by have := HB8.out.size; simp; omega) (fun r hr => (HO.out.lt r hr).1)))
              clear h6 g6
              go_wp2_with fail
              go_roundw
              case rel => exact ⟨k + 1, _, _, by omega, by go_num, HE.out⟩
              case measure => simp [intOf]; omega
    · obtain rfl : k = n := by omega
      obtain ⟨a1, a2, a3, a4, a5, a6, a7, a8⟩ := hR
      have HO := Lib.hid a7
      clear a1 a2 a3 a4 a5 a6 a7 a8
      go_wp2_with fail
      go_ret
      exact ⟨.inl ⟨_, outs, rest, rfl, HO.out, HR.out.1, HR.out.2.1, HR.out.2.2.2.2.2.1⟩, HR.out.2.2.2.2.2.2.2⟩
end Rw
end Go.Proofs.YtjmddomkoholoaaGreatDoor

/- readStrings. -/
namespace Go.Proofs.YtjmddomkoholoaaGreatDoor
open Go.RowKit
namespace Rw
open Cm Wr Bm Rd Cv Vs Pk Rx Sz

theorem unp_facts {most : Int} : ∀ {k : Nat} {out l : List Nat}, l.length = k → (∀ x ∈ out, x < 256) → (∀ x ∈ l, x < 256) →
    (∀ l', Lu.unp most out l = .ok l' → ∀ x ∈ l', x < 256) ∧ (∀ c, Lu.unp most out l = .error c → c = 2 ∨ c = 4) := by
  intro k
  induction k using Nat.strongRecOn with
  | _ k ih =>
    intro out l hk ho hl
    cases l with
    | nil => rw [Lu.unp_nil]; exact ⟨fun l' h => by cases h; exact ho, fun c h => by cases h⟩
    | cons n r =>
      simp only [List.length_cons] at hk
      have hr : ∀ x ∈ r, x < 256 := fun x hx => hl x (by simp [hx])
      rw [Lu.unp_cons]
      split
      · exact ⟨fun l' h => (by cases h), fun c h => by cases h; exact .inl rfl⟩
      · split
        · split
          · exact ⟨fun l' h => (by cases h), fun c h => by cases h; exact .inl rfl⟩
          · split
            · exact ⟨fun l' h => (by cases h), fun c h => by cases h; exact .inr rfl⟩
            · refine ih (r.drop n).length (by rw [List.length_drop]; omega) rfl (fun x hx => ?_) (fun x hx => hr x (List.mem_of_mem_drop hx))
              rcases List.mem_append.1 hx with hx | hx
              · exact ho x hx
              · exact hr x (List.mem_of_mem_take hx)
        · split
          · exact ⟨fun l' h => (by cases h), fun c h => by cases h; exact .inl rfl⟩
          · split
            · exact ⟨fun l' h => (by cases h), fun c h => by cases h; exact .inl rfl⟩
            · split
              · exact ⟨fun l' h => (by cases h), fun c h => by cases h; exact .inr rfl⟩
              · exact ih (r.drop 2).length (by rw [List.length_drop]; omega) rfl (Lu.copyN_bytes _ _ _ ho) (fun x hx => hr x (List.mem_of_mem_drop hx))
theorem src_by {w : World} {v : Value} {bs : List Nat} (h : By w v bs) : Bs.Src w (fun _ => True) v bs := by
  rcases h.2 with h | ⟨h0, b, off, c, h1, h2, h3⟩
  · exact .inl h
  · exact .inr ⟨h0, b, off, c, h1, h2, trivial, h3⟩
/-- lz's Unpack, up to the bytes of a column's texts. -/
theorem unlz81 (w : World) (v : Value) (bs : List Nat) (h : By w v bs) (hX : ∀ x ∈ bs, x < 256) (hb : bs.length ≤ 140737488353272) :
    Calls Tryz.prog 152 #[v, .int .i64 4194304] w fun e w' => ((∃ l r, Lu.unp 4194304 [] bs = .ok l ∧ e = .returned (.tuple #[r, .int .i64 0]) ∧ w'.ownsRow w.heap.size 5 1 r l.length (u8s l)) ∨ (∃ k : Nat, Lu.unp 4194304 [] bs = .error k ∧ (k = 2 ∨ k = 4) ∧ e = .returned (.tuple #[.slice none 0 0, .int .i64 (k : Nat)]))) ∧ Below w.heap.size w w' := by
  refine (Ua.unpack9 w _ v bs 4194304 (src_by h) hX hb (by omega) (by decide) (by decide)).mono ?_
  rintro e w' (⟨l, r, h1, h2, h3, h4⟩ | ⟨k, h1, h2, h3⟩)
  · exact ⟨.inl ⟨l, r, h1, h2, h3⟩, h4⟩
  · exact ⟨.inr ⟨k, h1, (unp_facts rfl (by simp) hX).2 k h1, h2⟩, h3⟩
/-- Texts that were read, as values. -/
theorem Tres.res {w w1 w' : World} {n m : Nat} {r B : List Nat} {e : Ending} (h : Tres w1 n B e w') (hx : Tx m r B) (b : Below w.heap.size w w1) : Rres w 4 n (m :: r) e w' := by
  obtain ⟨⟨v, outs, rest, rfl, h1, h2, h3, h4⟩ | ⟨h1, rfl⟩, hb⟩ := h
  · have hl : (mkT outs).length = n := by rw [mkT_len, h2]
    exact ⟨v, mkT outs, rfl, by rw [hl]; exact Go.Joins.ownsRow_le h1 b.size, Rdk.texts hx h3 h2 h4, .inr hl, b.trans (hb.mono b.size)⟩
  · exact Rres.none (Rdk.no_texts hx h1) (b.trans (hb.mono b.size))

set_option maxRecDepth 100000 in
set_option maxHeartbeats 4000000 in
theorem strings60 (w : World) (v : Value) (bs : List Nat) (n : Nat) (hB : By w v bs) (hX : ∀ b ∈ bs, b < 256) (hb : bs.length ≤ 140737488353272) (hn9 : n ≤ 1000) :
    Calls Tryz.prog 117 #[.int .i64 (n : Nat), v] w fun e w' => Rres w 4 n bs e w' := by
  cases bs with
  | nil =>
    obtain ⟨a, c, rfl⟩ := hB.forms
    clear hB hX
    go_enter Tryz.func117, Tryz.ntmps117
    go_wp2_with fail
    go_ret
    exact Rres.none texts_none (Below.refl _ _)
  | cons m r =>
    obtain ⟨b, off, c, rfl, hc, hcell⟩ := hB.cells (by simp)
    have e0 := hcell 0 (by simp)
    simp only [Nat.add_zero, List.getD_cons_zero] at e0
    have hXr : ∀ x ∈ r, x < 256 := fun x hx => hX x (by simp [hx])
    have hm := hX m (by simp)
    have hb' := hb
    simp only [List.length_cons] at hb' hc
    obtain ⟨L, hL⟩ : ∃ L, L = (m :: r).length := ⟨_, rfl⟩
    have hLr : L = r.length + 1 := by rw [hL]; simp
    have HD : Hid (∀ ad z, By w (.slice (some ⟨b, off + 1, none⟩) (L - 1) (c - 1)) r ∧ (r = [] → By w (.slice (some ad) 0 z) r)) := Lib.hid fun ad z => ⟨by
      have := by_drop (k := 1) (c := c) hL (by omega) (by omega) hcell
      exact this, fun e => by subst e; exact by_empty w ad z⟩
    have FT := Lib.hid (fun (x : World) (u : Value) (B : List Nat) (hu : By x u B) (hXB : ∀ y ∈ B, y < 256) (hlB : B.length ≤ 140737488353272) => texts80 x u B n hu hXB hlB hn9)
    have FZ := Lib.hid (fun (u : Value) (hu : By w u r) => unlz81 w u r hu hXr (by omega))
    have HXR := Lib.hid hXr
    have HB5 := Lib.hid (show r.length ≤ 140737488353272 from by omega)
    rw [← hL]
    simp only [List.length_cons] at hb
    have hcL : L ≤ c := by omega
    have hL1 : 1 ≤ L := by omega
    have hL0 : ((L : Int) == 0) = false := by rw [beq_eq_false_iff_ne]; omega
    have HLR := Lib.hid hLr
    clear hB hX hcell hXr hL hLr hc hb hb'
    by_cases m0 : m = 0
    · subst m0
      clear FZ
      by_cases hc1 : c = 1
      · obtain rfl : L = 1 := by omega
        subst hc1
        have HD' := Lib.hid ((HD.out ⟨b, off, none⟩ 0).2 (List.length_eq_zero_iff.1 (by have := HLR.out; omega)))
        go_enter Tryz.func117, Tryz.ntmps117
        go_wp2_with fail
        refine (FT.out _ _ r HD'.out HXR.out HB5.out).mono ?_
        rintro e w2 h2
        have Q2 := Lib.hid (h2.res (m := 0) (r := r) (.inl ⟨rfl, rfl⟩) (Below.refl _ _))
        obtain ⟨rv, T2, rfl, _⟩ := Q2.out
        clear h2
        go_wp2_with fail
        go_ret
        exact Q2.out
      · go_enter Tryz.func117, Tryz.ntmps117
        go_wp2_with fail
        refine (FT.out _ _ r (HD.out ⟨b, off, none⟩ 0).1 HXR.out HB5.out).mono ?_
        rintro e w2 h2
        have Q2 := Lib.hid (h2.res (m := 0) (r := r) (.inl ⟨rfl, rfl⟩) (Below.refl _ _))
        obtain ⟨rv, T2, rfl, _⟩ := Q2.out
        clear h2
        go_wp2_with fail
        go_ret
        exact Q2.out
    · by_cases m1 : m = 1
      · subst m1
        have key : ∀ (e : Ending) (w1 : World), ((∃ l rv, Lu.unp 4194304 [] r = .ok l ∧ e = .returned (.tuple #[rv, .int .i64 0]) ∧ w1.ownsRow w.heap.size 5 1 rv l.length (u8s l)) ∨ (∃ k : Nat, Lu.unp 4194304 [] r = .error k ∧ (k = 2 ∨ k = 4) ∧ e = .returned (.tuple #[.slice none 0 0, .int .i64 (k : Nat)]))) ∧ Below w.heap.size w w1 →
            (∃ rv, e = .returned (.tuple #[rv, .int .i64 0]) ∧ Calls Tryz.prog 151 #[.int .i64 (n : Nat), rv] w1 fun e w' => Rres w 4 n (1 :: r) e w') ∨ (∃ k : Int, (k = 2 ∨ k = 4) ∧ e = .returned (.tuple #[.slice none 0 0, .int .i64 k]) ∧ Rres w 4 n (1 :: r) (.returned (.slice none 0 0)) w1) := by
          rintro e w1 ⟨⟨l, rv, h1, rfl, h3⟩ | ⟨k, h1, h2, rfl⟩, h4⟩
          · have hf := (unp_facts rfl (by simp) HXR.out).1 l h1
            have hl := Lu.unp_len rfl h1
            refine .inl ⟨rv, rfl, (FT.out w1 rv l (by_own h3) hf (by rcases hl with rfl | hl; simp; omega)).mono fun e w' hp => hp.res (.inr ⟨rfl, h1⟩) h4⟩
          · exact .inr ⟨k, by omega, rfl, Rres.none (Rdk.no_packed h1) h4⟩
        have KEY := Lib.hid key
        clear FT key
        by_cases hc1 : c = 1
        · obtain rfl : L = 1 := by omega
          subst hc1
          have HD' := Lib.hid ((HD.out ⟨b, off, none⟩ 0).2 (List.length_eq_zero_iff.1 (by have := HLR.out; omega)))
          go_enter Tryz.func117, Tryz.ntmps117
          go_wp2_with fail
          refine (FZ.out _ HD'.out).mono ?_
          rintro e w2 h2
          rcases KEY.out e w2 h2 with ⟨rv, rfl, h3⟩ | ⟨k, hk, rfl, h3⟩
          · have H3 := Lib.hid h3
            clear h2 h3
            go_wp2_with fail
            refine H3.out.mono ?_
            rintro e w3 h4
            have Q2 := Lib.hid h4
            obtain ⟨rv, T2, rfl, _⟩ := Q2.out
            clear h4
            go_wp2_with fail
            go_ret
            exact Q2.out
          · have H3 := Lib.hid h3
            clear h2 h3
            rcases hk with rfl | rfl
            all_goals
              go_wp2_with fail
              go_ret
              exact H3.out
        · go_enter Tryz.func117, Tryz.ntmps117
          go_wp2_with fail
          refine (FZ.out _ (HD.out ⟨b, off, none⟩ 0).1).mono ?_
          rintro e w2 h2
          rcases KEY.out e w2 h2 with ⟨rv, rfl, h3⟩ | ⟨k, hk, rfl, h3⟩
          · have H3 := Lib.hid h3
            clear h2 h3
            go_wp2_with fail
            refine H3.out.mono ?_
            rintro e w3 h4
            have Q2 := Lib.hid h4
            obtain ⟨rv, T2, rfl, _⟩ := Q2.out
            clear h4
            go_wp2_with fail
            go_ret
            exact Q2.out
          · have H3 := Lib.hid h3
            clear h2 h3
            rcases hk with rfl | rfl
            all_goals
              go_wp2_with fail
              go_ret
              exact H3.out
      · have hi0 : ((m : Int) == 0) = false := by rw [beq_eq_false_iff_ne]; omega
        have hi1 : ((m : Int) == 1) = false := by rw [beq_eq_false_iff_ne]; omega
        have HQ := Lib.hid (@Rdk.no_other n m r m0 m1)
        clear FT FZ m0 m1
        go_enter Tryz.func117, Tryz.ntmps117
        go_wp2_with fail
        go_ret
        exact Rres.none HQ.out (Below.refl _ _)
end Rw
end Go.Proofs.YtjmddomkoholoaaGreatDoor

/- The program's Decode. -/
namespace Go.Proofs.YtjmddomkoholoaaGreatDoor
open Go.RowKit
namespace De
open Cm Wr Bm Rd Cv Vs Pk Rx Sz Rw En Zs Ld

set_option maxRecDepth 100000 in
set_option maxHeartbeats 4000000 in
theorem read28 (w : World) (v : Value) (bs : List Nat) (k : Int) (n : Nat) (hB : By w v bs) (hX : ∀ b ∈ bs, b < 256) (hb : bs.length ≤ 140737488353272) (hT : Tab w) (hn1 : 1 ≤ n) (hn9 : n ≤ 1000) :
    Calls Tryz.prog 59 #[.int .i64 k, .int .i64 (n : Nat), v] w fun e w' => Rres w k n bs e w' := by
  have F1 := Lib.hid (floats57 w v bs n hB.1 hX hb hn1 hn9)
  have F2 := Lib.hid (ints58 w v bs n hB hX hb hT hn1 hn9)
  have F3 : Hid (Calls Tryz.prog 116 #[.int .i64 (n : Nat), v] w fun e w' => Rres w 3 n bs e w') := Lib.hid ((bools59 w v bs n hB.1 hX hb hn9).mono fun e w' hp => by
    obtain ⟨r, rfl, ho, bl⟩ := hp
    have e1 : tab (val bs 1) n = tab (bitN bs) n := by congr 1; funext i; exact val_bit bs i
    rw [e1] at ho
    have hl : (mk 3 (tab (bitN bs) n)).length = n := by rw [mk_len, tab_len]
    exact ⟨r, mk 3 (tab (bitN bs) n), rfl, by rw [hl]; exact ho, Rdk.bools.1, .inr hl, bl⟩)
  have F4 := Lib.hid (Rw.strings60 w v bs n hB hX hb hn9)
  clear hB hX hb hT
  by_cases k1 : k = 1
  · subst k1
    go_enter Tryz.func59, Tryz.ntmps59
    go_wp2_with fail
    refine F1.out.mono ?_
    rintro e w2 h2
    have Q2 := Lib.hid h2
    obtain ⟨rv, T2, rfl, _⟩ := Q2.out
    clear h2
    go_wp2_with fail
    go_ret
    exact Q2.out
  by_cases k2 : k = 2
  · subst k2
    go_enter Tryz.func59, Tryz.ntmps59
    go_wp2_with fail
    refine F2.out.mono ?_
    rintro e w2 h2
    have Q2 := Lib.hid h2
    obtain ⟨rv, T2, rfl, _⟩ := Q2.out
    clear h2
    go_wp2_with fail
    go_ret
    exact Q2.out
  by_cases k3 : k = 3
  · subst k3
    go_enter Tryz.func59, Tryz.ntmps59
    go_wp2_with fail
    refine F3.out.mono ?_
    rintro e w2 h2
    have Q2 := Lib.hid h2
    obtain ⟨rv, T2, rfl, _⟩ := Q2.out
    clear h2
    go_wp2_with fail
    go_ret
    exact Q2.out
  by_cases k4 : k = 4
  · subst k4
    go_enter Tryz.func59, Tryz.ntmps59
    go_wp2_with fail
    refine F4.out.mono ?_
    rintro e w2 h2
    have Q2 := Lib.hid h2
    obtain ⟨rv, T2, rfl, _⟩ := Q2.out
    clear h2
    go_wp2_with fail
    go_ret
    exact Q2.out
  · have HN := Lib.hid (fun T => Of.no (k := k) (n := n) (b := bs) (by omega) T)
    have i1 : (k == 1) = false := by rw [beq_eq_false_iff_ne]; exact k1
    have i2 : (k == 2) = false := by rw [beq_eq_false_iff_ne]; exact k2
    have i3 : (k == 3) = false := by rw [beq_eq_false_iff_ne]; exact k3
    have i4 : (k == 4) = false := by rw [beq_eq_false_iff_ne]; exact k4
    clear F1 F2 F3 F4
    go_enter Tryz.func59, Tryz.ntmps59
    go_wp2_with fail
    go_ret
    exact Rres.none HN.out (Below.refl _ _)

/-- What Decode answers. -/
def Dec (w : World) (k n : Int) (b : List Nat) (e : Ending) (w' : World) : Prop :=
  ((∃ T r, e = .returned (.tuple #[r, .int .i64 0]) ∧ w'.ownsRow w.heap.size 35 3 r T.length (vcs T) ∧ Of k n.toNat b T ∧ ∀ U, Of k n.toNat b U → U = T) ∨
    ((∀ T, ¬ Of k n.toNat b T) ∧ e = .returned (.tuple #[.slice none 0 0, .int .i64 2]))) ∧ Below w.heap.size w w'
theorem enc_lt {T : List Vl} (hw : ∀ v ∈ T, Wv v) : ∀ x ∈ (enc T).2, x < 256 := by
  by_cases h0 : T.length = 0 ∨ 1000 < T.length
  · rw [enc_len h0]; simp
  · cases hf : T.all formed with
    | false => rw [enc_bad hf]; simp
    | true =>
      cases ho : one T with
      | false => rw [enc_mixed (by omega) (by omega) hf ho]; simp
      | true =>
        rw [enc_kind (by omega) (by omega) hf ho]
        split
        · exact pk_lt _
        · split
          · show ∀ x ∈ ibytes (ns T), x < 256
            unfold ibytes
            split
            · intro x hx
              rcases List.mem_cons.1 hx with rfl | hx
              · decide
              · exact Mt.flat_lt _ x hx
            · intro x hx
              rcases List.mem_cons.1 hx with rfl | hx
              · decide
              · exact Mt.flat_lt _ x hx
          · split
            · exact pk_lt _
            · have hB := tl_lt hw (Y_le hf) (k := T.length) (Nat.le_refl _)
              rw [tl_end rfl] at hB
              unfold senc
              split
              · simp
              · show ∀ x ∈ sbytes (laidT (ts T)), x < 256
                unfold sbytes
                split
                · intro x hx
                  rcases List.mem_cons.1 hx with rfl | hx
                  · decide
                  · exact Lm.packs_bytes hB x hx
                · intro x hx
                  rcases List.mem_cons.1 hx with rfl | hx
                  · decide
                  · exact hB x hx

set_option maxRecDepth 100000 in
set_option maxHeartbeats 4000000 in
theorem decode12 (w : World) (v : Value) (bs : List Nat) (k n : Int) (hB : By w v bs) (hX : ∀ b ∈ bs, b < 256) (hb : bs.length ≤ 140737488353272) (hT : Tab w) (hD : Dt w) :
    Calls Tryz.prog 25 #[.int .i64 k, .int .i64 n, v] w fun e w' => Dec w k n bs e w' := by
  by_cases hn : n < 1 ∨ 1000 < n
  · have HN := Lib.hid (fun T (h : Of k n.toNat bs T) => (show False from by have := h.parts; omega))
    clear hB hX hb hT hD
    rcases hn with hn | hn
    · go_enter Tryz.func25, Tryz.ntmps25
      go_wp2_with fail
      go_ret2
      exact ⟨.inr ⟨HN.out, rfl⟩, Below.refl _ _⟩
    · have hn1 : ¬ n < 1 := by omega
      go_enter Tryz.func25, Tryz.ntmps25
      go_wp2_with fail
      go_ret2
      exact ⟨.inr ⟨HN.out, rfl⟩, Below.refl _ _⟩
  obtain ⟨N, rfl⟩ : ∃ N : Nat, n = (N : Int) := ⟨n.toNat, by omega⟩
  have FR := Lib.hid (read28 w v bs k N hB hX hb hT (by omega) (by omega))
  have FE := Lib.hid (fun (y : World) (r : Value) (T : List Vl) (hb : Below w.heap.size w y) (h : Vi y r T) => encode10 y r T h (hT.below hb hT.1) (hD.below hb (by have := hD.1; omega)))
  have HCV := Lib.hid (fun (y : World) (hy : Below w.heap.size w y) => conv_pl (hB.2.below hy))
  have HXB := Lib.hid hX
  have n1 : ¬ (N : Int) < 1 := by omega
  have n2 : ¬ (1000 : Int) < (N : Int) := by omega
  clear hB hX hb hT hD hn
  go_enter Tryz.func25, Tryz.ntmps25
  go_wp2_with fail
  refine FR.out.mono ?_
  rintro e w2 ⟨r, T, rfl, o2, k2, l2, b2⟩
  have hw : ∀ x ∈ T, Wv x := fun x hx => (k2.2.1 x hx).2
  have hV := vi_own o2 hw
  have F10 := Lib.hid (FE.out w2 r T b2 hV)
  have HLT := Lib.hid (enc_lt hw)
  have HK := Lib.hid k2
  have HL2 := Lib.hid l2
  have B2 := Lib.hid b2
  have HO := Lib.hid o2
  obtain ⟨ar, cr, hr⟩ := hV.forms
  subst hr
  obtain ⟨TL, hTL⟩ : ∃ TL, TL = T.length := ⟨_, rfl⟩
  have HTL := Lib.hid hTL
  rw [← hTL] at F10 HO ⊢
  clear o2 k2 l2 b2 hw hV hTL
  go_wp2_with fail
  refine F10.out.mono ?_
  rintro e w3 ⟨r3, rfl, o3, b3⟩
  have B3 := Lib.hid (B2.out.trans (b3.mono B2.out.size))
  have HO3 := Lib.hid (show w3.ownsRow w.heap.size 35 3 (.slice ar TL cr) TL (vcs T) from HO.out.kept (row := none) ⟨b3.os, b3.tape, b3.output, b3.size, fun k hk _ => b3.block k hk⟩ (by
    by_cases e : (Value.slice ar TL cr).ownBlock = none
    · exact .inl e
    · exact .inr e))
  have HOF := Lib.hid (fun (h : enc T = (0, bs)) => (show Of k N bs T from ⟨by
    rcases HL2.out with rfl | h2
    · rw [enc_len (.inl rfl)] at h; cases h
    · exact h2, HK.out.2.1, h⟩))
  have HNO := Lib.hid (fun (h : enc T ≠ (0, bs)) => (show ∀ U, ¬ Of k N bs U from fun U hU => h (by rw [← HK.out.2.2 U hU]; exact hU.2.2)))
  have hcu := conv_own o3
  have hcv := HCV.out _ B3.out
  obtain ⟨⟨c, ob⟩, hc⟩ : ∃ a, a = enc T := ⟨_, rfl⟩
  rw [← hc] at o3 hcu HLT HOF HNO ⊢
  simp only at o3 hcu HLT HOF HNO ⊢
  by_cases hc0 : c = 0
  · subst hc0
    by_cases hob : ob = bs
    · subst hob
      have FEQ := Lib.hid (equal_yes w3 r3 v _ hcu hcv)
      clear o3 hcu hcv b3 hc
      go_wp2_with (go_at_call 55; refine FEQ.out.mono ?_; rintro e w4 ⟨rfl, rfl⟩)
      go_ret2
      exact ⟨.inl ⟨T, _, rfl, by rw [← HTL.out]; exact HO3.out, HOF.out (by first | rfl | trivial), HK.out.2.2⟩, B3.out⟩
    · have FEQ := Lib.hid (equal_no w3 r3 v _ _ hcu hcv (toList_ne fun e => hob (str_inj HLT.out HXB.out e)))
      have HN := Lib.hid (HNO.out fun e => hob (by cases e; rfl))
      clear o3 hcu hcv b3 hc hob
      go_wp2_with (go_at_call 55; refine FEQ.out.mono ?_; rintro e w4 ⟨rfl, rfl⟩)
      go_ret2
      exact ⟨.inr ⟨HN.out, rfl⟩, B3.out⟩
  · have hcz : ((c : Int) != 0) = true := by simp; omega
    have HN := Lib.hid (HNO.out fun e => hc0 (by cases e; rfl))
    clear o3 hcu hcv b3 hc hc0
    go_wp2_with fail
    go_ret2
    exact ⟨.inr ⟨HN.out, rfl⟩, B3.out⟩
end De
end Go.Proofs.YtjmddomkoholoaaGreatDoor
