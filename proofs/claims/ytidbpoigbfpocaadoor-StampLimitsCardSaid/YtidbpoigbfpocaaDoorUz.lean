/- The document's side: Unpack, where its first line lets it by. -/
import Derived.Test.YtidbpoigbfpocaaDoorUy
import Derived.Test.YtidbpoigbfpocaaDoorLa
namespace Go.Proofs.YtidbpoigbfpocaaDoor
open Go.RowKit
namespace Uz
open Mt Wr Bm Pk Rp Cv Rd Rx Ry Ux La

set_option maxRecDepth 100000 in
set_option maxHeartbeats 1000000 in
theorem refempty10 (w : World) (a : Option Addr) (c : Nat) : Calls Tryd.prog 39 #[.slice a 0 c, .int .i64 0] w fun e w' => Unpacked w [] 0 e w' := by
  have F8 : Hid (∀ x, Calls Tryd.prog 18 #[.slice none 0 0] x fun e w' => ∃ r, e = .returned (.tuple #[r, .int .i64 0]) ∧ (convert 24 9 r).run Tryd.prog w' = .ok (.string (str [])) w' ∧ (convert 24 9 (.slice a 0 c)).run Tryd.prog w' = .ok (.string (str [])) w' ∧ Below x.heap.size x w') :=
    Lib.hid fun x => (refpack8 x _ [] ⟨by simp, .inl ⟨_, _, rfl, rfl⟩⟩ (by simp)).mono fun e w' h => by
      obtain ⟨r, he, ho, bl⟩ := Packed.ok h small_nil
      exact ⟨r, he, conv_own ho, conv_pl (.inl ⟨rfl, a, c, rfl⟩), bl⟩
  obtain ⟨S, hS⟩ : ∃ S, S = str [] := ⟨_, rfl⟩
  rw [← hS] at F8
  clear hS
  go_enter Tryd.func39, Tryd.ntmps39
  go_wp2_with (go_at_call 31; refine (widths13 _).mono ?_; rintro e w1 ⟨rfl, hT1, b1⟩)
  refine wp_loop_rounds 1 ?_
  rw [rounds_succ]
  go_wp2_with (go_at_call 18; refine (F8.out _).mono ?_; rintro e w2 ⟨r, rfl, q1, q2, b2⟩)
  go_ret2
  exact ⟨.inl ⟨[], _, rfl, rfl, World.ownsRow_nil _ _ _ _, small_nil, rfl⟩, b1.trans (b2.mono b1.size)⟩

set_option maxRecDepth 100000 in
set_option maxHeartbeats 2000000 in
theorem refright10 (w : World) (b off c : Nat) (bs : List Nat) (nn : Nat) (h0 : 0 < bs.length) (hcp : bs.length ≤ c) (hc : ∀ i, i < bs.length → w.cell? ⟨b, off + i, none⟩ = some (.int .u8 (bs.getD i 0 : Nat)))
    (hX : ∀ x ∈ bs, x < 256) (hb : bs.length ≤ 140737488353272) (hbd : min nn (60 * (bs.length / 8)) ≤ 17592186044159) (g1 : bs.length % 8 = 0) (g3 : nn ≤ 60 * bs.length) :
    Calls Tryd.prog 39 #[.slice (some ⟨b, off, none⟩) bs.length c, .int .i64 (nn : Nat)] w fun e w' => Unpacked w bs nn e w' := by
  obtain ⟨i0, hi, hz0, hz1, hz2⟩ := info_parts info34
  have hbl : b < w.heap.size := cell_lt (hc 0 h0)
  have HPL : Hid (∀ x, Below w.heap.size w x → (convert 24 9 (.slice (some ⟨b, off, none⟩) bs.length c)).run Tryd.prog x = .ok (.string (str bs)) x) :=
    Lib.hid fun x hbx => conv_pl (Pl.below (.inr ⟨h0, b, off, c, rfl, hcp, hc⟩) hbx)
  obtain ⟨Q, hQ⟩ : ∃ Q, Q = bs.length / 8 := ⟨_, rfl⟩
  have hun : Hid (unpacks bs nn = (reads nn [] (wordsOf bs Q)).bind (fun l => if (l.length : Int) = nn ∧ packs l = bs then some l else none)) := Lib.hid (by
    unfold unpacks
    rw [if_pos ⟨g1, by omega⟩, Int.toNat_natCast, hQ])
  obtain ⟨len, hlen⟩ : ∃ len, len = bs.length := ⟨_, rfl⟩
  have hcc : ∀ i, i < len → w.cell? ⟨b, off + i, none⟩ = some (.int .u8 (bs.getD i 0 : Nat)) := by rw [hlen]; exact hc
  rw [← hlen] at h0 hb hQ g1 g3 hbd HPL ⊢
  rw [← hQ] at hbd
  have HQ8 : Hid (len = 8 * Q) := Lib.hid (by omega)
  have HX := Lib.hid hX
  have HCC := Lib.hid hcc
  have HLEN := Lib.hid hlen
  clear hc hcc hX hlen hQ hcp
  go_enter Tryd.func39, Tryd.ntmps39
  go_wp2_with (go_at_call 31; refine (widths13 _).mono ?_; rintro e w1 ⟨rfl, hT1, b1⟩)
  obtain ⟨G, hG⟩ : ∃ G, G = w.heap.size := ⟨_, rfl⟩
  have hT1' := hT1
  rw [← hG] at hT1' b1 ⊢
  clear hT1
  have HG := Lib.hid hG
  have FT : Hid (∀ x, Below (G + 1) w1 x → ∀ s, s < 14 → x.cell? ⟨G, s, none⟩ = some (.int .i64 (W s : Nat))) := Lib.hid fun x hbx => (TabAt.below hT1' hbx (by omega)).2
  have FW : Hid (∀ x, Below (G + 1) w1 x → Below G w x) := Lib.hid fun x hbx => b1.trans (hbx.mono (by omega))
  have F17 : Hid (∀ x j, Below (G + 1) w1 x → j + 8 ≤ len → Calls Tryd.prog 38 #[.slice (some ⟨b, off, none⟩) len c, .int .i64 (j : Nat), .int .i64 8] x fun e w' => e = .returned (.int .u64 (num8 bs j : Nat)) ∧ w' = x) :=
    Lib.hid fun x j hbx hj => readat17 x b off len c bs j HX.out hb hj fun i hi => ((FW.out x hbx).cell (by rw [hG]; exact hbl)).trans (HCC.out i hi)
  have hG1 : G + 1 ≤ w1.heap.size := hT1'.1
  have B1 := Lib.hid b1
  clear hT1' hG hbl b1
  go_loopw [8, 7] (fun at_ o wr => ∃ k j L, k ≤ Q ∧ j = 8 * k ∧ at_ = .int .i64 (j : Nat) ∧ reads nn [] (wordsOf bs k) = some L ∧ wr.ownsRow (G + 1) 35 1 o L.length (u64s L) ∧ Below (G + 1) w1 wr) (fun at_ _ _ => len - (intOf at_).toNat)
  case atStart => exact ⟨0, 0, [], Nat.zero_le _, rfl, rfl, rfl, World.ownsRow_nil _ _ _ _, Below.refl _ _⟩
  case round =>
    obtain ⟨k, j, L, hk, hj, rfl, hre, hown, hB⟩ := hrel
    obtain ⟨a6, c6, hu6⟩ := slice_of' hown
    have HO := Lib.hid hown
    have HB := Lib.hid hB
    have HRE := Lib.hid hre
    have hLn := reads_le hre (Nat.zero_le _)
    have hL60 := reads_len hre
    rw [wordsOf_len, List.length_nil] at hL60
    by_cases hkQ : k < Q
    · have hXlt := num8_lt HX.out (8 * k)
      have HST := Lib.hid (@reads_step nn bs k L hre)
      have HSP := Lib.hid (@reads_stop nn bs k L hre)
      have hj8 : j + 8 ≤ len := by have := HQ8.out; omega
      have hk60 : L.length ≤ 60 * k := by omega
      have HJ := Lib.hid hj
      have H17 := Lib.hid (F17.out wr j hB hj8)
      rw [hj] at H17
      obtain ⟨X, hX⟩ : ∃ X, X = num8 bs (8 * k) := ⟨_, rfl⟩
      rw [← hX] at HST HSP H17 hXlt
      rw [← hj] at H17
      obtain ⟨cd, hcd⟩ : ∃ cd, cd = X / 2 ^ 60 := ⟨_, rfl⟩
      rw [← hcd] at HST HSP
      have hcd16 : cd < 16 := by omega
      have hcdi : (X : Int) / 1152921504606846976 = (cd : Int) := by omega
      have HXL := Lib.hid hXlt
      clear hX hcd hown hB hre hXlt hj hL60
      subst hu6
      by_cases hcc : 13 < cd
      · go_wp2_with (go_at_call 38; refine H17.out.mono ?_; rintro e w2 ⟨rfl, rfl⟩)
        go_ret2
        have hu : unpacks bs nn = none := by rw [hun.out, reads_more (HSP.out hcc) Q (by omega)]; rfl
        exact ⟨.inr ⟨hu, rfl⟩, by rw [← HG.out]; exact FW.out _ HB.out⟩
      · have h1 := W_pos cd
        have h2 := W_le cd
        have h3 : (60 : Int) / (W cd : Nat) = (cap cd : Nat) := rfl
        have h4 := cap_pos cd
        have h5 := cap_le cd
        have h6 := cap_mul cd
        obtain ⟨U, hU⟩ : ∃ U, U = W cd := ⟨_, rfl⟩
        obtain ⟨C, hC⟩ : ∃ C, C = cap cd := ⟨_, rfl⟩
        have FU : Hid (∀ x, Below (G + 1) w1 x → x.cell? ⟨G, cd, none⟩ = some (.int .i64 (U : Nat))) := Lib.hid fun x hbx => by rw [hU]; exact FT.out x hbx cd (by omega)
        rw [← hU] at h1 h2 h3 h6
        rw [← hC] at h3 h4 h5 h6
        have HU := Lib.hid hU
        have HCP := Lib.hid hC
        have H6 := Lib.hid h6
        obtain ⟨ll, hl⟩ : ∃ ll, ll = L.length := ⟨_, rfl⟩
        rw [← hl] at HO hLn hk60 ⊢
        have HLL := Lib.hid hl
        obtain ⟨T, hT⟩ : ∃ T, T = min C (nn - ll) := ⟨_, rfl⟩
        have HTT := Lib.hid hT
        clear hU hC h6 hl hT
        go_wp2_with (go_at_call 38; refine H17.out.mono ?_; rintro e w2 ⟨rfl, rfl⟩)
        go_loopw [11, 7] (fun i o wr => ∃ q, q ≤ T ∧ i = .int .i64 (q : Nat) ∧ wr.ownsRow (G + 1) 35 1 o (ll + q) (u64s (L ++ outs U X q)) ∧ Below (G + 1) w1 wr) (fun i _ _ => T - (intOf i).toNat)
        case atStart => exact ⟨0, Nat.zero_le _, rfl, by simpa [outs] using HO.out, HB.out⟩
        case round =>
          obtain ⟨q, hq, rfl, hown, hB⟩ := hrel
          obtain ⟨ao, co, hu⟩ := slice_of' hown
          have e := FU.out wr hB
          have HOW := Lib.hid hown
          have HBB := Lib.hid hB
          clear hown hB
          subst hu
          by_cases hqT : q < T
          · have hq1 : (q : Int) < (C : Int) := by have := HTT.out; omega
            have hq2 : (ll : Int) + (q : Int) < (nn : Int) := by have := HTT.out; omega
            have hqU : (q + 1) * U ≤ 60 := Nat.le_trans (Nat.mul_le_mul_right _ (by omega)) H6.out
            rw [Nat.add_mul, Nat.one_mul] at hqU
            have hqi : ((q * U : Nat) : Int) = (q : Int) * (U : Int) := by push_cast; rfl
            have hyi : (X : Int) / 2 ^ (q * U) = ((X / 2 ^ (q * U) : Nat) : Int) := by push_cast; rfl
            have hy64 : X / 2 ^ (q * U) < 18446744073709551616 := Nat.lt_of_le_of_lt (Nat.div_le_self _ _) HXL.out
            obtain ⟨D, hD⟩ : ∃ D, D = X / 2 ^ (q * U) % 2 ^ U := ⟨_, rfl⟩
            obtain ⟨y, hy⟩ : ∃ y, y = X / 2 ^ (q * U) := ⟨_, rfl⟩
            have HD := Lib.hid hD
            rw [← hy] at hyi hy64 hD
            have hand : bits BinOp.and IntKind.u64 (y : Int) (IntKind.u64.wrap (IntKind.u64.wrap (2 ^ U) - 1)) = ((D : Nat) : Int) := by
              have hp1 : 2 ^ U ≤ 2 ^ 60 := Nat.pow_le_pow_right (by decide) h2
              have hp0 : 0 < 2 ^ U := Nat.two_pow_pos U
              have e1 : IntKind.u64.wrap (IntKind.u64.wrap ((2 : Int) ^ U) - 1) = ((2 ^ U - 1 : Nat) : Int) := by
                rw [show ((2 : Int) ^ U) = ((2 ^ U : Nat) : Int) from by push_cast; rfl, IntKind.wrap_u64, IntKind.wrap_u64]
                omega
              rw [e1, u64_and_nat _ _ hy64 (by omega), Nat.and_two_pow_sub_one_eq_mod, hD]
            clear hD hy hy64
            have HOD : Hid ((wr.alloc (.cells #[.int .u64 (D : Nat)] 35)).drew.ownsRow (G + 1) 35 1 (.slice ao (ll + q) co) (ll + q) (u64s (L ++ outs U X q))) := Lib.hid (HOW.out.alloc _).drew
            have HSZ : Hid (ll + q + 1 ≤ 17592186044159) := Lib.hid (by have := HTT.out; omega)
            have HWZ : Hid (G + 1 ≤ (wr.alloc (.cells #[.int .u64 (D : Nat)] 35)).drew.heap.size) := Lib.hid (by have := HBB.out.size; simp; omega)
            have HC1 : Hid (∀ i u, [Value.int .u64 (D : Nat)][i]? = some u → (wr.alloc (.cells #[.int .u64 (D : Nat)] 35)).drew.cell? ((⟨wr.heap.size, 0, none⟩ : Addr).add i) = some u) := Lib.hid fun i u h => cell_one_new wr (.int .u64 (D : Nat)) 35 i u h
            have hcdI : (cd : Int) < 14 := by omega
            have hw1 : IntKind.i64.wrap ((q : Int) * (U : Int)) = (q : Int) * (U : Int) := by rw [IntWalk.i64_left]; unfold wrap64; omega
            have hw2 : IntKind.u64.wrap ((q : Int) * (U : Int)) = (q : Int) * (U : Int) := by rw [IntKind.wrap_u64]; omega
            have hw3 : ((q : Int) * (U : Int)).toNat = q * U := by omega
            have hw5 : IntKind.u64.wrap (U : Int) = (U : Int) := by rw [IntKind.wrap_u64]; omega
            have hw6 : min U 64 = U := by omega
            have hw4 : (0 : Int) ≤ (q : Int) * (U : Int) := by omega
            go_upto_region 15 with (fail)
            go_region_law (refine step_append_own rfl (.tmp 59) (.tmp 77) 39 rfl (G + 1) 35 i0 (.int .u64 0) 1 8 Tryd.underlying39 hi hz0 hz1 hz2 rfl (by decide) (.slice ao (ll + q) co) (ll + q) (u64s (L ++ outs U X q)) (by simp [Act.eval]) HOD.out ⟨wr.heap.size, 0, none⟩ 1 1 [.int .u64 (D : Nat)] (by simp [Act.eval]) rfl HC1.out (by intro u hu; simp at hu; subst hu; rfl) (by have := HSZ.out; unfold maxLen; omega) (by have := HSZ.out; omega) HWZ.out ?_; intro v' w6 hown6 hgrow)
            all_goals
              have hb6 : Below (G + 1) w1 (wr.alloc (.cells #[.int .u64 (D : Nat)] 35)).drew := (HBB.out.alloc (by have := HBB.out.size; omega) _).drew
              have B6 := Lib.hid (Below.grown hb6 hgrow HWZ.out (fun r hr => (HOW.out.lt r hr).1))
              have O6 := Lib.hid hown6
              clear hgrow hown6 hb6
              go_wp2_with fail
              go_roundw
              case rel =>
                refine ⟨q + 1, by omega, by go_num, ?_, B6.out⟩
                have h := O6.out
                rw [HD.out] at h
                rw [show L ++ outs U X (q + 1) = (L ++ outs U X q) ++ [X / 2 ^ (q * U) % 2 ^ U] from by simp [outs], u64s_snoc]
                exact h
              case measure => simp [intOf]; omega
          · obtain rfl : T = q := by omega
            have HNX : Hid (reads nn [] (wordsOf bs (k + 1)) = some (L ++ outs U X T)) := Lib.hid (by
              rw [HST.out hcc, HU.out, ← HLL.out]
              unfold room
              rw [← HCP.out, ← HTT.out])
            by_cases hCn : C ≤ nn - ll
            · have hq1 : ¬ (T : Int) < (C : Int) := by have := HTT.out; omega
              go_wp2_with fail
              go_roundw
              case rel =>
                refine ⟨k + 1, j + 8, L ++ outs U X T, by omega, by have := HJ.out; omega, by go_num, HNX.out, ?_, HBB.out⟩
                rw [List.length_append, outs_len, ← HLL.out]
                exact HOW.out
              case measure => simp [intOf]; omega
            · have hq1 : (T : Int) < (C : Int) := by have := HTT.out; omega
              have hq2 : ¬ (ll : Int) + (T : Int) < (nn : Int) := by have := HTT.out; omega
              go_wp2_with fail
              go_roundw
              case rel =>
                refine ⟨k + 1, j + 8, L ++ outs U X T, by omega, by have := HJ.out; omega, by go_num, HNX.out, ?_, HBB.out⟩
                rw [List.length_append, outs_len, ← HLL.out]
                exact HOW.out
              case measure => simp [intOf]; omega
    · obtain rfl : Q = k := by omega
      have hjl : ¬ (j : Int) < (len : Int) := by have := HQ8.out; omega
      have hSm : Small L := reads_small hre small_nil
      have hLs : L.length ≤ 17592186044159 := by omega
      have F8 : Hid (Calls Tryd.prog 18 #[u7] wr fun e w' => ∃ r, e = .returned (.tuple #[r, .int .i64 0]) ∧ (convert 24 9 r).run Tryd.prog w' = .ok (.string (str (packs L))) w' ∧ (convert 24 9 (.slice (some ⟨b, off, none⟩) len c)).run Tryd.prog w' = .ok (.string (str bs)) w' ∧ w'.ownsRow (G + 1) 35 1 u7 L.length (u64s L) ∧ Below wr.heap.size wr w') :=
        Lib.hid ((refpack8 wr u7 L (iu_own hown (small64 hSm)) hLs).mono fun e w' h => by
          obtain ⟨r, he, ho, bl⟩ := Packed.ok h hSm
          refine ⟨r, he, conv_own ho, HPL.out w' ?_, own_below hown bl, bl⟩
          have h1 := FW.out wr hB
          rw [HG.out] at h1
          exact h1.trans (bl.mono (by have := h1.size; omega)))
      have hun2 : Hid (unpacks bs nn = if (L.length : Int) = nn ∧ packs L = bs then some L else none) := Lib.hid (by rw [hun.out, hre]; rfl)
      have hne : packs L ≠ bs → ((str (packs L)).toList == (str bs).toList) = false := fun h => toList_ne fun e => h (str_inj (flat_lt _) HX.out e)
      have heq : packs L = bs → str (packs L) = str bs := fun h => by rw [h]
      have HEQ := Lib.hid heq
      have HNE := Lib.hid hne
      have HSM := Lib.hid hSm
      obtain ⟨S, hSS⟩ : ∃ S, S = str (packs L) := ⟨_, rfl⟩
      obtain ⟨R, hTT⟩ : ∃ R, R = str bs := ⟨_, rfl⟩
      rw [← hSS] at HEQ HNE F8
      rw [← hTT] at HEQ HNE F8
      obtain ⟨ll, hl⟩ : ∃ ll, ll = L.length := ⟨_, rfl⟩
      rw [← hl] at F8 hLs
      have HLL := Lib.hid hl
      have HBW : Hid (∀ w', Below wr.heap.size wr w' → Below w.heap.size w w') := Lib.hid fun w' bl => by
        have h1 := FW.out wr hB
        rw [HG.out] at h1
        exact h1.trans (bl.mono (by have := h1.size; omega))
      rw [← hl] at hu6
      subst hu6
      clear hown hB hre hSm hne heq hSS hTT hl hj HO hL60 hLn
      by_cases h1 : ll = nn
      · subst h1
        by_cases h2 : packs L = bs
        · have hu : Hid (unpacks bs ll = some L) := Lib.hid (by rw [hun2.out, ← HLL.out, if_pos ⟨rfl, h2⟩])
          obtain rfl := HEQ.out h2
          clear h2
          go_wp2_with (go_at_call 18; refine F8.out.mono ?_; rintro e w2 ⟨r, rfl, q1, q2, o2, b2⟩; have O2 := Lib.hid o2; have B2 := Lib.hid b2; clear o2 b2)
          go_ret2
          exact ⟨.inl ⟨L, _, hu.out, rfl, by rw [← HLL.out, ← HG.out]; exact Go.Joins.ownsRow_le O2.out (by omega), HSM.out, by rw [← HLL.out]⟩, HBW.out _ B2.out⟩
        · have hu : Hid (unpacks bs ll = none) := Lib.hid (by rw [hun2.out, if_neg fun h => h2 h.2])
          have hst := HNE.out h2
          clear h2
          go_wp2_with (go_at_call 18; refine F8.out.mono ?_; rintro e w2 ⟨r, rfl, q1, q2, o2, b2⟩; have B2 := Lib.hid b2; clear o2 b2)
          go_ret2
          exact ⟨.inr ⟨hu.out, rfl⟩, HBW.out _ B2.out⟩
      · have hu : Hid (unpacks bs nn = none) := Lib.hid (by rw [hun2.out, ← HLL.out, if_neg fun h => h1 (by omega)])
        go_wp2_with (go_at_call 18; refine F8.out.mono ?_; rintro e w2 ⟨r, rfl, q1, q2, o2, b2⟩; have B2 := Lib.hid b2; clear o2 b2)
        go_ret2
        exact ⟨.inr ⟨hu.out, rfl⟩, HBW.out _ B2.out⟩
end Uz
end Go.Proofs.YtidbpoigbfpocaaDoor
