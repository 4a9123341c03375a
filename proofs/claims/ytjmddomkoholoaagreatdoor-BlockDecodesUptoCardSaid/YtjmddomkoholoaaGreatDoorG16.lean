import Derived.Test.YtjmddomkoholoaaGreatDoorG15
import Derived.Test.YtjmddomkoholoaaGreatDoorG12

/- The document's side: Unpack. -/
namespace Go.Proofs.YtjmddomkoholoaaGreatDoor
open Go.RowKit
namespace Uy
open Mt Wr Bm Pk Rp Cv Rd Rx Ry Ux

theorem wrong {bs : List Nat} {n : Int} (h : bs.length % 8 ≠ 0 ∨ n < 0 ∨ 60 * (bs.length : Int) < n) : unpacks bs n = none := by
  unfold unpacks
  by_cases h8 : bs.length % 8 = 0 ∧ 0 ≤ n
  · rw [if_pos h8]
    cases hr : reads n.toNat [] (wordsOf bs (bs.length / 8)) with
    | none => rfl
    | some b =>
      have hl := reads_len hr
      rw [wordsOf_len, List.length_nil] at hl
      simp only [Option.bind_some]
      exact if_neg fun h' => by omega
  · exact if_neg h8

set_option maxRecDepth 100000 in
set_option maxHeartbeats 1000000 in
theorem refwrong10 (w : World) (v : Value) (bs : List Nat) (n : Int) (hv : ∃ a c, v = .slice a bs.length c) (hb : bs.length ≤ 140737488353272) (n1 : -9223372036854775808 ≤ n) (n2 : n ≤ 9223372036854775807)
    (h : bs.length % 8 ≠ 0 ∨ n < 0 ∨ 60 * (bs.length : Int) < n) : Calls Tryz.prog 94 #[v, .int .i64 n] w fun e w' => Unpacked w bs n e w' := by
  obtain ⟨a, c, rfl⟩ := hv
  have HU := Lib.hid (wrong h)
  obtain ⟨len, hlen⟩ : ∃ len, len = bs.length := ⟨_, rfl⟩
  rw [← hlen] at h hb ⊢
  clear hlen
  by_cases g1 : len % 8 = 0
  · by_cases g2 : n < 0
    · clear h
      go_enter Tryz.func94, Tryz.ntmps94
      go_wp2_with (go_at_call 140; refine (widths13 _).mono ?_; rintro e w1 ⟨rfl, hT1, b1⟩)
      go_ret2
      exact ⟨.inr ⟨HU.out, rfl⟩, b1⟩
    · have g3 : 60 * (len : Int) < n := by omega
      clear h
      go_enter Tryz.func94, Tryz.ntmps94
      go_wp2_with (go_at_call 140; refine (widths13 _).mono ?_; rintro e w1 ⟨rfl, hT1, b1⟩)
      go_ret2
      exact ⟨.inr ⟨HU.out, rfl⟩, b1⟩
  · clear h
    go_enter Tryz.func94, Tryz.ntmps94
    go_wp2_with (go_at_call 140; refine (widths13 _).mono ?_; rintro e w1 ⟨rfl, hT1, b1⟩)
    go_ret2
    exact ⟨.inr ⟨HU.out, rfl⟩, b1⟩
end Uy
end Go.Proofs.YtjmddomkoholoaaGreatDoor

/- The document's side: Unpack, where its first line lets it by. -/
namespace Go.Proofs.YtjmddomkoholoaaGreatDoor
open Go.RowKit
namespace Uz
open Mt Wr Bm Pk Rp Cv Rd Rx Ry Ux La

set_option maxRecDepth 100000 in
set_option maxHeartbeats 1000000 in
theorem refempty10 (w : World) (a : Option Addr) (c : Nat) : Calls Tryz.prog 94 #[.slice a 0 c, .int .i64 0] w fun e w' => Unpacked w [] 0 e w' := by
  have F8 : Hid (∀ x, Calls Tryz.prog 97 #[.slice none 0 0] x fun e w' => ∃ r, e = .returned (.tuple #[r, .int .i64 0]) ∧ (convert 22 9 r).run Tryz.prog w' = .ok (.string (str [])) w' ∧ (convert 22 9 (.slice a 0 c)).run Tryz.prog w' = .ok (.string (str [])) w' ∧ Below x.heap.size x w') :=
    Lib.hid fun x => (refpack8 x _ [] ⟨by simp, .inl ⟨_, _, rfl, rfl⟩⟩ (by simp)).mono fun e w' h => by
      obtain ⟨r, he, ho, bl⟩ := Packed.ok h small_nil
      exact ⟨r, he, conv_own ho, conv_pl (.inl ⟨rfl, a, c, rfl⟩), bl⟩
  obtain ⟨S, hS⟩ : ∃ S, S = str [] := ⟨_, rfl⟩
  rw [← hS] at F8
  clear hS
  go_enter Tryz.func94, Tryz.ntmps94
  go_wp2_with (go_at_call 140; refine (widths13 _).mono ?_; rintro e w1 ⟨rfl, hT1, b1⟩)
  refine wp_loop_rounds 1 ?_
  rw [rounds_succ]
  go_wp2_with (go_at_call 97; refine (F8.out _).mono ?_; rintro e w2 ⟨r, rfl, q1, q2, b2⟩)
  go_ret2
  exact ⟨.inl ⟨[], _, rfl, rfl, World.ownsRow_nil _ _ _ _, small_nil, rfl⟩, b1.trans (b2.mono b1.size)⟩

set_option maxRecDepth 100000 in
set_option maxHeartbeats 2000000 in
theorem refright10 (w : World) (b off c : Nat) (bs : List Nat) (nn : Nat) (h0 : 0 < bs.length) (hcp : bs.length ≤ c) (hc : ∀ i, i < bs.length → w.cell? ⟨b, off + i, none⟩ = some (.int .u8 (bs.getD i 0 : Nat)))
    (hX : ∀ x ∈ bs, x < 256) (hb : bs.length ≤ 140737488353272) (hbd : min nn (60 * (bs.length / 8)) ≤ 17592186044159) (g1 : bs.length % 8 = 0) (g3 : nn ≤ 60 * bs.length) :
    Calls Tryz.prog 94 #[.slice (some ⟨b, off, none⟩) bs.length c, .int .i64 (nn : Nat)] w fun e w' => Unpacked w bs nn e w' := by
  obtain ⟨i0, hi, hz0, hz1, hz2⟩ := info_parts info34
  have hbl : b < w.heap.size := cell_lt (hc 0 h0)
  have HPL : Hid (∀ x, Below w.heap.size w x → (convert 22 9 (.slice (some ⟨b, off, none⟩) bs.length c)).run Tryz.prog x = .ok (.string (str bs)) x) :=
    Lib.hid fun x hbx => conv_pl (Pl.below (.inr ⟨h0, b, off, c, rfl, hcp, hc⟩) hbx)
  obtain ⟨Q, hQ⟩ : ∃ Q, Q = bs.length / 8 := ⟨_, rfl⟩
  have hun : Hid (unpacks bs nn = (reads nn [] (wordsOf bs Q)).bind (fun l => if (l.length : Int) = nn ∧ packs l = bs then some l else none)) := Lib.hid (by
    unfold unpacks
    rw [if_pos ⟨g1, by omega⟩, Int.toNat_natCast, hQ])
  obtain ⟨len, hlen⟩ : ∃ len, len = bs.length := ⟨_, rfl⟩
  have hcc : ∀ i, i < len → w.cell? ⟨b, off + i, none⟩ = some (.int .u8 (bs.getD i 0 : Nat)) := by rw [hlen]; exact hc
  rw [← hlen] at h0 hb hQ g1 g3 hbd HPL ⊢
  rw [← hQ] at hbd
  have HQ8 : Hid (len = 8 * Q) := Lib.hid (by omega)
  have HX := Lib.hid hX
  have HCC := Lib.hid hcc
  have HLEN := Lib.hid hlen
  clear hc hcc hX hlen hQ hcp
  go_enter Tryz.func94, Tryz.ntmps94
  go_wp2_with (go_at_call 140; refine (widths13 _).mono ?_; rintro e w1 ⟨rfl, hT1, b1⟩)
  obtain ⟨G, hG⟩ : ∃ G, G = w.heap.size := ⟨_, rfl⟩
  have hT1' := hT1
  rw [← hG] at hT1' b1 ⊢
  clear hT1
  have HG := Lib.hid hG
  have FT : Hid (∀ x, Below (G + 1) w1 x → ∀ s, s < 14 → x.cell? ⟨G, s, none⟩ = some (.int .i64 (W s : Nat))) := Lib.hid fun x hbx => (TabAt.below hT1' hbx (by omega)).2
  have FW : Hid (∀ x, Below (G + 1) w1 x → Below G w x) := Lib.hid fun x hbx => b1.trans (hbx.mono (by omega))
  have F17 : Hid (∀ x j, Below (G + 1) w1 x → j + 8 ≤ len → Calls Tryz.prog 20 #[.slice (some ⟨b, off, none⟩) len c, .int .i64 (j : Nat), .int .i64 8] x fun e w' => e = .returned (.int .u64 (num8 bs j : Nat)) ∧ w' = x) :=
    Lib.hid fun x j hbx hj => readat17 x b off len c bs j HX.out hb hj fun i hi => ((FW.out x hbx).cell (by rw [hG]; exact hbl)).trans (HCC.out i hi)
  have hG1 : G + 1 ≤ w1.heap.size := hT1'.1
  have B1 := Lib.hid b1
  clear hT1' hG hbl b1
  go_loopw [8, 7] (fun at_ o wr => ∃ k j L, k ≤ Q ∧ j = 8 * k ∧ at_ = .int .i64 (j : Nat) ∧ reads nn [] (wordsOf bs k) = some L ∧ wr.ownsRow (G + 1) 33 1 o L.length (u64s L) ∧ Below (G + 1) w1 wr) (fun at_ _ _ => len - (intOf at_).toNat)
  case atStart => exact ⟨0, 0, [], Nat.zero_le _, rfl, rfl, rfl, World.ownsRow_nil _ _ _ _, Below.refl _ _⟩
  case round =>
    obtain ⟨k, j, L, hk, hj, rfl, hre, hown, hB⟩ := hrel
    obtain ⟨a6, c6, hu6⟩ := slice_of' hown
    have HO := Lib.hid hown
    have HB := Lib.hid hB
    have HRE := Lib.hid hre
    have hLn := reads_le hre (Nat.zero_le _)
    have hL60 := reads_len hre
    rw [wordsOf_len, List.length_nil] at hL60
    by_cases hkQ : k < Q
    · have hXlt := num8_lt HX.out (8 * k)
      have HST := Lib.hid (@reads_step nn bs k L hre)
      have HSP := Lib.hid (@reads_stop nn bs k L hre)
      have hj8 : j + 8 ≤ len := by have := HQ8.out; omega
      have hk60 : L.length ≤ 60 * k := by omega
      have HJ := Lib.hid hj
      have H17 := Lib.hid (F17.out wr j hB hj8)
      rw [hj] at H17
      obtain ⟨X, hX⟩ : ∃ X, X = num8 bs (8 * k) := ⟨_, rfl⟩
      rw [← hX] at HST HSP H17 hXlt
      rw [← hj] at H17
      obtain ⟨cd, hcd⟩ : ∃ cd, cd = X / 2 ^ 60 := ⟨_, rfl⟩
      rw [← hcd] at HST HSP
      have hcd16 : cd < 16 := by omega
      have hcdi : (X : Int) / 1152921504606846976 = (cd : Int) := by omega
      have HXL := Lib.hid hXlt
      clear hX hcd hown hB hre hXlt hj hL60
      subst hu6
      by_cases hcc : 13 < cd
      · go_wp2_with (go_at_call 20; refine H17.out.mono ?_; rintro e w2 ⟨rfl, rfl⟩)
        go_ret2
        have hu : unpacks bs nn = none := by rw [hun.out, reads_more (HSP.out hcc) Q (by omega)]; rfl
        exact ⟨.inr ⟨hu, rfl⟩, by rw [← HG.out]; exact FW.out _ HB.out⟩
      · have h1 := W_pos cd
        have h2 := W_le cd
        have h3 : (60 : Int) / (W cd : Nat) = (cap cd : Nat) := rfl
        have h4 := cap_pos cd
        have h5 := cap_le cd
        have h6 := cap_mul cd
        obtain ⟨U, hU⟩ : ∃ U, U = W cd := ⟨_, rfl⟩
        obtain ⟨C, hC⟩ : ∃ C, C = cap cd := ⟨_, rfl⟩
        have FU : Hid (∀ x, Below (G + 1) w1 x → x.cell? ⟨G, cd, none⟩ = some (.int .i64 (U : Nat))) := Lib.hid fun x hbx => by rw [hU]; exact FT.out x hbx cd (by omega)
        rw [← hU] at h1 h2 h3 h6
        rw [← hC] at h3 h4 h5 h6
        have HU := Lib.hid hU
        have HCP := Lib.hid hC
        have H6 := Lib.hid h6
        obtain ⟨ll, hl⟩ : ∃ ll, ll = L.length := ⟨_, rfl⟩
        rw [← hl] at HO hLn hk60 ⊢
        have HLL := Lib.hid hl
        obtain ⟨T, hT⟩ : ∃ T, T = min C (nn - ll) := ⟨_, rfl⟩
        have HTT := Lib.hid hT
        clear hU hC h6 hl hT
        go_wp2_with (go_at_call 20; refine H17.out.mono ?_; rintro e w2 ⟨rfl, rfl⟩)
        go_loopw [11, 7] (fun i o wr => ∃ q, q ≤ T ∧ i = .int .i64 (q : Nat) ∧ wr.ownsRow (G + 1) 33 1 o (ll + q) (u64s (L ++ outs U X q)) ∧ Below (G + 1) w1 wr) (fun i _ _ => T - (intOf i).toNat)
        case atStart => exact ⟨0, Nat.zero_le _, rfl, by simpa [outs] using HO.out, HB.out⟩
        case round =>
          obtain ⟨q, hq, rfl, hown, hB⟩ := hrel
          obtain ⟨ao, co, hu⟩ := slice_of' hown
          have e := FU.out wr hB
          have HOW := Lib.hid hown
          have HBB := Lib.hid hB
          clear hown hB
          subst hu
          by_cases hqT : q < T
          · have hq1 : (q : Int) < (C : Int) := by have := HTT.out; omega
            have hq2 : (ll : Int) + (q : Int) < (nn : Int) := by have := HTT.out; omega
            have hqU : (q + 1) * U ≤ 60 := Nat.le_trans (Nat.mul_le_mul_right _ (by omega)) H6.out
            rw [Nat.add_mul, Nat.one_mul] at hqU
            have hqi : ((q * U : Nat) : Int) = (q : Int) * (U : Int) := by push_cast; rfl
            have hyi : (X : Int) / 2 ^ (q * U) = ((X / 2 ^ (q * U) : Nat) : Int) := by push_cast; rfl
            have hy64 : X / 2 ^ (q * U) < 18446744073709551616 := Nat.lt_of_le_of_lt (Nat.div_le_self _ _) HXL.out
            obtain ⟨D, hD⟩ : ∃ D, D = X / 2 ^ (q * U) % 2 ^ U := ⟨_, rfl⟩
            obtain ⟨y, hy⟩ : ∃ y, y = X / 2 ^ (q * U) := ⟨_, rfl⟩
            have HD := Lib.hid hD
            rw [← hy] at hyi hy64 hD
            have hand : bits BinOp.and IntKind.u64 (y : Int) (IntKind.u64.wrap (IntKind.u64.wrap (2 ^ U) - 1)) = ((D : Nat) : Int) := by
              have hp1 : 2 ^ U ≤ 2 ^ 60 := Nat.pow_le_pow_right (by decide) h2
              have hp0 : 0 < 2 ^ U := Nat.two_pow_pos U
              have e1 : IntKind.u64.wrap (IntKind.u64.wrap ((2 : Int) ^ U) - 1) = ((2 ^ U - 1 : Nat) : Int) := by
                rw [show ((2 : Int) ^ U) = ((2 ^ U : Nat) : Int) from by push_cast; rfl, IntKind.wrap_u64, IntKind.wrap_u64]
                omega
              rw [e1, u64_and_nat _ _ hy64 (by omega), Nat.and_two_pow_sub_one_eq_mod, hD]
            clear hD hy hy64
            have HOD : Hid ((wr.alloc (.cells #[.int .u64 (D : Nat)] 33)).drew.ownsRow (G + 1) 33 1 (.slice ao (ll + q) co) (ll + q) (u64s (L ++ outs U X q))) := Lib.hid (HOW.out.alloc _).drew
            have HSZ : Hid (ll + q + 1 ≤ 17592186044159) := Lib.hid (by have := HTT.out; omega)
            have HWZ : Hid (G + 1 ≤ (wr.alloc (.cells #[.int .u64 (D : Nat)] 33)).drew.heap.size) := Lib.hid (by have := HBB.out.size; simp; omega)
            have HC1 : Hid (∀ i u, [Value.int .u64 (D : Nat)][i]? = some u → (wr.alloc (.cells #[.int .u64 (D : Nat)] 33)).drew.cell? ((⟨wr.heap.size, 0, none⟩ : Addr).add i) = some u) := Lib.hid fun i u h => cell_one_new wr (.int .u64 (D : Nat)) 33 i u h
            have hcdI : (cd : Int) < 14 := by omega
            have hw1 : IntKind.i64.wrap ((q : Int) * (U : Int)) = (q : Int) * (U : Int) := by rw [IntWalk.i64_left]; unfold wrap64; omega
            have hw2 : IntKind.u64.wrap ((q : Int) * (U : Int)) = (q : Int) * (U : Int) := by rw [IntKind.wrap_u64]; omega
            have hw3 : ((q : Int) * (U : Int)).toNat = q * U := by omega
            have hw5 : IntKind.u64.wrap (U : Int) = (U : Int) := by rw [IntKind.wrap_u64]; omega
            have hw6 : min U 64 = U := by omega
            have hw4 : (0 : Int) ≤ (q : Int) * (U : Int) := by omega
            go_upto_region 15 with (fail)
            go_region_law (refine step_append_own rfl (.tmp 59) (.tmp 77) 123 rfl (G + 1) 33 i0 (.int .u64 0) 1 8 Tryz.underlying123 hi hz0 hz1 hz2 rfl (by decide) (.slice ao (ll + q) co) (ll + q) (u64s (L ++ outs U X q)) (by simp [Act.eval]) HOD.out ⟨wr.heap.size, 0, none⟩ 1 1 [.int .u64 (D : Nat)] (by simp [Act.eval]) rfl HC1.out (by intro u hu; simp at hu; subst hu; rfl) (by have := HSZ.out; unfold maxLen; omega) (by have := HSZ.out; omega) HWZ.out ?_; intro v' w6 hown6 hgrow)
            all_goals
              have hb6 : Below (G + 1) w1 (wr.alloc (.cells #[.int .u64 (D : Nat)] 33)).drew := (HBB.out.alloc (by have := HBB.out.size; omega) _).drew
              have B6 := Lib.hid (Below.grown hb6 hgrow HWZ.out (fun r hr => (HOW.out.lt r hr).1))
              have O6 := Lib.hid hown6
              clear hgrow hown6 hb6
              go_wp2_with fail
              go_roundw
              case rel =>
                refine ⟨q + 1, by omega, by go_num, ?_, B6.out⟩
                have h := O6.out
                rw [HD.out] at h
                rw [show L ++ outs U X (q + 1) = (L ++ outs U X q) ++ [X / 2 ^ (q * U) % 2 ^ U] from by simp [outs], u64s_snoc]
                exact h
              case measure => simp [intOf]; omega
          · obtain rfl : T = q := by omega
            have HNX : Hid (reads nn [] (wordsOf bs (k + 1)) = some (L ++ outs U X T)) := Lib.hid (by
              rw [HST.out hcc, HU.out, ← HLL.out]
              unfold room
              rw [← HCP.out, ← HTT.out])
            by_cases hCn : C ≤ nn - ll
            · have hq1 : ¬ (T : Int) < (C : Int) := by have := HTT.out; omega
              go_wp2_with fail
              go_roundw
              case rel =>
                refine ⟨k + 1, j + 8, L ++ outs U X T, by omega, by have := HJ.out; omega, by go_num, HNX.out, ?_, HBB.out⟩
                rw [List.length_append, outs_len, ← HLL.out]
                exact HOW.out
              case measure => simp [intOf]; omega
            · have hq1 : (T : Int) < (C : Int) := by have := HTT.out; omega
              have hq2 : ¬ (ll : Int) + (T : Int) < (nn : Int) := by have := HTT.out; omega
              go_wp2_with fail
              go_roundw
              case rel =>
                refine ⟨k + 1, j + 8, L ++ outs U X T, by omega, by have := HJ.out; omega, by go_num, HNX.out, ?_, HBB.out⟩
                rw [List.length_append, outs_len, ← HLL.out]
                exact HOW.out
              case measure => simp [intOf]; omega
    · obtain rfl : Q = k := by omega
      have hjl : ¬ (j : Int) < (len : Int) := by have := HQ8.out; omega
      have hSm : Small L := reads_small hre small_nil
      have hLs : L.length ≤ 17592186044159 := by omega
      have F8 : Hid (Calls Tryz.prog 97 #[u7] wr fun e w' => ∃ r, e = .returned (.tuple #[r, .int .i64 0]) ∧ (convert 22 9 r).run Tryz.prog w' = .ok (.string (str (packs L))) w' ∧ (convert 22 9 (.slice (some ⟨b, off, none⟩) len c)).run Tryz.prog w' = .ok (.string (str bs)) w' ∧ w'.ownsRow (G + 1) 33 1 u7 L.length (u64s L) ∧ Below wr.heap.size wr w') :=
        Lib.hid ((refpack8 wr u7 L (iu_own hown (small64 hSm)) hLs).mono fun e w' h => by
          obtain ⟨r, he, ho, bl⟩ := Packed.ok h hSm
          refine ⟨r, he, conv_own ho, HPL.out w' ?_, own_below hown bl, bl⟩
          have h1 := FW.out wr hB
          rw [HG.out] at h1
          exact h1.trans (bl.mono (by have := h1.size; omega)))
      have hun2 : Hid (unpacks bs nn = if (L.length : Int) = nn ∧ packs L = bs then some L else none) := Lib.hid (by rw [hun.out, hre]; rfl)
      have hne : packs L ≠ bs → ((str (packs L)).toList == (str bs).toList) = false := fun h => toList_ne fun e => h (str_inj (flat_lt _) HX.out e)
      have heq : packs L = bs → str (packs L) = str bs := fun h => by rw [h]
      have HEQ := Lib.hid heq
      have HNE := Lib.hid hne
      have HSM := Lib.hid hSm
      obtain ⟨S, hSS⟩ : ∃ S, S = str (packs L) := ⟨_, rfl⟩
      obtain ⟨R, hTT⟩ : ∃ R, R = str bs := ⟨_, rfl⟩
      rw [← hSS] at HEQ HNE F8
      rw [← hTT] at HEQ HNE F8
      obtain ⟨ll, hl⟩ : ∃ ll, ll = L.length := ⟨_, rfl⟩
      rw [← hl] at F8 hLs
      have HLL := Lib.hid hl
      have HBW : Hid (∀ w', Below wr.heap.size wr w' → Below w.heap.size w w') := Lib.hid fun w' bl => by
        have h1 := FW.out wr hB
        rw [HG.out] at h1
        exact h1.trans (bl.mono (by have := h1.size; omega))
      rw [← hl] at hu6
      subst hu6
      clear hown hB hre hSm hne heq hSS hTT hl hj HO hL60 hLn
      by_cases h1 : ll = nn
      · subst h1
        by_cases h2 : packs L = bs
        · have hu : Hid (unpacks bs ll = some L) := Lib.hid (by rw [hun2.out, ← HLL.out, if_pos ⟨rfl, h2⟩])
          obtain rfl := HEQ.out h2
          clear h2
          go_wp2_with (go_at_call 97; refine F8.out.mono ?_; rintro e w2 ⟨r, rfl, q1, q2, o2, b2⟩; have O2 := Lib.hid o2; have B2 := Lib.hid b2; clear o2 b2)
          go_ret2
          exact ⟨.inl ⟨L, _, hu.out, rfl, by rw [← HLL.out, ← HG.out]; exact Go.Joins.ownsRow_le O2.out (by omega), HSM.out, by rw [← HLL.out]⟩, HBW.out _ B2.out⟩
        · have hu : Hid (unpacks bs ll = none) := Lib.hid (by rw [hun2.out, if_neg fun h => h2 h.2])
          have hst := HNE.out h2
          clear h2
          go_wp2_with (go_at_call 97; refine F8.out.mono ?_; rintro e w2 ⟨r, rfl, q1, q2, o2, b2⟩; have B2 := Lib.hid b2; clear o2 b2)
          go_ret2
          exact ⟨.inr ⟨hu.out, rfl⟩, HBW.out _ B2.out⟩
      · have hu : Hid (unpacks bs nn = none) := Lib.hid (by rw [hun2.out, ← HLL.out, if_neg fun h => h1 (by omega)])
        go_wp2_with (go_at_call 97; refine F8.out.mono ?_; rintro e w2 ⟨r, rfl, q1, q2, o2, b2⟩; have B2 := Lib.hid b2; clear o2 b2)
        go_ret2
        exact ⟨.inr ⟨hu.out, rfl⟩, HBW.out _ B2.out⟩
end Uz
end Go.Proofs.YtjmddomkoholoaaGreatDoor

/- What both Packs and both Unpacks answer. -/
namespace Go.Proofs.YtjmddomkoholoaaGreatDoor
open Go.RowKit
namespace Lu
open Mt Wr Bm Pk Rp Cv Rd Rx Ry Ux Uy Uz La

theorem refunpack10 (w : World) (v : Value) (bs : List Nat) (n : Int) (hP : Pl w v bs) (hX : ∀ x ∈ bs, x < 256) (hb : bs.length ≤ 140737488353272) (hbd : min n.toNat (60 * (bs.length / 8)) ≤ 17592186044159) (n1 : -9223372036854775808 ≤ n) (n2 : n ≤ 9223372036854775807) :
    Calls Tryz.prog 94 #[v, .int .i64 n] w fun e w' => Unpacked w bs n e w' := by
  by_cases h : bs.length % 8 ≠ 0 ∨ n < 0 ∨ 60 * (bs.length : Int) < n
  · refine refwrong10 w v bs n ?_ hb n1 n2 h
    rcases hP with ⟨rfl, a, c, rfl⟩ | ⟨_, b, off, c, rfl, _⟩
    · exact ⟨a, c, rfl⟩
    · exact ⟨_, _, rfl⟩
  · obtain ⟨nn, rfl⟩ := Int.eq_ofNat_of_zero_le (show 0 ≤ n by omega)
    rcases hP with ⟨rfl, a, c, rfl⟩ | ⟨h0, b, off, c, rfl, hl, hc⟩
    · simp only [List.length_nil] at h
      obtain rfl : nn = 0 := by omega
      exact refempty10 w a c
    · exact refright10 w b off c bs nn h0 hl hc hX hb (by simpa using hbd) (by omega) (by omega)

theorem Unpacked.ok {w w' : World} {bs : List Nat} {n : Int} {e : Ending} {l : List Nat} (h : Unpacked w bs n e w') (hu : unpacks bs n = some l) : Small l ∧ (l.length : Int) = n ∧ ∃ r, e = .returned (.tuple #[r, .int .i64 0]) ∧ w'.ownsRow w.heap.size 33 1 r l.length (u64s l) ∧ Below w.heap.size w w' := by
  obtain ⟨h | h, bl⟩ := h
  · obtain ⟨l', r, h1, he, ho, hS, hn⟩ := h
    rw [hu] at h1
    cases h1
    exact ⟨hS, hn, r, he, ho, bl⟩
  · rw [hu] at h; cases h.1
theorem Unpacked.bad {w w' : World} {bs : List Nat} {n : Int} {e : Ending} (h : Unpacked w bs n e w') (hu : unpacks bs n = none) : e = .returned (.tuple #[.slice none 0 0, .int .i64 2]) ∧ Below w.heap.size w w' := by
  obtain ⟨h | h, bl⟩ := h
  · obtain ⟨l', r, h1, _⟩ := h
    rw [hu] at h1
    cases h1
  · exact ⟨h.2, bl⟩

/-- What both Unpacks answer for a list. -/
def Good (f : Nat) (w : World) (v : Value) (n : Int) (l : List Nat) : Prop :=
  ∀ x, Below w.heap.size w x → Calls Tryz.prog f #[v, .int .i64 n] x fun e w' => ∃ r, e = .returned (.tuple #[r, .int .i64 0]) ∧ w'.ownsRow x.heap.size 33 1 r l.length (u64s l) ∧ Below x.heap.size x w'
def Evil (f : Nat) (w : World) (v : Value) (n : Int) : Prop :=
  ∀ x, Below w.heap.size w x → Calls Tryz.prog f #[v, .int .i64 n] x fun e w' => e = .returned (.tuple #[.slice none 0 0, .int .i64 2]) ∧ Below x.heap.size x w'
theorem both (w : World) (v : Value) (bs : List Nat) (n : Int) (hP : Pl w v bs) (hx : v = .slice none 0 0 ∨ ∃ ad c, v = .slice (some ad) bs.length c) (hX : ∀ x ∈ bs, x < 256) (hT : Tab w) (hb : bs.length ≤ 140737488353272) (hbd : min n.toNat (60 * (bs.length / 8)) ≤ 17592186044159)
    (n1 : -9223372036854775808 ≤ n) (n2 : n ≤ 9223372036854775807) :
    (∃ l, unpacks bs n = some l ∧ Small l ∧ (l.length : Int) = n ∧ Good 94 w v n l ∧ Good 146 w v n l) ∨ (unpacks bs n = none ∧ Evil 94 w v n ∧ Evil 146 w v n) := by
  have r10 := fun x (b : Below w.heap.size w x) => refunpack10 x v bs n (hP.below b) hX hb hbd n1 n2
  have r11 := fun x (b : Below w.heap.size w x) => unpack11 x v bs n (hP.below b) (pl_is (hP.below b) hx) hX (hT.below b hT.1) hb hbd n1 n2
  cases hu : unpacks bs n with
  | none => exact .inr ⟨rfl, fun x b => (r10 x b).mono fun e w' h => Unpacked.bad h hu, fun x b => (r11 x b).mono fun e w' h => Unpacked.bad h hu⟩
  | some l =>
    have hsl : Small l ∧ (l.length : Int) = n := by
      unfold unpacks at hu
      split at hu
      · cases hr : reads n.toNat [] (wordsOf bs (bs.length / 8)) with
        | none => rw [hr] at hu; cases hu
        | some l' =>
          rw [hr] at hu
          simp only [Option.bind_some] at hu
          split at hu
          · rename_i h
            cases hu
            exact ⟨reads_small hr small_nil, h.1⟩
          · cases hu
      · cases hu
    exact .inl ⟨l, rfl, hsl.1, hsl.2, fun x b => (r10 x b).mono fun e w' h => (Unpacked.ok h hu).2.2, fun x b => (r11 x b).mono fun e w' h => (Unpacked.ok h hu).2.2⟩

end Lu
end Go.Proofs.YtjmddomkoholoaaGreatDoor

/- readSteps. -/
namespace Go.Proofs.YtjmddomkoholoaaGreatDoor
open Go.RowKit
namespace Rw
open Cm Wr Bm Rd Cv Vs Pk Rx Sz

/-- Bytes that came in, or are its own. -/
def By (w : World) (v : Value) (bs : List Nat) : Prop := Is w v bs ∧ Pl w v bs
theorem Is.below' {w w' : World} {s : Value} {bs : List Nat} (h : Is w s bs) (b : Below w.heap.size w w') : Is w' s bs := by
  rcases h with h | ⟨ad, c, h1, h2⟩
  · exact .inl h
  · exact .inr ⟨ad, c, h1, fun j u hj => (b.cell (cell_lt (h2 j u hj))).trans (h2 j u hj)⟩
theorem By.below {w w' : World} {v : Value} {bs : List Nat} (h : By w v bs) (b : Below w.heap.size w w') : By w' v bs := ⟨Is.below' h.1 b, h.2.below b⟩
theorem by_own {w : World} {B : Nat} {v : Value} {bs : List Nat} (h : w.ownsRow B 5 1 v bs.length (u8s bs)) : By w v bs := by
  refine ⟨is_own h, ?_⟩
  by_cases h0 : 0 < bs.length
  · exact pl_own h h0
  · obtain rfl := List.length_eq_zero_iff.1 (show bs.length = 0 by omega)
    rcases Go.Joins.ownsRow_forms h with ⟨rfl, _⟩ | ⟨g, c, rfl⟩
    · exact .inl ⟨rfl, _, _, rfl⟩
    · exact .inl ⟨rfl, _, _, rfl⟩
theorem By.forms {w : World} {v : Value} {bs : List Nat} (h : By w v bs) : ∃ a c, v = .slice a bs.length c := by
  rcases h.2 with ⟨rfl, a, c, rfl⟩ | ⟨_, b, off, c, rfl, _⟩
  · exact ⟨a, c, rfl⟩
  · exact ⟨_, _, rfl⟩

def asum : Nat → List Nat → Nat
  | p, [] => p
  | p, s :: r => asum (((p : Int) + zag (s : Nat)) % 18446744073709551616).toNat r
theorem asum_snoc (l : List Nat) (s : Nat) : ∀ p, asum p (l ++ [s]) = ((((asum p l : Nat) : Int) + zag (s : Nat)) % 18446744073709551616).toNat := by
  induction l with
  | nil => intro p; rfl
  | cons a r ih => intro p; simp only [List.cons_append, asum]; exact ih _
theorem acs_snoc (l : List Nat) (s : Nat) : ∀ p, acs p (l ++ [s]) = acs p l ++ [asum p (l ++ [s])] := by
  induction l with
  | nil => intro p; rfl
  | cons a r ih => intro p; simp only [List.cons_append, acs, asum]; rw [ih]
theorem asum_lt (l : List Nat) : ∀ p, p < 18446744073709551616 → asum p l < 18446744073709551616 := by
  induction l with
  | nil => intro p h; exact h
  | cons a r ih => intro p h; exact ih _ (by omega)
theorem take_snoc {l : List Nat} {k : Nat} (h : k < l.length) : l.take (k + 1) = l.take k ++ [l.getD k 0] := by
  rw [List.take_add_one, List.getElem?_eq_getElem h, List.getD_eq_getElem?_getD, List.getElem?_eq_getElem h]; rfl

set_option maxRecDepth 100000 in
set_option maxHeartbeats 4000000 in
theorem steps79 (w : World) (v : Value) (bs : List Nat) (n : Nat) (hB : By w v bs) (hX : ∀ b ∈ bs, b < 256) (hb : bs.length ≤ 140737488353272) (hT : Tab w) (hn1 : 1 ≤ n) (hn9 : n ≤ 1000) :
    Calls Tryz.prog 150 #[.int .i64 (n : Nat), v] w fun e w' => Rres w 2 n (1 :: bs) e w' := by
  obtain ⟨i0, hi, hz0, hz1, hz2⟩ := info_parts info35
  have F92 := Ux.unpack11 w v bs (n : Nat) hB.2 hB.1 hX hT hb (by omega) (by omega) (by omega)
  cases hu : Mt.unpacks bs (n : Int) with
  | none =>
    have FK := Lib.hid (F92.mono fun e w' hp => Lu.Unpacked.bad hp hu)
    have HN := Lib.hid (Rdk.steps_none hu)
    clear F92 hu hB hX hb hT
    go_enter Tryz.func150, Tryz.ntmps150
    go_wp2_with (go_at_call 146; refine FK.out.mono ?_; rintro e w2 ⟨rfl, b2⟩)
    go_ret
    exact ⟨_, [], rfl, World.ownsRow_nil _ _ _ _, HN.out, .inl rfl, b2⟩
  | some l =>
    have FK := Lib.hid (F92.mono fun e w' hp => Lu.Unpacked.ok hp hu)
    have HR := Lib.hid (Rdk.steps hu)
    have hln := unpacks_len hu
    clear F92 hu hB hX hb hT
    go_enter Tryz.func150, Tryz.ntmps150
    go_wp2_with fail
    refine FK.out.mono ?_
    rintro e w1 ⟨hS, _, r, rfl, o1, b1⟩
    rw [hln] at o1
    obtain ⟨gr, cr, rfl⟩ := Go.Joins.ownsRow_form o1 (by omega)
    have hgr := (o1.lt gr rfl).2
    have HC := Lib.hid (fun k (hk : k < n) => (show w1.cell? ⟨gr, k, none⟩ = some (.int .u64 (l.getD k 0 : Nat)) from by rw [o1.cellAt k (by omega)]; exact u64s_get _ _ (by omega)))
    have HSM := Lib.hid hS
    have B1 := Lib.hid b1
    have HLN := Lib.hid hln
    clear o1 b1 hS hln
    go_wp2_with fail
    go_loopw [7, 8, 21] (fun x a i wr => ∃ k, k ≤ n ∧ i = .int .i64 (k : Nat) ∧ a = .int .u64 (asum 0 (l.take k) : Nat) ∧ wr.ownsRow w1.heap.size 35 3 x k (vcs (mk 2 (acs 0 (l.take k)))) ∧ Below w1.heap.size w1 wr) (fun _ _ i _ => n - (intOf i).toNat)
    case atStart => exact ⟨0, Nat.zero_le _, rfl, rfl, World.ownsRow_nil _ _ _ _, Below.refl _ _⟩
    case round =>
      obtain ⟨k, hk, rfl, rfl, ho, hbl⟩ := hrel
      by_cases hkn : k < n
      · have e24 : wr.cell? ⟨gr, k, none⟩ = some (.int .u64 (l.getD k 0 : Nat)) := (hbl.cell (p := ⟨gr, k, none⟩) hgr).trans (HC.out k hkn)
        have hs60 := HSM.out.get k
        have F93 := Lib.hid (fun y => zag24 (l.getD k 0 : Nat) (by omega) (by omega) y)
        have hA := asum_lt (l.take k) 0 (by decide)
        have hsn := asum_snoc (l.take k) (l.getD k 0) 0
        have hac := acs_snoc (l.take k) (l.getD k 0) 0
        rw [← take_snoc (by rw [HLN.out]; exact hkn)] at hsn hac
        obtain ⟨A, hAe⟩ : ∃ A, A = asum 0 (l.take k) := ⟨_, rfl⟩
        obtain ⟨Z, hZe⟩ : ∃ Z, Z = asum 0 (l.take (k + 1)) := ⟨_, rfl⟩
        obtain ⟨D, hDe⟩ : ∃ D, D = l.getD k 0 := ⟨_, rfl⟩
        rw [← hAe] at hA hsn ⊢
        rw [← hZe] at hsn hac
        rw [← hDe] at e24 F93 hsn hs60
        have hzin := zag_in (D : Nat) (by omega) (by omega)
        obtain ⟨G, hG⟩ : ∃ G, G = zag (D : Nat) := ⟨_, rfl⟩
        rw [← hG] at F93 hsn hzin
        have hadd : IntKind.u64.wrap ((A : Int) + IntKind.u64.wrap G) = (Z : Int) := by
          rw [hsn, IntKind.wrap_u64, IntKind.wrap_u64]
          omega
        have HO := Lib.hid ho
        have HBL := Lib.hid hbl
        have HAC := Lib.hid hac
        have HZE := Lib.hid hZe
        clear ho hbl hac hZe hAe hDe hG hsn
        go_wp2_with fail
        refine (F93.out _).mono ?_
        rintro e w5 ⟨rfl, rfl⟩
        go_wp2_with (at_builtin; refine wpList_append_own _ rfl (.tmp 30) (.tmp 33) 57 rfl w1.heap.size 35 i0 (.agg #[.int .i64 0, .int .u64 0, .string ⟨#[]⟩]) 3 32 Tryz.underlying57 hi hz0 hz1 hz2 rfl (by decide) _ _ _ rfl (HO.out.alloc _) ⟨w5.heap.size, 0, none⟩ 1 1 [.int .i64 2, .int .u64 (Z : Nat), .string ⟨#[]⟩] rfl rfl (cells3_new _ _ _ _ _) ?c2 ?c3 ?c4 ?c5 ?_)
        case c2 => intro u hu; simp at hu; rcases hu with rfl | rfl | rfl <;> rfl
        case c3 => unfold maxLen; omega
        case c4 => omega
        case c5 => have := HBL.out.size; simp; omega
        intro v6 w6 h6 g6 _
        have HE := Lib.hid (show w6.ownsRow w1.heap.size 35 3 v6 (k + 1) (vcs (mk 2 (acs 0 (l.take (k + 1))))) ∧ Below w1.heap.size w1 w6 from ⟨by rw [HAC.out, mk_snoc, vcs_snoc, vcs_one_cell]; exact h6,
          (HBL.out.alloc HBL.out.size _).grown g6 (by have := HBL.out.size; simp; omega) (fun r hr => (HO.out.lt r hr).1)⟩)
        clear h6 g6
        go_wp2_with fail
        go_roundw
        case rel => exact ⟨k + 1, by omega, by go_num, by rw [HZE.out], HE.out.1, HE.out.2⟩
        case measure => simp [intOf]; omega
      · obtain rfl : k = n := by omega
        have HO := Lib.hid ho
        have HBL := Lib.hid hbl
        clear ho hbl
        go_wp2_with fail
        go_ret
        have hl : l.take k = l := List.take_of_length_le (by rw [HLN.out]; exact Nat.le_refl _)
        have h2 := HO.out
        rw [hl] at h2
        have h3 : (mk 2 (acs 0 l)).length = k := by rw [mk_len, acs_len, HLN.out]
        refine ⟨_, mk 2 (acs 0 l), rfl, by rw [h3]; exact Go.Joins.ownsRow_le h2 B1.out.size, HR.out, .inr h3, B1.out.trans (HBL.out.mono B1.out.size)⟩
end Rw
end Go.Proofs.YtjmddomkoholoaaGreatDoor
