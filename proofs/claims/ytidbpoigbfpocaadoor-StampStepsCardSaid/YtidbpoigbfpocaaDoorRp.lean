/- The document's side: Pack. -/
import Derived.Test.YtidbpoigbfpocaaDoorRe
namespace Go.Proofs.YtidbpoigbfpocaaDoor
open Go.RowKit
namespace Rp
open Mt Wr Bm Pk

theorem own_below {w w' : World} {B size n : Nat} {e : TypeId} {s : Value} {xs : List Value} (h : w.ownsRow B e size s n xs) (b : Below w.heap.size w w') : w'.ownsRow B e size s n xs :=
  h.kept (row := none) ⟨b.os, b.tape, b.output, b.size, fun k hk _ => b.block k hk⟩ (by
    by_cases e : s.ownBlock = none
    · exact .inl e
    · exact .inr e)
theorem word_or {s u k : Nat} {l : List Nat} (h : ∀ i, i < k + 1 → l.getD i 0 < 2 ^ u) (hk : k * u + u ≤ 60) :
    (s * 2 ^ 60 + laid u l k) ||| (l.getD k 0 * 2 ^ (k * u)) = s * 2 ^ 60 + laid u l (k + 1) ∧ l.getD k 0 * 2 ^ (k * u) < 2 ^ 60 := by
  have h1 : laid u l k < 2 ^ 60 := Nat.lt_of_lt_of_le (laid_lt k (fun i hi => h i (by omega))) (Nat.pow_le_pow_right (by decide) (by omega))
  have h2 : laid u l (k + 1) < 2 ^ 60 := Nat.lt_of_lt_of_le (laid_lt (k + 1) h) (Nat.pow_le_pow_right (by decide) (by rw [Nat.add_mul]; omega))
  refine ⟨?_, ?_⟩
  · rw [Nat.mul_comm s, Nat.two_pow_add_eq_or_of_lt h1, Nat.or_assoc, laid_or k (fun i hi => h i (by omega)), ← Nat.two_pow_add_eq_or_of_lt h2]
  · have h5 : l.getD k 0 * 2 ^ (k * u) < 2 ^ u * 2 ^ (k * u) := Nat.mul_lt_mul_of_pos_right (h k (by omega)) (Nat.two_pow_pos _)
    rw [← Nat.pow_add] at h5
    exact Nat.lt_of_lt_of_le h5 (Nat.pow_le_pow_right (by decide) (by omega))

set_option maxRecDepth 100000 in
set_option maxHeartbeats 4000000 in
theorem refpack8 (w : World) (v : Value) (l : List Nat) (hI : Iu w v l) (hl : l.length ≤ 17592186044159) : Calls Tryd.prog 18 #[v] w fun e w' => Packed w l e w' := by
  obtain ⟨i0, hi, hz0, hz1, hz2⟩ := info_parts info5
  rcases hI.cases with ⟨a, c, rfl, hl0⟩ | ⟨hL0, b, off, c, rfl, hc1, hc2, hc3⟩
  · clear hI hl
    go_enter Tryd.func18, Tryd.ntmps18
    go_wp2_with (go_at_call 31; refine (widths13 _).mono ?_; rintro e w1 ⟨rfl, hT1, b1⟩)
    refine wp_loop_rounds 1 ?_
    rw [rounds_succ]
    go_wp2_with fail
    refine wp_loop_rounds 1 ?_
    rw [rounds_succ]
    go_wp2_with fail
    go_ret2
    subst hl0
    exact .inl ⟨small_nil, _, rfl, World.ownsRow_nil _ _ _ _, b1⟩
  · obtain ⟨n, hn⟩ : ∃ n, n = l.length := ⟨_, rfl⟩
    rw [← hn] at hc1 hc3 hl ⊢
    have HC := Lib.hid hc3
    have HN := Lib.hid hn
    clear hI hc3 hL0 hn
    go_enter Tryd.func18, Tryd.ntmps18
    go_wp2_with (go_at_call 31; refine (widths13 _).mono ?_; rintro e w1 ⟨rfl, hT1, b1⟩)
    obtain ⟨G, hG⟩ : ∃ G, G = w.heap.size := ⟨_, rfl⟩
    rw [← hG] at hT1 b1 ⊢
    have HG := Lib.hid hG
    have FC : Hid (∀ x, Below G w x → ∀ i, i < n → x.cell? ⟨b, off + i, none⟩ = some (.int .u64 (l.getD i 0 : Nat))) := Lib.hid fun x hb i hi => (hb.cell (by rw [hG]; exact hc2)).trans (HC.out i hi)
    clear hG
    have HT1 := Lib.hid hT1
    have B1 := Lib.hid b1
    clear hT1 b1
    go_loop [16] (fun i => ∃ k, k ≤ n ∧ i = .int .i64 (k : Nat) ∧ ∀ j, j < k → l.getD j 0 < 2 ^ 60) (fun i => n - (intOf i).toNat)
    case atStart => exact ⟨0, Nat.zero_le _, rfl, fun j hj => by omega⟩
    case round =>
      obtain ⟨k, hk, rfl, hall⟩ := hrel
      have HA := Lib.hid hall
      clear hall
      by_cases hkn : k < n
      · have e := FC.out w1 B1.out k hkn
        obtain ⟨D, hD⟩ : ∃ D, D = l.getD k 0 := ⟨_, rfl⟩
        rw [← hD] at e
        have HD := Lib.hid hD
        clear hD
        by_cases hf : D < 1152921504606846976
        · have HF := Lib.hid hf
          have hfi : ((decide ((D : Int) ≥ 1152921504606846976)) = false) := decide_eq_false (by omega)
          clear hf
          go_wp2_with fail
          go_round
          case rel =>
            refine ⟨k + 1, by omega, by go_num, fun j hj => ?_⟩
            by_cases e : j = k
            · subst e; rw [← HD.out]; exact HF.out
            · exact HA.out j (by omega)
          case measure => simp [intOf]; omega
        · have HF := Lib.hid hf
          have hfi : ((decide ((D : Int) ≥ 1152921504606846976)) = true) := decide_eq_true (by omega)
          clear hf
          go_wp2_with fail
          go_ret2
          exact .inr ⟨fun h => HF.out (by have := h.get k; rw [← HD.out] at this; exact this), rfl, by rw [← HG.out]; exact B1.out⟩
      · obtain rfl : n = k := by omega
        have HS := Lib.hid (small_of HN.out HA.out)
        clear hkn hk HA
        go_wp2_with fail
        go_loopw [7, 5] (fun at_ out wr => ∃ a ws, a ≤ n ∧ at_ = .int .i64 (a : Nat) ∧ ws.length ≤ a ∧ words l = ws ++ words (l.drop a) ∧ wr.ownsRow (G + 1) 5 1 out (8 * ws.length) (u8s (flat ws)) ∧ Below (G + 1) w1 wr) (fun at_ _ _ => n - (intOf at_).toNat)
        case atStart => exact ⟨0, [], Nat.zero_le _, rfl, Nat.le_refl _, rfl, World.ownsRow_nil _ _ _ _, Below.refl _ _⟩
        case round =>
          obtain ⟨a, ws, ha, rfl, hwa, hws, hown, hbel⟩ := hrel
          by_cases han : a < n
          · obtain ⟨wa, rfl⟩ : ∃ wa, wa = wr := ⟨_, rfl⟩
            obtain ⟨o0, rfl⟩ : ∃ o0, o0 = u5 := ⟨_, rfl⟩
            have hgsz := hbel.size
            obtain ⟨L, hL⟩ : ∃ L, L = l.drop a := ⟨_, rfl⟩
            have hLn : L.length = n - a := by rw [hL, List.length_drop, ← HN.out]
            have hSm : Small L := by rw [hL]; exact HS.out.drop a
            have FT : Hid (∀ x, Below (G + 1) w1 x → ∀ s, s < 14 → x.cell? ⟨G, s, none⟩ = some (.int .i64 (W s : Nat))) := Lib.hid fun x hb => (TabAt.below HT1.out hb (by omega)).2
            have FL : Hid (∀ x, Below (G + 1) w1 x → ∀ i, i < n - a → x.cell? ⟨b, off + (a + i), none⟩ = some (.int .u64 (L.getD i 0 : Nat))) := Lib.hid fun x hb i hi => by
              have h1 := FC.out x (B1.out.trans (hb.mono (by have := HT1.out.1; omega))) (a + i) (by omega)
              rw [h1, hL]
              simp [List.getD_eq_getElem?_getD, List.getElem?_drop]
            have HLS := Lib.hid (least_of hSm)
            have HWS : Hid (words l = ws ++ words L) := Lib.hid (by rw [hL]; exact hws)
            have HOW := Lib.hid hown
            have HBE := Lib.hid hbel
            have HSL := Lib.hid hSm
            have HL := Lib.hid hL
            have HLN := Lib.hid hLn
            clear hws hown hbel hSm hL hLn
            go_wp2_with fail
            go_loopw [31, 7, 5] (fun i at_ o wr => ∃ s, s ≤ least L ∧ i = .int .i64 (s : Nat) ∧ at_ = .int .i64 (a : Nat) ∧ o = o0 ∧ ∃ m, wr = wa.drewN m) (fun i _ _ _ => 14 - (intOf i).toNat)
            case atStart => exact ⟨0, Nat.zero_le _, rfl, rfl, rfl, 0, rfl⟩
            case round =>
              obtain ⟨s, hs, rfl, rfl, ho, hm⟩ := hrel
              obtain rfl := ho.symm
              obtain ⟨wb, rfl⟩ : ∃ wb, wb = wr := ⟨_, rfl⟩
              have hs13 : s ≤ 13 := Nat.le_trans hs HLS.out.2.1
              have HBB : Hid (Below (G + 1) w1 wb) := by obtain ⟨m, rfl⟩ := hm; exact Lib.hid (Below.drewN' HBE.out m)
              have HOB : Hid (wb.ownsRow (G + 1) 5 1 o0 (8 * ws.length) (u8s (flat ws))) := by obtain ⟨m, rfl⟩ := hm; exact Lib.hid HOW.out
              have HMA := Lib.hid hm
              have e := FT.out wb HBB.out s (by omega)
              have h1 := W_pos s
              have h2 := W_le s
              have h3 : (60 : Int) / (W s : Nat) = (cap s : Nat) := rfl
              have h4 := cap_pos s
              have h5 := cap_le s
              have h6 := cap_mul s
              have HK := Lib.hid hs
              obtain ⟨U, hU⟩ : ∃ U, U = W s := ⟨_, rfl⟩
              obtain ⟨C, hC⟩ : ∃ C, C = cap s := ⟨_, rfl⟩
              rw [← hU] at h1 h2 h3 h6 e
              rw [← hC] at h3 h4 h5 h6
              have HU := Lib.hid hU
              have HCC := Lib.hid hC
              have H6 := Lib.hid h6
              clear hs hU hC h6
              obtain ⟨N, hN, hN1, hN2, hN3⟩ : ∃ N : Nat, (if (n : Int) - (a : Int) < (C : Int) then (n : Int) - (a : Int) else (C : Int)) = (N : Int) ∧ 1 ≤ N ∧ N ≤ C ∧ N = min C (n - a) := by
                by_cases hlt : (n : Int) - (a : Int) < (C : Int)
                · exact ⟨n - a, by rw [if_pos hlt]; omega, by omega, by omega, by omega⟩
                · exact ⟨C, by rw [if_neg hlt], by omega, by omega, by omega⟩
              go_wp2_with fail
              rw [← hN3]
              have HN3 := Lib.hid hN3
              clear hN hN3
              go_loopw [48, 10, 11] (fun i x f wr => ∃ k X B, k ≤ N ∧ i = .int .i64 (k : Nat) ∧ x = .int .u64 (X : Nat) ∧ X < 18446744073709551616 ∧ f = .bool B ∧ (B = true ↔ ∀ j, j < k → L.getD j 0 < 2 ^ U) ∧ (B = true → X = s * 2 ^ 60 + laid U L k) ∧ ∃ m, wr = wb.drewN m) (fun i _ _ _ => N - (intOf i).toNat)
              case atStart => exact ⟨0, s * 1152921504606846976, true, Nat.zero_le _, rfl, by go_num, by omega, rfl, ⟨fun _ j hj => by omega, fun _ => rfl⟩, fun _ => by simp [laid], 0, rfl⟩
              case round =>
                obtain ⟨k, X, B, hk, rfl, rfl, hX, rfl, hB1, hB2, hm⟩ := hrel
                obtain ⟨wc, rfl⟩ : ∃ wc, wc = wr := ⟨_, rfl⟩
                by_cases hkN : k < N
                · have e1 : wc.cell? ⟨b, off + (a + k), none⟩ = some (.int .u64 (L.getD k 0 : Nat)) := by obtain ⟨m, rfl⟩ := hm; exact FL.out wb HBB.out k (by have := HN3.out; omega)
                  have e2 : wc.cell? ⟨G, s, none⟩ = some (.int .i64 (U : Nat)) := by obtain ⟨m, rfl⟩ := hm; exact e
                  have hDs : L.getD k 0 < 18446744073709551616 := Nat.lt_trans (HSL.out.get k) (by decide)
                  have hfd := fit_dec (L.getD k 0) U
                  have hku : (k + 1) * U ≤ 60 := Nat.le_trans (Nat.mul_le_mul_right _ (by omega)) H6.out
                  rw [Nat.add_mul, Nat.one_mul] at hku
                  have h0 : ((k * U : Nat) : Int) = (k : Int) * (U : Int) := by push_cast; rfl
                  have hD60 := HSL.out.get k
                  obtain ⟨D, hD⟩ : ∃ D, D = L.getD k 0 := ⟨_, rfl⟩
                  rw [← hD] at e1 hDs hfd hD60
                  have HD := Lib.hid hD
                  have HB1 := Lib.hid hB1
                  have HB2 := Lib.hid hB2
                  clear hD hB1 hB2
                  have hi1 : (0 : Int) ≤ (a : Int) + (k : Int) := by omega
                  have hi2 : (a : Int) + (k : Int) < (n : Int) := by have := HN3.out; omega
                  have hi3 : ((a : Int) + (k : Int)).toNat = a + k := by omega
                  have hsh : (((D : Int) * 2 ^ (k * U)) : Int) = ((D * 2 ^ (k * U) : Nat) : Int) := by push_cast; rfl
                  obtain ⟨X', hX'⟩ : ∃ X', X' = X ||| (D * 2 ^ (k * U) % 18446744073709551616) := ⟨_, rfl⟩
                  have hX1 : X' < 18446744073709551616 := by rw [hX']; exact Nat.or_lt_two_pow (n := 64) hX (Nat.mod_lt _ (by decide))
                  have hor : bits .or .u64 (X : Int) (IntKind.u64.wrap ((D : Int) * 2 ^ (k * U))) = ((X' : Nat) : Int) := by
                    rw [hsh, IntKind.wrap_u64, show ((D * 2 ^ (k * U) : Nat) : Int) % 18446744073709551616 = ((D * 2 ^ (k * U) % 18446744073709551616 : Nat) : Int) from by omega,
                      u64_or_nat _ _ hX (Nat.mod_lt _ (by decide)), hX']
                  have HOR := Lib.hid hor
                  have HX1 := Lib.hid hX1
                  have HBT : Hid (B = true → ((decide (D < 2 ^ U)) = true ↔ ∀ j, j < k + 1 → L.getD j 0 < 2 ^ U) ∧ ((decide (D < 2 ^ U)) = true → X' = s * 2 ^ 60 + laid U L (k + 1))) := Lib.hid fun hB => by
                    have hall := HB1.out.1 hB
                    have hiff : (decide (D < 2 ^ U)) = true ↔ ∀ j, j < k + 1 → L.getD j 0 < 2 ^ U := by
                      rw [decide_eq_true_iff]
                      refine ⟨fun h j hj => ?_, fun h => by rw [HD.out]; exact h k (by omega)⟩
                      by_cases hjk : j = k
                      · subst hjk; rw [← HD.out]; exact h
                      · exact hall j (by omega)
                    refine ⟨hiff, fun h => ?_⟩
                    have hw := word_or (s := s) (hiff.1 h) hku
                    rw [hX', HB2.out hB, HD.out, Nat.mod_eq_of_lt (Nat.lt_trans hw.2 (by decide))]
                    exact hw.1
                  have HBF : Hid (B = false → ((false = true) ↔ ∀ j, j < k + 1 → L.getD j 0 < 2 ^ U) ∧ (false = true → X' = s * 2 ^ 60 + laid U L (k + 1))) := Lib.hid fun hB => by
                    refine ⟨Iff.intro (fun h => absurd h (by decide)) (fun h => ?_), fun h => absurd h (by decide)⟩
                    have := HB1.out.2 (fun j hj => h j (by omega))
                    rw [hB] at this
                    cases this
                  clear hX' hX1 hor hsh hi3 HD
                  have hi3 : ((a : Int) + (k : Int)).toNat = a + k := by omega
                  cases B
                  case' false =>
                    have HFIN := Lib.hid (HBF.out rfl)
                    clear HBT HBF HB1 HB2
                    go_upto_region 20 with (fail)
                    go_quiet (fail)
                    go_upto_region 21 with (fail)
                  case' true =>
                    have HFIN := Lib.hid (HBT.out rfl)
                    clear HBT HBF HB1 HB2
                    go_upto_region 20 with (fail)
                    go_quiet (fail)
                    go_upto_region 21 with (fail)
                  all_goals
                    clear hfd
                    obtain ⟨wd, hwd⟩ : ∃ wd, wd = wc.drewN nq := ⟨_, rfl⟩
                    have e1' : wd.cell? ⟨b, off + (a + k), none⟩ = some (.int .u64 (D : Nat)) := by rw [hwd]; exact e1
                    have e2' : wd.cell? ⟨G, s, none⟩ = some (.int .i64 (U : Nat)) := by rw [hwd]; exact e2
                    have hmd : Hid (∃ m, wd = wb.drewN m) := by obtain ⟨m, rfl⟩ := hm; exact Lib.hid ⟨m + nq, by rw [hwd, World.drewN_drewN]⟩
                    rw [← hwd]
                    clear hwd e1 e2 hm
                    go_quiet (fail)
                    go_wp2_with fail
                    rw [HOR.out]
                    go_roundw
                    case rel => exact ⟨k + 1, X', _, by omega, by go_num, rfl, HX1.out, rfl, HFIN.out.1, HFIN.out.2, by obtain ⟨m, rfl⟩ := hmd.out; exact ⟨m + nq, by rw [World.drewN_drewN]⟩⟩
                    case measure => simp [intOf]; omega
                · obtain rfl : N = k := by omega
                  have HMM := Lib.hid hm
                  have HX := Lib.hid hX
                  cases B with
                  | false =>
                    have hno : ¬ Fit L s := fun h => by
                      have := hB1.2 (fun j hj => by rw [HU.out]; exact h j (by rw [HLN.out, ← HCC.out]; have := HN3.out; omega))
                      cases this
                    have hlt : s + 1 ≤ least L := by
                      by_cases e : s = least L
                      · exact absurd (by rw [e]; exact HLS.out.1) hno
                      · have := HK.out; omega
                    have HLT := Lib.hid hlt
                    clear hno hlt hB1 hB2 hm hX
                    go_wp2_with fail
                    go_roundw
                    case rel => exact ⟨s + 1, HLT.out, by go_num, rfl, rfl, by obtain ⟨m, rfl⟩ := HMM.out; obtain ⟨m', rfl⟩ := HMA.out; exact ⟨m' + m, by rw [World.drewN_drewN]⟩⟩
                    case measure => simp [intOf]; omega
                  | true =>
                    have hyes : Fit L s := fun j hj => by
                      rw [← HU.out]
                      exact hB1.1 rfl j (by rw [HLN.out, ← HCC.out] at hj; have := HN3.out; omega)
                    have heq : least L = s := least_eq hyes hs13 (fun t ht => HLS.out.2.2 t (by have := HK.out; omega))
                    have htk : took L = N := by unfold took; rw [heq, HLN.out, ← HCC.out, HN3.out]
                    have HXW : Hid (X = word L) := Lib.hid (by rw [hB2 rfl]; unfold word; rw [heq, htk, HU.out])
                    have HTK := Lib.hid htk
                    have HO5 : Hid (wc.ownsRow (G + 1) 5 1 o0 (8 * ws.length) (u8s (flat ws))) := by obtain ⟨m, rfl⟩ := HMM.out; exact Lib.hid HOB.out
                    have HB5 : Hid (Below (G + 1) w1 wc) := by obtain ⟨m, rfl⟩ := HMM.out; exact Lib.hid (Below.drewN' HBB.out m)
                    clear hyes heq htk hB1 hB2 hX
                    go_wp2_with (first
                      | (go_at_call 17; refine (eight14 _ _).mono ?_; rintro e w5 ⟨g8, c8, rfl, ho8, b8⟩
                         have HO8 := Lib.hid (own_below HO5.out b8)
                         have H8 := Lib.hid ho8
                         have HB8 := Lib.hid (HB5.out.trans (b8.mono (by have := HB5.out.size; have := HT1.out.1; omega)))
                         clear ho8 b8)
                      | (at_builtin; refine wpList_append_own _ rfl (.tmp 85) (.tmp 87) 24 rfl (G + 1) 5 i0 (.int .u8 0) 1 1 Tryd.underlying24 hi hz0 hz1 hz2 rfl (by decide) _ (8 * ws.length) (u8s (flat ws)) rfl HO8.out ⟨g8, 0, none⟩ 8 c8 (u8s (eight X)) rfl rfl ?c1 ?c2 ?c3 ?c4 ?c5 ?_))
                    case c1 => exact H8.out.cells rfl
                    case c2 => intro u hu; simp [u8s] at hu; obtain ⟨x, _, rfl⟩ := hu; rfl
                    case c3 => unfold maxLen; omega
                    case c4 => omega
                    case c5 => have := HB8.out.size; have := HT1.out.1; omega
                    intro v' w6 hown6 hgrow _
                    have HB6 := Lib.hid (Below.grown HB8.out hgrow (by have := HB8.out.size; have := HT1.out.1; omega) (fun r hr => (HO8.out.lt r hr).1))
                    have HO6 := Lib.hid hown6
                    clear hgrow hown6
                    go_wp2_with fail
                    go_roundw
                    case rel =>
                      have hLp : 0 < L.length := by rw [HLN.out]; omega
                      refine ⟨a + N, ws ++ [word L], ?_, by go_num, by simp; omega, ?_, ?_, HB6.out⟩
                      · have := HN3.out; omega
                      · rw [HWS.out, words_cons hLp, HTK.out, HL.out, List.drop_drop]
                        simp
                      · have h := HO6.out
                        rw [HXW.out] at h
                        rw [flat_snoc, List.length_append, List.length_cons, List.length_nil, show u8s (flat ws ++ eight (word L)) = u8s (flat ws) ++ u8s (eight (word L)) from by simp [u8s]]
                        exact h
                    case measure => simp [intOf]; omega
          · obtain rfl : n = a := by omega
            have HOW := Lib.hid hown
            have HBE := Lib.hid hbel
            have HWS : Hid (words l = ws) := Lib.hid (by rw [hws, words_nil (by rw [List.length_drop, ← HN.out]; omega), List.append_nil])
            clear hws hown hbel
            go_wp2_with fail
            go_ret2
            refine .inl ⟨HS.out, _, rfl, ?_, ?_⟩
            · unfold packs
              rw [HWS.out, flat_len, ← HG.out]
              exact Go.Joins.ownsRow_le HOW.out (by omega)
            · rw [← HG.out]
              exact B1.out.trans (HBE.out.mono (by omega))
end Rp
end Go.Proofs.YtidbpoigbfpocaaDoor
