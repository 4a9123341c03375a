import Derived.Test.YtbnicnhkakbglaaGreatDoorG07

/- readFloat, by the exponent's shape. -/
namespace Go.Proofs.YtbnicnhkakbglaaGreatDoor
open Go.RowKit
namespace Rf
open Rm

set_option maxRecDepth 100000 in
set_option maxHeartbeats 16000000 in
theorem rf89_plus (w : World) (S : ByteArray) (bs sg mn ex : List Nat) (hS : Sb S bs) (hF : FloatText bs sg mn ex) (hl : bs.length ≤ 400) (hX : ex.getD 1 0 = 43) :
    Calls Tryz.prog 183 #[.string S] w fun e w' => e = .returned (.tuple #[.int .u64 (mantOf mn : Nat), .int .i64 (powOf mn ex), .bool (!sg.isEmpty), .bool (truncOf mn), .bool false, .int .i64 (S.size : Nat), .bool true]) ∧ w' = w := by
  have HXS := Lib.hid hX
  clear hX
  obtain ⟨hb, hsg, hM, hE⟩ := hF
  have hmn : 0 < mn.length := mant_pos hM
  have hlen : bs.length = sg.length + (mn.length + ex.length) := by rw [hb, List.length_append, List.length_append]
  have h0 : 0 < S.size := by rw [hS.1]; omega
  have hl4 : S.size ≤ 400 := by rw [hS.1]; exact hl
  have c0 : S[0].toNat = bs.getD 0 0 := hS.2 0 h0
  have AM : Hid (∀ k, k < mn.length → bs.getD (sg.length + k) 0 = mn.getD k 0) := Lib.hid fun k hk => at_mn hb hk
  have AE : Hid (∀ q, bs.getD (sg.length + mn.length + q) 0 = ex.getD q 0) := Lib.hid fun q => at_ex hb q
  have d0 : 48 ≤ mn.getD 0 0 ∧ mn.getD 0 0 ≤ 57 := mant_first hM
  obtain ⟨o, ho⟩ : ∃ o, o = sg.length := ⟨_, rfl⟩
  have ho1 : o ≤ 1 := by rcases hsg with rfl | rfl <;> simp [ho]
  have HC0 : Hid ((o = 0 ∧ sg = [] ∧ 48 ≤ bs.getD 0 0 ∧ bs.getD 0 0 ≤ 57) ∨ (o = 1 ∧ sg = [45] ∧ bs.getD 0 0 = 45)) := Lib.hid (by
    rcases hsg with rfl | rfl
    · left
      have h := AM.out 0 hmn
      simp only [List.length_nil, Nat.add_zero] at h
      rw [h]
      exact ⟨by simpa using ho, rfl, d0⟩
    · right
      exact ⟨by simpa using ho, rfl, by rw [hb]; rfl⟩)
  have HLS : Hid (o + (mn.length + ex.length) = S.size) := Lib.hid (by rw [hS.1, hlen, ho])
  have hos : o < S.size := by have := HLS.out; omega
  have co : (S[o]'hos).toNat = mn.getD 0 0 := by
    rw [hS.2 o hos, ho]
    exact AM.out 0 hmn
  have HN : Hid (∀ h : o + 1 < S.size, ((S[o + 1]'h).toNat ||| 32) ≠ 120) := Lib.hid fun h => by
    rw [hS.2 _ h]
    refine or_plain ?_
    by_cases h1 : 1 < mn.length
    · rw [ho, AM.out 1 h1]
      rcases mant_char hM 1 h1 with h | h
      · exact .inl h
      · exact .inr (.inl h)
    · have e1 : mn.length = 1 := by omega
      have h2 := AE.out 0
      rw [e1, Nat.add_zero] at h2
      rw [ho, h2]
      rcases hE with rfl | ⟨c, s, d, rfl, hc, _⟩
      · have := HLS.out; simp at this; omega
      · rcases hc with rfl | rfl
        · exact .inr (.inr (.inl rfl))
        · exact .inr (.inr (.inr rfl))
  obtain ⟨C1, hC1⟩ : ∃ C, C = bs.getD 0 0 := ⟨_, rfl⟩
  rw [← hC1] at c0 HC0
  obtain ⟨C0, hC0⟩ : ∃ C, C = mn.getD 0 0 := ⟨_, rfl⟩
  rw [← hC0] at co d0
  obtain ⟨nb, hnb⟩ : ∃ nb, nb = !sg.isEmpty := ⟨_, rfl⟩
  have HNB : Hid (nb = !sg.isEmpty) := Lib.hid hnb
  rw [← hnb]
  rw [← ho] at AM AE
  have hemp : ¬ S = ByteArray.empty := by intro e; rw [e] at h0; simp at h0
  have HM := Lib.hid hM
  have HCH : Hid (∀ k, k < mn.length → ∀ h : o + k < S.size, (S[o + k]'h).toNat = mn.getD k 0) := Lib.hid fun k hk h => by rw [hS.2 _ h, AM.out k hk]
  have HEND : Hid (o + mn.length = S.size ∨ ∃ C, (∃ h : o + mn.length < S.size, (S[o + mn.length]'h).toNat = C) ∧ (C = 69 ∨ C = 101)) := Lib.hid (by
    rcases hE with rfl | ⟨c, sg', d, rfl, hc, hsg', hd⟩
    · exact .inl (by have := HLS.out; simp at this; omega)
    · have h : o + mn.length < S.size := by have := HLS.out; simp at this; omega
      refine .inr ⟨c, ⟨h, ?_⟩, hc⟩
      rw [hS.2 _ h]
      exact AE.out 0)
  clear hC1 hC0 hnb hsg ho hlen hb hl hmn
  go_enter Tryz.func183, Tryz.ntmps183
  go_wp2_with fail
  go_step3
  go_upto_block 0 with (fail)
  go_cut [4, 7] (fun ng i wx => ng = .bool nb ∧ i = .int .i64 (o : Nat) ∧ wx = w)
  case first =>
    rcases HC0.out with ⟨ho0, hsg, hc1, hc2⟩ | ⟨ho1, hsg, hc1⟩
    · have n43 : ((C1 : Int) == 43) = false := by simp; omega
      have n45 : ((C1 : Int) == 45) = false := by simp; omega
      have hn : nb = false := by rw [HNB.out, hsg]; rfl
      subst ho0
      subst hn
      clear hsg
      go_wp2_with fail
      go_meet
      exact ⟨rfl, rfl, rfl⟩
    · have hn : nb = true := by rw [HNB.out, hsg]; rfl
      subst hc1
      subst ho1
      subst hn
      clear hsg
      go_wp2_with fail
      go_meet
      exact ⟨rfl, rfl, rfl⟩
  case rest =>
  obtain ⟨rfl, rfl, rfl⟩ := hcut
  clear HC0
  go_upto_region 12 with (fail)
  go_cut [54] (fun s54 wx => s54 = .bool false ∧ wx = wc)
  case first => as_aux_lemma =>
    have hoI : (o : Int) < (S.size : Int) := by omega
    by_cases h2 : o + 2 < S.size
    · have h2I : (o : Int) + 2 < (S.size : Int) := by omega
      by_cases h48 : C0 = 48
      · obtain ⟨o1, ho1'⟩ : ∃ o1, o1 = o + 1 := ⟨_, rfl⟩
        have h1 : o1 < S.size := by omega
        have HNX : ∀ h : o1 < S.size, ((S[o1]'h).toNat ||| 32) ≠ 120 := fun h => by subst ho1'; exact HN.out h
        have hne0 := HNX h1
        have FL : Hid (∀ x, Calls Tryz.prog 198 #[.int .u8 ((S[o1]'h1).toNat : Nat)] x fun e w' => e = .returned (.int .u8 (((S[o1]'h1).toNat ||| 32 : Nat) : Int)) ∧ w' = x) := Lib.hid fun x => lower104 x _ (S[o1]'h1).toNat_lt
        have hne : ((((S[o1]'h1).toNat ||| 32 : Nat) : Int) == 120) = false := by simp only [beq_eq_false_iff_ne, ne_eq]; omega
        have m48 : ((C0 : Int) == 48) = true := by simp; omega
        have hi1 : (o : Int) + 1 = (o1 : Int) := by omega
        have h1I : (o1 : Int) < (S.size : Int) := by omega
        clear h48 HNX hne0 ho1'
        go_wp2_with (go_at_call 198; refine (FL.out _).mono ?_; rintro e w2 ⟨rfl, rfl⟩)
        go_meet
        exact ⟨rfl, rfl⟩
      · have m48 : ((C0 : Int) == 48) = false := by simp; omega
        go_wp2_with fail
        go_meet
        exact ⟨rfl, rfl⟩
    · have h2I : ¬ (o : Int) + 2 < (S.size : Int) := by omega
      go_wp2_with fail
      go_meet
      exact ⟨rfl, rfl⟩
  case rest =>
    obtain ⟨rfl, rfl⟩ := hcut
    go_wp2_with fail
    go_step3
    go_upto_block 1 with (fail)
    go_cut [2, 5, 7, 9, 13, 14, 15, 16, 17] (fun m t i un d s n q p wx => i = .int .i64 ((o + mn.length : Nat) : Int) ∧ un = .bool false ∧ m = .int .u64 ((rst mn).m : Nat) ∧ t = .bool (rst mn).tr ∧ d = .bool (rst mn).dot ∧ s = .bool (rst mn).sd ∧ n = .int .i64 ((rst mn).nd : Nat) ∧ q = .int .i64 ((rst mn).nm : Nat) ∧ p = .int .i64 (rst mn).dp ∧ wx = wc)
    case first => as_aux_lemma =>
      go_wp2_with fail
      go_loop [2, 5, 7, 9, 13, 14, 15, 16, 17] (fun m t i un d s n q p => ∃ k, k ≤ mn.length ∧ i = .int .i64 ((o + k : Nat) : Int) ∧ un = .bool false ∧ m = .int .u64 ((rst (mn.take k)).m : Nat) ∧ t = .bool (rst (mn.take k)).tr ∧ d = .bool (rst (mn.take k)).dot ∧ s = .bool (rst (mn.take k)).sd ∧ n = .int .i64 ((rst (mn.take k)).nd : Nat) ∧ q = .int .i64 ((rst (mn.take k)).nm : Nat) ∧ p = .int .i64 (rst (mn.take k)).dp) (fun _ _ i _ _ _ _ _ _ => 1000 - (intOf i).toNat)
      case atStart => exact ⟨0, Nat.zero_le _, rfl, rfl, rfl, rfl, rfl, rfl, rfl, rfl, rfl⟩
      case round =>
        obtain ⟨k, hk, rfl, rfl, rfl, rfl, rfl, rfl, rfl, rfl, rfl⟩ := hrel
        by_cases hkm : k < mn.length
        · obtain ⟨i1, i2, i3, i4, i5, i6⟩ := rst_inv HM.out k hk
          have hch : (48 ≤ mn.getD k 0 ∧ mn.getD k 0 ≤ 57) ∨ mn.getD k 0 = 46 := mant_char HM.out k hkm
          have hdo := dot_once HM.out k hkm
          have hsu := rst_succ mn k hkm
          have hks : o + k < S.size := by have := HLS.out; omega
          have hm9 : 10 ^ (rst (mn.take k)).nm ≤ 10 ^ 19 := Nat.pow_le_pow_right (by decide) i2
          have ck : (S[o + k]'hks).toNat = mn.getD k 0 := HCH.out k hkm hks
          obtain ⟨r, hr⟩ : ∃ r, r = rst (mn.take k) := ⟨_, rfl⟩
          obtain ⟨C, hC⟩ : ∃ C, C = mn.getD k 0 := ⟨_, rfl⟩
          rw [← hr] at i1 i2 i3 i4 i5 i6 hsu hdo hm9 ⊢
          rw [← hC] at ck hch hsu hdo
          have HSU := Lib.hid hsu
          have hkn : k ≤ 400 := by have := HLS.out; omega
          obtain ⟨dot, sd, nd, nm, dp, m, tr⟩ := r
          dsimp only at i1 i2 i3 i4 i5 i6 hdo hm9 ⊢
          clear hr hC hsu
          obtain ⟨j, hj⟩ : ∃ j, j = o + k := ⟨_, rfl⟩
          have ck2 : ∀ h : j < S.size, (S[j]'h).toNat = C := fun h => by subst hj; exact ck
          have hjs : j < S.size := by omega
          have ck3 := ck2 hjs
          have hj9 : j ≤ 401 := by omega
          have HJ := Lib.hid hj
          rw [← hj]
          clear hj ck ck2 hks
          have n95 : ((C : Int) == 95) = false := by simp; omega
          have hkI : (j : Int) < (S.size : Int) := by omega
          by_cases h46 : C = 46
          · obtain rfl : dot = false := hdo h46
            have m46 : ((C : Int) == 46) = true := by simp; omega
            have HE : Hid (rst (mn.take (k + 1)) = ⟨true, sd, nd, nm, (nd : Int), m, tr⟩) := Lib.hid (by rw [HSU.out]; unfold rstep; rw [if_pos h46])
            clear h46 hch hdo
            go_wp2_with fail
            go_round
            case rel => exact ⟨k + 1, by omega, by rw [HJ.out]; go_num, rfl, by simp only [HE.out], by simp only [HE.out], by simp only [HE.out], by simp only [HE.out], by simp only [HE.out], by simp only [HE.out], by simp only [HE.out]⟩
            case measure => simp [intOf]; omega
          · have hd : 48 ≤ C ∧ C ≤ 57 := by rcases hch with h | h; exact h; exact absurd h h46
            obtain ⟨hd1, hd2⟩ := hd
            have m46 : ((C : Int) == 46) = false := by simp; omega
            by_cases h48 : C = 48 ∧ nd = 0
            · obtain ⟨h48, rfl⟩ := h48
              have m48 : ((C : Int) == 48) = true := by simp; omega
              have HE : Hid (rst (mn.take (k + 1)) = ⟨dot, true, 0, nm, dp - 1, m, tr⟩) := Lib.hid (by rw [HSU.out]; unfold rstep; rw [if_neg h46, if_pos ⟨h48, rfl⟩])
              clear h46 hch hdo h48
              go_wp2_with fail
              go_round
              case rel => exact ⟨k + 1, by omega, by rw [HJ.out]; go_num, rfl, by simp only [HE.out], by simp only [HE.out], by simp only [HE.out], by simp only [HE.out], by simp only [HE.out]; rfl, by simp only [HE.out], by simp only [HE.out]⟩
              case measure => simp [intOf]; omega
            · have hm48 : ((C : Int) == 48) = true → ((nd : Int) == 0) = false := by
                intro h; simp at h; simp; omega
              by_cases h19 : nm < 19
              · have hmm : m < 1000000000000000000 := by
                  have : 10 ^ nm ≤ 10 ^ 18 := Nat.pow_le_pow_right (by decide) (by omega)
                  omega
                have HE : Hid (rst (mn.take (k + 1)) = ⟨dot, true, nd + 1, nm + 1, dp, m * 10 + (C - 48), tr⟩) := Lib.hid (by rw [HSU.out]; unfold rstep; rw [if_neg h46, if_neg h48, if_pos h19])
                by_cases hz : C = 48
                · have m48 : ((C : Int) == 48) = true := by simp; omega
                  have mnd := hm48 m48
                  clear h46 hch hdo h48 hm48 hz
                  go_wp2_with fail
                  go_round
                  case rel => exact ⟨k + 1, by omega, by rw [HJ.out]; go_num, rfl, by simp only [HE.out]; congr 1; omega, by simp only [HE.out], by simp only [HE.out], by simp only [HE.out], by simp only [HE.out]; congr 1, by simp only [HE.out]; congr 1, by simp only [HE.out]⟩
                  case measure => simp [intOf]; omega
                · have m48 : ((C : Int) == 48) = false := by simp; omega
                  clear h46 hch hdo h48 hm48 hz
                  go_wp2_with fail
                  go_round
                  case rel => exact ⟨k + 1, by omega, by rw [HJ.out]; go_num, rfl, by simp only [HE.out]; congr 1; omega, by simp only [HE.out], by simp only [HE.out], by simp only [HE.out], by simp only [HE.out]; congr 1, by simp only [HE.out]; congr 1, by simp only [HE.out]⟩
                  case measure => simp [intOf]; omega
              · have HE : Hid (rst (mn.take (k + 1)) = ⟨dot, true, nd + 1, nm, dp, m, tr || decide (C ≠ 48)⟩) := Lib.hid (by rw [HSU.out]; unfold rstep; rw [if_neg h46, if_neg h48, if_neg h19])
                by_cases hz : C = 48
                · have m48 : ((C : Int) == 48) = true := by simp; omega
                  have mnd := hm48 m48
                  have hdz : decide (C ≠ 48) = false := by simp [hz]
                  rw [hdz, Bool.or_false] at HE
                  clear h46 hch hdo h48 hm48 hz hdz
                  go_wp2_with fail
                  go_round
                  case rel => exact ⟨k + 1, by omega, by rw [HJ.out]; go_num, rfl, by simp only [HE.out], by simp only [HE.out], by simp only [HE.out], by simp only [HE.out], by simp only [HE.out]; congr 1, by simp only [HE.out], by simp only [HE.out]⟩
                  case measure => simp [intOf]; omega
                · have m48 : ((C : Int) == 48) = false := by simp; omega
                  have hdz : decide (C ≠ 48) = true := by simp [hz]
                  rw [hdz, Bool.or_true] at HE
                  clear h46 hch hdo h48 hm48 hz hdz
                  go_wp2_with fail
                  go_round
                  case rel => exact ⟨k + 1, by omega, by rw [HJ.out]; go_num, rfl, by simp only [HE.out], by simp only [HE.out], by simp only [HE.out], by simp only [HE.out], by simp only [HE.out]; congr 1, by simp only [HE.out], by simp only [HE.out]⟩
                  case measure => simp [intOf]; omega
        · obtain rfl : k = mn.length := by omega
          rw [List.take_length]
          have HX := Lib.hid (HEND.out)
          obtain ⟨M, hMM⟩ : ∃ M, M = o + mn.length := ⟨_, rfl⟩
          rw [← hMM]
          have HMM2 := Lib.hid hMM
          rcases HX.out with hx | ⟨C, hc, hcc⟩
          · have hks : ¬ (M : Int) < (S.size : Int) := by omega
            clear hx hMM
            go_wp2_with fail
            go_meet
            exact ⟨by rw [HMM2.out], rfl, rfl, rfl, rfl, rfl, rfl, rfl, rfl, rfl⟩
          · obtain ⟨hks, ck⟩ := hc
            have hkI : (M : Int) < (S.size : Int) := by omega
            have ck2 : ∀ h : M < S.size, (S[M]'h).toNat = C := fun h => by subst hMM; exact ck
            have hksM : M < S.size := by omega
            have ck3 : (S[M]'hksM).toNat = C := ck2 _
            have n95 : ((C : Int) == 95) = false := by simp; omega
            have m46 : ((C : Int) == 46) = false := by simp; omega
            have m57 : (57 : Int) < (C : Int) := by omega
            clear ck ck2 hkm hk hMM
            go_wp2_with fail
            go_meet
            exact ⟨by rw [HMM2.out], rfl, rfl, rfl, rfl, rfl, rfl, rfl, rfl, rfl⟩
    case rest =>
      obtain ⟨rfl, rfl, rfl, rfl, rfl, rfl, rfl, rfl, rfl, rfl⟩ := hcut
      have hsd := sd_true HM.out
      obtain ⟨i1, i2, i3, i4, i5, i6⟩ := rst_inv HM.out mn.length (Nat.le_refl _)
      rw [List.take_length] at i1 i2 i3 i4 i5 i6
      have HDP : Hid (dpOf mn = (if (rst mn).dot then (rst mn).dp else ((rst mn).nd : Int))) := Lib.hid rfl
      have HPW : Hid (powOf mn ex = (if (rst mn).m ≠ 0 then dpOf mn + expOf ex - ((rst mn).nm : Int) else 0)) := Lib.hid rfl
      have hMS : mn.length ≤ 400 := by have := HLS.out; omega
      have HMM : Hid (mantOf mn = (rst mn).m) := Lib.hid rfl
      have HTR : Hid (truncOf mn = (rst mn).tr) := Lib.hid rfl
      obtain ⟨r, hr⟩ : ∃ r, r = rst mn := ⟨_, rfl⟩
      rw [← hr] at i1 i2 i3 i4 i5 i6 hsd HDP HPW HMM HTR ⊢
      obtain ⟨dot, sd, nd, nm, dp, m, tr⟩ := r
      dsimp only at i1 i2 i3 i4 i5 i6 hsd HDP HPW HMM HTR ⊢
      subst hsd
      obtain ⟨M, hM1⟩ : ∃ M, M = o + mn.length := ⟨_, rfl⟩
      have hMb : M ≤ 401 := by omega
      have HM1 := Lib.hid hM1
      rw [← hM1]
      clear hr hM1 i1 HEND HN co d0
      go_upto_if 142 with (fail)
      go_cut [17] (fun p wx => p = .int .i64 (dpOf mn) ∧ wx = wc)
      case first =>
        cases dot with
        | true =>
          go_wp2_with fail
          go_meet
          exact ⟨by rw [HDP.out]; rfl, rfl⟩
        | false =>
          go_wp2_with fail
          go_meet
          exact ⟨by rw [HDP.out]; rfl, rfl⟩
      case rest =>
        obtain ⟨rfl, rfl⟩ := hcut
        have hdp : -400 ≤ dpOf mn ∧ dpOf mn ≤ 400 := by rw [HDP.out]; split <;> omega
        obtain ⟨hdp1, hdp2⟩ := hdp
        obtain ⟨DP, hDP⟩ : ∃ DP, DP = dpOf mn := ⟨_, rfl⟩
        rw [← hDP] at hdp1 hdp2 HPW ⊢
        clear hDP HDP i4 i5 i6
        rcases hE with rfl | ⟨c, sg, d, rfl, hc, hsg, hd⟩
        · exact absurd HXS.out (by simp)
        · rcases hsg with rfl | rfl | rfl
          · exfalso
            have h : d.getD 0 0 = 43 := HXS.out
            obtain ⟨a, b⟩ := hd.2 _ (mem_get (List.length_pos_iff.2 hd.1))
            omega
          · simp only [List.nil_append, List.cons_append] at HLS HPW AE ⊢
            have FL : Hid (∀ x, Calls Tryz.prog 198 #[.int .u8 (c : Nat)] x fun e w' => e = .returned (.int .u8 101) ∧ w' = x) := Lib.hid fun x => by
              have h := lower104 x c (by omega)
              rcases hc with rfl | rfl
              · exact h
              · exact h
            have HSZ : Hid (M + 1 + 1 + d.length = S.size) := Lib.hid (by rw [HM1.out]; have := HLS.out; simp at this; omega)
            have hd0 := List.length_pos_iff.2 hd.1
            have HDD := Lib.hid hd
            have HEX : Hid (expOf (c :: 43 :: d) = ((est d : Nat) : Int)) := Lib.hid (rfl)
            have hs0 : M < S.size := by have := HSZ.out; omega
            have hk0 : (S[M]'hs0).toNat = c := by
              rw [hS.2 M hs0, HM1.out]
              exact AE.out 0
            have HDC : Hid (∀ q, q < d.length → ∀ h : M + 1 + 1 + q < S.size, (S[M + 1 + 1 + q]'h).toNat = d.getD q 0) := Lib.hid fun q hq h => by
              rw [hS.2 _ h, HM1.out, show o + mn.length + 1 + 1 + q = o + mn.length + (q + 2) from by omega]
              exact (AE.out (q + 2)).trans rfl
            have hs1 : M + 1 < S.size := by have := HSZ.out; omega
            have hk1 : (S[M + 1]'hs1).toNat = 43 := by
              rw [hS.2 _ hs1, HM1.out]
              exact AE.out 1
            have hs2 : M + 1 + 1 < S.size := by have := HSZ.out; omega
            have hk2 : (S[M + 1 + 1]'hs2).toNat = d.getD 0 0 := HDC.out 0 hd0 hs2
            have hdig : 48 ≤ d.getD 0 0 ∧ d.getD 0 0 ≤ 57 := hd.2 _ (mem_get hd0)
            obtain ⟨B, hB⟩ : ∃ B, B = M + 1 + 1 := ⟨_, rfl⟩
            have hk2' : ∀ h : B < S.size, (S[B]'h).toNat = d.getD 0 0 := fun h => by subst hB; exact hk2
            have hsB : B < S.size := by omega
            have kB : (S[B]'hsB).toNat = d.getD 0 0 := hk2' _
            obtain ⟨C2, hC2⟩ : ∃ C, C = d.getD 0 0 := ⟨_, rfl⟩
            rw [← hC2] at hdig kB
            obtain ⟨hdig1, hdig2⟩ := hdig
            rw [← hB] at HSZ HDC
            have p43 : ((C2 : Int) == 43) = false := by simp; omega
            have p45 : ((C2 : Int) == 45) = false := by simp; omega
            have hMI : (M : Int) < (S.size : Int) := by omega
            have hBI : (B : Int) < (S.size : Int) := by omega
            obtain ⟨M1, hM1'⟩ : ∃ M1, M1 = M + 1 := ⟨_, rfl⟩
            have hk1' : ∀ h : M1 < S.size, (S[M1]'h).toNat = 43 := fun h => by subst hM1'; exact hk1
            have hs1' : M1 < S.size := by omega
            have k1 : (S[M1]'hs1').toNat = 43 := hk1' _
            have hi1 : (M : Int) + 1 = (M1 : Int) := by omega
            have hi2 : (M1 : Int) + 1 = (B : Int) := by omega
            have hM1I : (M1 : Int) < (S.size : Int) := by omega
            clear hk2 hk2' hC2 hB hs2 hk1 hk1' hs1 hM1' hc hd
            go_wp2_with (go_at_call 198; refine (FL.out _).mono ?_; rintro e w2 ⟨rfl, h2⟩; rw [h2]; clear h2 w2)
            have hB9 : B ≤ 402 := by have := HSZ.out; omega
            clear hi1 hi2 k1 hM1I hs1' hk0 hs0 kB p43 p45 hdig1 hdig2 hMI FL
            go_loop [7, 9, 20] (fun i un e => ∃ q, q ≤ d.length ∧ i = .int .i64 ((B + q : Nat) : Int) ∧ un = .bool false ∧ e = .int .i64 (est (d.take q) : Nat)) (fun i _ _ => 1000 - (intOf i).toNat)
            case atStart => exact ⟨0, Nat.zero_le _, rfl, rfl, rfl⟩
            case round =>
              obtain ⟨q, hq, rfl, rfl, rfl⟩ := hrel ; rename_i g1 g2 g3 gK ga gw ; clear g1 g2 g3
              by_cases hqd : q < d.length
              · have hdc : 48 ≤ d.getD q 0 ∧ d.getD q 0 ≤ 57 := HDD.out.2 _ (mem_get hqd)
                have hel := est_le HDD.out.2 q hq
                have hes := est_succ d q hqd
                have hjs : B + q < S.size := by have := HSZ.out; omega
                have ck : (S[B + q]'hjs).toNat = d.getD q 0 := HDC.out q hqd hjs
                obtain ⟨C, hC⟩ : ∃ C, C = d.getD q 0 := ⟨_, rfl⟩
                obtain ⟨E, hE⟩ : ∃ E, E = est (d.take q) := ⟨_, rfl⟩
                rw [← hC] at hdc ck hes
                rw [← hE] at hel hes ⊢
                have HES := Lib.hid hes
                obtain ⟨hd1, hd2⟩ := hdc
                obtain ⟨j, hj⟩ : ∃ j, j = B + q := ⟨_, rfl⟩
                have ck2 : ∀ h : j < S.size, (S[j]'h).toNat = C := fun h => by subst hj; exact ck
                have hjs2 : j < S.size := by omega
                have ck3 : (S[j]'hjs2).toNat = C := ck2 _
                have hjI : (j : Int) < (S.size : Int) := by omega
                have HJ := Lib.hid hj
                have hj9 : j ≤ 402 := by have := HSZ.out; omega
                rw [← hj]
                have n95 : ((C : Int) == 95) = false := by simp; omega
                clear hC hE hes hj ck ck2 hjs
                by_cases h4 : E < 10000
                · have HE2 : Hid (est (d.take (q + 1)) = E * 10 + (C - 48)) := Lib.hid (by rw [HES.out]; unfold estep; rw [if_pos h4])
                  go_wp2_with fail
                  go_round
                  case rel => exact ⟨q + 1, by omega, by rw [HJ.out]; go_num, rfl, by rw [HE2.out]; congr 1; omega⟩
                  case measure => simp [intOf]; omega
                · have HE2 : Hid (est (d.take (q + 1)) = E) := Lib.hid (by rw [HES.out]; unfold estep; rw [if_neg h4])
                  go_wp2_with fail
                  go_round
                  case rel => exact ⟨q + 1, by omega, by rw [HJ.out]; go_num, rfl, by rw [HE2.out]⟩
                  case measure => simp [intOf]; omega
              · obtain rfl : q = d.length := by omega
                rw [List.take_length]
                have hel := est_le HDD.out.2 d.length (Nat.le_refl _)
                rw [List.take_length] at hel
                obtain ⟨E, hE⟩ : ∃ E, E = est d := ⟨_, rfl⟩
                rw [← hE] at hel ⊢
                obtain ⟨j, hj⟩ : ∃ j, j = B + d.length := ⟨_, rfl⟩
                have hjs : j = S.size := by have := HSZ.out; omega
                rw [← hj]
                have hlt : ¬ (j : Int) < (S.size : Int) := by omega
                have HXO : Hid (DP + expOf (c :: 43 :: d) = DP + (E : Int)) := Lib.hid (by have h := HEX.out; rw [← hE] at h; omega)
                clear hj hE hqd hq
                by_cases hm0 : m = 0
                · have hm : ((m : Int) != 0) = false := by simp; omega
                  have HP : Hid (powOf mn (c :: 43 :: d) = 0) := Lib.hid (by rw [HPW.out, if_neg (by omega)])
                  clear hm0
                  go_wp2_with fail
                  (try simp only [Exit.inBlock, Exit.then]); refine bodyPost_ret (results_tmp7 rfl _ _ _) rfl ?_
                  exact ⟨by rw [HMM.out, HTR.out, show powOf mn (c :: ([43] ++ d)) = _ from HP.out]; rfl, rfl⟩
                · have hm : ((m : Int) != 0) = true := by simp; omega
                  have HP : Hid (powOf mn (c :: 43 :: d) = DP + (E : Int) - (nm : Int)) := Lib.hid (by rw [HPW.out, if_pos hm0, HXO.out])
                  clear hm0
                  go_wp2_with fail
                  (try simp only [Exit.inBlock, Exit.then]); refine bodyPost_ret (results_tmp7 rfl _ _ _) rfl ?_
                  exact ⟨by rw [HMM.out, HTR.out, show powOf mn (c :: ([43] ++ d)) = _ from HP.out]; rfl, rfl⟩
          · exact absurd HXS.out (by simp)
end Rf
end Go.Proofs.YtbnicnhkakbglaaGreatDoor
