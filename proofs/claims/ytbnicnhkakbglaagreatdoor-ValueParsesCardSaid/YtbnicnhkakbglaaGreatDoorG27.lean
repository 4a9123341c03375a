import Derived.Test.YtbnicnhkakbglaaGreatDoorG26
import Derived.Deep.CutBlock
import Derived.Deep.DeepCutAuto
import Derived.BigQuiet
import Derived.RegionTactic

/- set: what stands ahead of the exponent. -/
namespace Go.Proofs.YtbnicnhkakbglaaGreatDoor
open Go.RowKit
namespace Dc
open Us Dm Rm Rf

theorem dh_drew {w : World} {g : Nat} {A : Nat → Nat} {nd : Nat} {dp : Int} {ng tr : Bool} (h : Dh w g A nd dp ng tr) : Dh w.drew g A nd dp ng tr := ⟨h.lt, h.d, h.c0, h.c1, h.c2, h.c3, h.z0, h.z1, h.z2, h.z3⟩
theorem nv_drew {w : World} {g n : Nat} {dp : Int} {ng : Bool} (h : Nv w g n dp ng) : Nv w.drew g n dp ng := by
  obtain ⟨A, h1, h2⟩ := h
  exact ⟨A, dh_drew h1, h2⟩
theorem only_drew1 {w w' : World} {g : Nat} (h : Only w w' g) : Only w w'.drew g := ⟨h.os, h.tape, h.output, h.size, h.block⟩
theorem ex_digit (c : Nat) (s d : List Nat) (q : Nat) : (c :: (s ++ d)).getD (1 + s.length + q) 0 = d.getD q 0 := by
  rw [show 1 + s.length + q = (s.length + q) + 1 from by omega, List.getD_cons_succ, List.getD_eq_getElem?_getD, List.getElem?_append_right (by omega), Nat.add_sub_cancel_left, ← List.getD_eq_getElem?_getD]
theorem exp_sign {c : Nat} {s d : List Nat} (hs : s = [] ∨ s = [43] ∨ s = [45]) (hd : Digits d) : expOf (c :: (s ++ d)) = ((est d : Nat) : Int) * (if s = [45] then -1 else 1) := by
  rcases hs with rfl | rfl | rfl
  · rw [if_neg (by simp), Int.mul_one]; exact exp_plain c hd
  · rw [if_neg (by simp), Int.mul_one]; rfl
  · rw [if_pos rfl, Int.mul_neg, Int.mul_one]; rfl
set_option maxRecDepth 100000 in
set_option maxHeartbeats 8000000 in
theorem set95 (w : World) (g : Nat) (S : ByteArray) (bs sg mn ex : List Nat) (hS : Sb S bs) (hF : FloatText bs sg mn ex) (hl : bs.length ≤ 400) (A0 : Nat → Nat) (hD0 : Dh w g A0 0 0 false false) :
    Calls Tryz.prog 189 #[.pointer (some ⟨g, 0, none⟩), .string S] w fun e w' => e = .returned (.bool true) ∧ Nv w' g (nval mn) (dpOf mn + expOf ex) (!sg.isEmpty) ∧ Only w w' g := by
  obtain ⟨hb, hsg, hM, hE⟩ := hF
  have hmn : 0 < mn.length := mant_pos hM
  have hlen : bs.length = sg.length + (mn.length + ex.length) := by rw [hb, List.length_append, List.length_append]
  have h0 : 0 < S.size := by rw [hS.1]; omega
  have hl4 : S.size ≤ 400 := by rw [hS.1]; exact hl
  have c0 : S[0].toNat = bs.getD 0 0 := hS.2 0 h0
  have AM : Hid (∀ k, k < mn.length → bs.getD (sg.length + k) 0 = mn.getD k 0) := Lib.hid fun k hk => at_mn hb hk
  have AE : Hid (∀ q, bs.getD (sg.length + mn.length + q) 0 = ex.getD q 0) := Lib.hid fun q => at_ex hb q
  have d0 : 48 ≤ mn.getD 0 0 ∧ mn.getD 0 0 ≤ 57 := mant_first hM
  obtain ⟨o, ho⟩ : ∃ o, o = sg.length := ⟨_, rfl⟩
  have ho1 : o ≤ 1 := by rcases hsg with rfl | rfl <;> simp [ho]
  have HC0 : Hid ((o = 0 ∧ sg = [] ∧ 48 ≤ bs.getD 0 0 ∧ bs.getD 0 0 ≤ 57) ∨ (o = 1 ∧ sg = [45] ∧ bs.getD 0 0 = 45)) := Lib.hid (by
    rcases hsg with rfl | rfl
    · left
      have h := AM.out 0 hmn
      simp only [List.length_nil, Nat.add_zero] at h
      rw [h]
      exact ⟨by simpa using ho, rfl, d0⟩
    · right
      exact ⟨by simpa using ho, rfl, by rw [hb]; rfl⟩)
  have HLS : Hid (o + (mn.length + ex.length) = S.size) := Lib.hid (by rw [hS.1, hlen, ho])
  obtain ⟨C1, hC1⟩ : ∃ C, C = bs.getD 0 0 := ⟨_, rfl⟩
  rw [← hC1] at c0 HC0
  obtain ⟨nb, hnb⟩ : ∃ nb, nb = !sg.isEmpty := ⟨_, rfl⟩
  have HNB : Hid (nb = !sg.isEmpty) := Lib.hid hnb
  rw [← hnb]
  rw [← ho] at AM AE
  have hemp : ¬ S = ByteArray.empty := by intro e; rw [e] at h0; simp at h0
  have HM := Lib.hid hM
  have HCH : Hid (∀ k, k < mn.length → ∀ h : o + k < S.size, (S[o + k]'h).toNat = mn.getD k 0) := Lib.hid fun k hk h => by rw [hS.2 _ h, AM.out k hk]
  have HEND : Hid (o + mn.length = S.size ∨ ∃ C, (∃ h : o + mn.length < S.size, (S[o + mn.length]'h).toNat = C) ∧ (C = 69 ∨ C = 101)) := Lib.hid (by
    rcases hE with rfl | ⟨c, sg', d, rfl, hc, hsg', hd⟩
    · exact .inl (by have := HLS.out; simp at this; omega)
    · have h : o + mn.length < S.size := by have := HLS.out; simp at this; omega
      refine .inr ⟨c, ⟨h, ?_⟩, hc⟩
      rw [hS.2 _ h]
      exact AE.out 0)
  have HSB := Lib.hid hS
  have HEX := Lib.hid hE
  have HD0 := Lib.hid hD0
  have e2 := hD0.c2
  have e3 := hD0.c3
  have e6 := hD0.z2
  have e7 := hD0.z3
  clear hC1 hnb hsg ho hlen hb hl hmn d0 hS hE hD0 hM
  go_enter Tryz.func189, Tryz.ntmps189
  go_upto_block 0 with (fail)
  obtain ⟨w1, hw1⟩ : ∃ w1, w1 = (w.setCell ⟨g, 802, none⟩ (.bool false)).setCell ⟨g, 803, none⟩ (.bool false) := ⟨_, rfl⟩
  rw [← hw1]
  have HD1 : Hid (Dh w1 g A0 0 0 false false) := Lib.hid (by rw [hw1]; exact set_tr (set_ng HD0.out _) _)
  have HO1 : Hid (Only w w1 g) := Lib.hid (by rw [hw1]; exact only_set.trans only_set)
  have f2 := HD1.out.c2
  have f6 := HD1.out.z2
  clear hw1 e2 e3 e6 e7 HD0
  go_cut [5] (fun i wx => i = .int .i64 (o : Nat) ∧ Dh wx g A0 0 0 nb false ∧ Only w wx g)
  case first => as_aux_lemma =>
    rcases HC0.out with ⟨ho0, hsg, hc1, hc2⟩ | ⟨ho1, hsg, hc1⟩
    · have n43 : ((C1 : Int) == 43) = false := by simp; omega
      have n45 : ((C1 : Int) == 45) = false := by simp; omega
      have hn : nb = false := by rw [HNB.out, hsg]; rfl
      subst ho0
      subst hn
      clear hsg
      go_wp2_with fail
      go_meet
      exact ⟨rfl, HD1.out, HO1.out⟩
    · have hn : nb = true := by rw [HNB.out, hsg]; rfl
      subst hc1
      subst ho1
      subst hn
      clear hsg
      go_wp2_with fail
      go_meet
      exact ⟨rfl, set_ng HD1.out _, HO1.out.trans only_set⟩
  case rest =>
  obtain ⟨rfl, hd, ho⟩ := hcut
  have HV : Hid (Nv wc g 0 0 nb) := Lib.hid (nv_zero hd)
  have HO := Lib.hid ho
  clear HC0 HD1 HO1 f2 f6 hd ho
  go_upto_block 1 with (fail)
  go_cut [5, 6, 7] (fun i d s wx => i = .int .i64 ((o + mn.length : Nat) : Int) ∧ d = .bool (rst mn).dot ∧ s = .bool true ∧ Nv wx g (nval mn) (rst mn).dp nb ∧ Only w wx g)
  case first => as_aux_lemma =>
    go_wp2_with fail
    go_loopw [5, 6, 7] (fun i d s wr => ∃ k, k ≤ mn.length ∧ i = .int .i64 ((o + k : Nat) : Int) ∧ d = .bool (rst (mn.take k)).dot ∧ s = .bool (rst (mn.take k)).sd ∧ Nv wr g (nval (mn.take k)) (rst (mn.take k)).dp nb ∧ Only w wr g) (fun i _ _ _ => 1000 - (intOf i).toNat)
    case atStart => exact ⟨0, Nat.zero_le _, rfl, rfl, rfl, HV.out, HO.out⟩
    case round =>
      clear HV HO
      obtain ⟨k, hk, rfl, rfl, rfl, hv, ho⟩ := hrel
      have HV := Lib.hid hv
      have HO := Lib.hid ho
      by_cases hkm : k < mn.length
      · obtain ⟨_, _, _, i4, i5, i6⟩ := rst_inv HM.out k hk
        have hch : (48 ≤ mn.getD k 0 ∧ mn.getD k 0 ≤ 57) ∨ mn.getD k 0 = 46 := mant_char HM.out k hkm
        have hdo := dot_once HM.out k hkm
        have hsu := rst_succ mn k hkm
        have hnu := nval_succ mn k hkm
        have hnl := nval_len HM.out k hk
        have hks : o + k < S.size := by have := HLS.out; omega
        have ck : (S[o + k]'hks).toNat = mn.getD k 0 := HCH.out k hkm hks
        obtain ⟨A, hD, hA⟩ := hv
        have y0 := hD.c0
        have y1 := hD.c1
        have y2 := hD.z0
        have y3 := hD.z1
        rw [hnl] at y0
        obtain ⟨r, hr⟩ : ∃ r, r = rst (mn.take k) := ⟨_, rfl⟩
        obtain ⟨C, hC⟩ : ∃ C, C = mn.getD k 0 := ⟨_, rfl⟩
        obtain ⟨n, hn⟩ : ∃ n, n = nval (mn.take k) := ⟨_, rfl⟩
        rw [← hr] at i4 i5 i6 hsu hdo hnl y0 y1 HV ⊢
        rw [← hC] at ck hch hsu hdo hnu
        rw [← hn] at hnu hnl HV
        have HSU := Lib.hid hsu
        have HNU := Lib.hid hnu
        have hkn : k ≤ 400 := by have := HLS.out; omega
        obtain ⟨dot, sd, nd, nm, dp, m, tr⟩ := r
        dsimp only at i4 i5 i6 hdo hnl y0 y1 HV ⊢
        have HNL := Lib.hid hnl
        have z3 : nd < 800 → wr.cell? ⟨g, nd, none⟩ = some (.int .u8 (A nd : Nat)) ∧ wr.frozen? ⟨g, nd, none⟩ = false := fun h => hD.d nd h
        clear hr hC hsu hnu hn hnl hD hA ho
        obtain ⟨j, hj⟩ : ∃ j, j = o + k := ⟨_, rfl⟩
        have ck2 : ∀ h : j < S.size, (S[j]'h).toNat = C := fun h => by subst hj; exact ck
        have hjs : j < S.size := by omega
        have ck3 := ck2 hjs
        have hj9 : j ≤ 401 := by omega
        have HJ := Lib.hid hj
        rw [← hj]
        clear hj ck ck2 hks
        have n95 : ((C : Int) == 95) = false := by simp; omega
        have hkI : (j : Int) < (S.size : Int) := by omega
        by_cases h46 : C = 46
        · obtain rfl : dot = false := hdo h46
          have m46 : ((C : Int) == 46) = true := by simp; omega
          have HE : Hid (rst (mn.take (k + 1)) = ⟨true, sd, nd, nm, (nd : Int), m, tr⟩) := Lib.hid (by rw [HSU.out]; unfold rstep; rw [if_pos h46])
          have HN : Hid (nval (mn.take (k + 1)) = n) := Lib.hid (by rw [HNU.out]; unfold nstep; rw [if_pos h46])
          clear h46 hch hdo z3
          go_wp2_with fail
          go_roundw
          case rel => exact ⟨k + 1, by omega, by rw [HJ.out]; go_num, by simp only [HE.out], by simp only [HE.out], by rw [HN.out, HE.out]; exact nv_dp HV.out _, HO.out.trans only_set⟩
          case measure => simp [intOf]; omega
        · have hd : 48 ≤ C ∧ C ≤ 57 := by rcases hch with h | h; exact h; exact absurd h h46
          obtain ⟨hd1, hd2⟩ := hd
          have m46 : ((C : Int) == 46) = false := by simp; omega
          by_cases h48 : C = 48 ∧ nd = 0
          · obtain ⟨h48, rfl⟩ := h48
            have m48 : ((C : Int) == 48) = true := by simp; omega
            have HE : Hid (rst (mn.take (k + 1)) = ⟨dot, true, 0, nm, dp - 1, m, tr⟩) := Lib.hid (by rw [HSU.out]; unfold rstep; rw [if_neg h46, if_pos ⟨h48, rfl⟩])
            have HN : Hid (nval (mn.take (k + 1)) = n) := Lib.hid (by rw [HNU.out]; unfold nstep; rw [if_neg h46, h48, dlen_nought HNL.out])
            clear h46 hch hdo h48 z3
            go_wp2_with fail
            go_roundw
            case rel => exact ⟨k + 1, by omega, by rw [HJ.out]; go_num, by simp only [HE.out], by simp only [HE.out], by rw [HN.out, HE.out]; exact nv_dp HV.out _, HO.out.trans only_set⟩
            case measure => simp [intOf]; omega
          · have hm48 : ((C : Int) == 48) = true → ((nd : Int) == 0) = false := by
              intro h; simp at h; simp; omega
            have n8 : nd < 800 := by omega
            obtain ⟨y4, y5⟩ := z3 n8
            have n8I : (nd : Int) < 800 := by omega
            have hne : n * 10 + (C - 48) ≠ 0 := by
              intro h0
              have hn : n = 0 := by omega
              have h := HNL.out
              rw [hn, dlen_zero] at h
              exact h48 ⟨by omega, h.symm⟩
            have HNE := Lib.hid hne
            have HE : Hid ((rst (mn.take (k + 1))).dot = dot ∧ (rst (mn.take (k + 1))).sd = true ∧ (rst (mn.take (k + 1))).dp = dp) := Lib.hid (by
              rw [HSU.out]; unfold rstep; rw [if_neg h46, if_neg h48]
              split
              · exact ⟨rfl, rfl, rfl⟩
              · exact ⟨rfl, rfl, rfl⟩)
            have HN : Hid (nval (mn.take (k + 1)) = n * 10 + (C - 48)) := Lib.hid (by rw [HNU.out]; unfold nstep; rw [if_neg h46])
            obtain ⟨B, hB, hB2⟩ : ∃ B : Bool, ((C : Int) == 48) = B ∧ (B = true → ((nd : Int) == 0) = false) := ⟨_, rfl, hm48⟩
            clear h46 hch hdo h48 z3 hm48 hne
            cases B with
            | true =>
              have mnd := hB2 rfl
              clear hB2
              go_upto_region 25 with (fail)
              go_region
              go_wp2_with fail
              go_roundw
              case rel =>
                have a := nv_drew (nv_push HV.out HNL.out.symm n8 hd1 hd2 HNE.out)
                exact ⟨k + 1, by omega, by rw [HJ.out]; go_num, by rw [HE.out.1], by rw [HE.out.2.1], by rw [HN.out, HE.out.2.2]; exact a, only_drew1 ((HO.out.trans only_set).trans only_set)⟩
              case measure => simp [intOf]; omega
            | false =>
              clear hB2
              go_upto_region 25 with (fail)
              go_region
              go_wp2_with fail
              go_roundw
              case rel =>
                have a := nv_drew (nv_push HV.out HNL.out.symm n8 hd1 hd2 HNE.out)
                exact ⟨k + 1, by omega, by rw [HJ.out]; go_num, by rw [HE.out.1], by rw [HE.out.2.1], by rw [HN.out, HE.out.2.2]; exact a, only_drew1 ((HO.out.trans only_set).trans only_set)⟩
              case measure => simp [intOf]; omega
      · obtain rfl : k = mn.length := by omega
        rw [List.take_length] at HV ⊢
        have hsd := sd_true HM.out
        rw [hsd]
        obtain ⟨A, hD, _⟩ := hv
        have y0 := hD.c0
        obtain ⟨M, hMM⟩ : ∃ M, M = o + mn.length := ⟨_, rfl⟩
        rw [← hMM]
        have HMM2 := Lib.hid hMM
        clear hsd hD ho
        rcases HEND.out with hx | ⟨C, hc, hcc⟩
        · have hks : ¬ (M : Int) < (S.size : Int) := by omega
          clear hx hMM
          go_wp2_with fail
          go_meet
          exact ⟨by rw [HMM2.out], rfl, rfl, HV.out, HO.out⟩
        · obtain ⟨hks, ck⟩ := hc
          have hkI : (M : Int) < (S.size : Int) := by omega
          have ck2 : ∀ h : M < S.size, (S[M]'h).toNat = C := fun h => by subst hMM; exact ck
          have hksM : M < S.size := by omega
          have ck3 : (S[M]'hksM).toNat = C := ck2 _
          have n95 : ((C : Int) == 95) = false := by simp; omega
          have m46 : ((C : Int) == 46) = false := by simp; omega
          have m57 : (57 : Int) < (C : Int) := by omega
          clear ck ck2 hkm hk hMM
          go_wp2_with fail
          go_meet
          exact ⟨by rw [HMM2.out], rfl, rfl, HV.out, HO.out⟩
  case rest =>
    obtain ⟨rfl, rfl, rfl, hv, ho⟩ := hcut
    clear HV HO HCH HEND
    have HV := Lib.hid hv
    have HO := Lib.hid ho
    obtain ⟨_, _, _, i4, i5, i6⟩ := rst_inv HM.out mn.length (Nat.le_refl _)
    have hnl := nval_len HM.out mn.length (Nat.le_refl _)
    rw [List.take_length] at i4 i5 i6 hnl
    have HDP : Hid (dpOf mn = (if (rst mn).dot then (rst mn).dp else ((rst mn).nd : Int))) := Lib.hid rfl
    have hMS : mn.length ≤ 400 := by have := HLS.out; omega
    obtain ⟨A, hD, _⟩ := hv
    have y0 := hD.c0
    have y2 := hD.c1
    have y3 := hD.z1
    rw [hnl] at y0
    obtain ⟨r, hr⟩ : ∃ r, r = rst mn := ⟨_, rfl⟩
    rw [← hr] at i4 i5 i6 hnl HDP HV y0 y2 ⊢
    obtain ⟨dot, sd, nd, nm, dp, m, tr⟩ := r
    dsimp only at i4 i5 i6 hnl HDP HV y0 y2 ⊢
    obtain ⟨M, hM1⟩ : ∃ M, M = o + mn.length := ⟨_, rfl⟩
    have hMb : M ≤ 401 := by omega
    have HM1 := Lib.hid hM1
    rw [← hM1]
    clear hr hM1 hnl hD ho
    go_upto_if 120 with (fail)
    go_cut [5] (fun i wx => i = .int .i64 (M : Nat) ∧ Nv wx g (nval mn) (dpOf mn) nb ∧ Only w wx g)
    case first => as_aux_lemma =>
      cases dot with
      | true =>
        go_wp2_with fail
        go_meet
        exact ⟨rfl, by rw [HDP.out]; exact HV.out, HO.out⟩
      | false =>
        go_wp2_with fail
        go_meet
        exact ⟨rfl, by rw [HDP.out]; exact nv_dp HV.out _, HO.out.trans only_set⟩
    case rest =>
      clear y0 y2 y3 HV HO
      obtain ⟨rfl, hv, ho⟩ := hcut
      have HV := Lib.hid hv
      have HO := Lib.hid ho
      have hdp : -400 ≤ dpOf mn ∧ dpOf mn ≤ 400 := by rw [HDP.out]; split <;> omega
      obtain ⟨hdp1, hdp2⟩ := hdp
      obtain ⟨DP, hDP⟩ : ∃ DP, DP = dpOf mn := ⟨_, rfl⟩
      rw [← hDP] at hdp1 hdp2 HV
      have HDP2 := Lib.hid hDP
      have HCX : Hid (∀ q, ∀ h : M + q < S.size, (S[M + q]'h).toNat = ex.getD q 0) := Lib.hid fun q h => by rw [HSB.out.2 _ h, HM1.out]; exact AE.out q
      clear HDP i4 i5 i6 hv ho hDP hMS
      rcases HEX.out with hex | ⟨c, s, d, hex, hc, hs, hd⟩
      · have hMz : M = S.size := by have h1 := HLS.out; have h2 := HM1.out; rw [hex] at h1; simp at h1; omega
        have hlt : ¬ (M : Int) < (S.size : Int) := by omega
        have hne : ((M : Int) != (S.size : Int)) = false := by simp; omega
        have HX : Hid (dpOf mn + expOf ex = DP) := Lib.hid (by rw [hex, HDP2.out]; show dpOf mn + 0 = dpOf mn; omega)
        clear hMz hex
        go_wp2_with fail
        go_ret
        exact ⟨rfl, by rw [HX.out]; exact HV.out, HO.out⟩
      · have hd0 := List.length_pos_iff.2 hd.1
        obtain ⟨B, hB⟩ : ∃ B, B = M + 1 + s.length := ⟨_, rfl⟩
        have HSZ : Hid (B + d.length = S.size) := Lib.hid (by have h1 := HLS.out; have h2 := HM1.out; rw [hex] at h1; simp at h1; omega)
        have hBs : B < S.size := by have := HSZ.out; omega
        have HDC : Hid (∀ q, ∀ h : B + q < S.size, (S[B + q]'h).toNat = d.getD q 0) := Lib.hid fun q h => by
          subst hB
          have h2 := HCX.out (1 + s.length + q)
          rw [hex, ex_digit] at h2
          have e : M + (1 + s.length + q) = M + 1 + s.length + q := by omega
          rw [← h2 (by omega)]
          simp only [e]
        have hs0 : M < S.size := by omega
        have hk0 : (S[M]'hs0).toNat = c := by
          have h := HCX.out 0 (by omega)
          rw [hex] at h
          exact h
        obtain ⟨M1, hM1'⟩ : ∃ M1, M1 = M + 1 := ⟨_, rfl⟩
        have hs1 : M1 < S.size := by omega
        have hk1 : (S[M1]'hs1).toNat = (s ++ d).getD 0 0 := by
          subst hM1'
          have h := HCX.out 1 hs1
          rw [hex] at h
          exact h
        have FL : Hid (∀ x, Calls Tryz.prog 198 #[.int .u8 (c : Nat)] x fun e w' => e = .returned (.int .u8 101) ∧ w' = x) := Lib.hid fun x => by
          have h := lower104 x c (by omega)
          rcases hc with rfl | rfl
          · exact h
          · exact h
        obtain ⟨X1, hX1⟩ : ∃ X1, X1 = (s ++ d).getD 0 0 := ⟨_, rfl⟩
        rw [← hX1] at hk1
        obtain ⟨sn, hsn⟩ : ∃ sn : Int, sn = (if s = [45] then -1 else 1) := ⟨_, rfl⟩
        have HXO : Hid (dpOf mn + expOf ex = DP + ((est d : Nat) : Int) * sn) := Lib.hid (by rw [hex, exp_sign hs hd, HDP2.out, hsn])
        have hsn2 : sn = 1 ∨ sn = -1 := by rw [hsn]; split; exact .inr rfl; exact .inl rfl
        have HSN := Lib.hid hsn2
        have HDD := Lib.hid hd
        have HSG : Hid ((s = [] ∧ M1 = B ∧ 48 ≤ X1 ∧ X1 ≤ 57 ∧ sn = 1) ∨ (s = [43] ∧ M1 + 1 = B ∧ X1 = 43 ∧ sn = 1) ∨ (s = [45] ∧ M1 + 1 = B ∧ X1 = 45 ∧ sn = -1)) := Lib.hid (by
          rcases hs with rfl | rfl | rfl
          · have h := hd.2 _ (mem_get hd0)
            exact .inl ⟨rfl, by simp at hB; omega, by rw [hX1]; exact h.1, by rw [hX1]; exact h.2, by rw [hsn]; rfl⟩
          · exact .inr (.inl ⟨rfl, by simp at hB; omega, by rw [hX1]; rfl, by rw [hsn]; rfl⟩)
          · exact .inr (.inr ⟨rfl, by simp at hB; omega, by rw [hX1]; rfl, by rw [hsn]; rfl⟩))
        have hMI : (M : Int) < (S.size : Int) := by omega
        have hM1I : (M1 : Int) < (S.size : Int) := by omega
        have hi1 : (M : Int) + 1 = (M1 : Int) := by omega
        have hM19 : M1 ≤ 402 := by omega
        have hB9 : B ≤ 404 := by omega
        have hBI : (B : Int) < (S.size : Int) := by omega
        have hbB : B < S.size := by omega
        have kB : (S[B]'hbB).toNat = d.getD 0 0 := HDC.out 0 hbB
        obtain ⟨C2, hC2⟩ : ∃ C, C = d.getD 0 0 := ⟨_, rfl⟩
        have hdig := hd.2 _ (mem_get hd0)
        rw [← hC2] at hdig kB
        obtain ⟨hdig1, hdig2⟩ := hdig
        clear hex hc hs hd hB hM1' hX1 hsn hsn2 hC2 hd0 hBs
        go_upto_block 4 with (go_at_call 198; refine (FL.out _).mono ?_; rintro e w2 ⟨rfl, h2⟩; rw [h2]; clear h2 w2)
        obtain ⟨wy, hwy⟩ : ∃ wy, wy = wc := ⟨_, rfl⟩
        have HWY := Lib.hid hwy
        clear hwy
        go_cut [5, 8] (fun i e wx => i = .int .i64 (B : Nat) ∧ e = .int .i64 sn ∧ wx = wy)
        case first => as_aux_lemma =>
          rcases HSG.out with ⟨_, h1, h2, h3, h4⟩ | ⟨_, h1, h2, h3⟩ | ⟨_, h1, h2, h3⟩
          · have n43 : ((X1 : Int) == 43) = false := by simp; omega
            have n45 : ((X1 : Int) == 45) = false := by simp; omega
            have H1 := Lib.hid h1
            have H4 := Lib.hid h4
            clear h1 h4
            go_wp2_with fail
            go_meet
            exact ⟨by rw [H1.out], by rw [H4.out], HWY.out.symm⟩
          · have hi2 : (M1 : Int) + 1 = (B : Int) := by omega
            have H3 := Lib.hid h3
            subst h2
            clear h1 h3
            go_wp2_with fail
            go_meet
            exact ⟨rfl, by rw [H3.out], HWY.out.symm⟩
          · have hi2 : (M1 : Int) + 1 = (B : Int) := by omega
            have H3 := Lib.hid h3
            subst h2
            clear h1 h3
            go_wp2_with fail
            go_meet
            exact ⟨rfl, by rw [H3.out], HWY.out.symm⟩
        case rest => as_aux_lemma =>
          obtain ⟨rfl, rfl, rfl⟩ := hcut
          rw [← HWY.out] at HV HO
          clear hi1 hk0 hs0 hk1 hs1 hM1I hMI FL HSG HWY
          go_upto_block 5 with (fail)
          clear hBI kB hbB hdig1 hdig2
          go_wp2_with fail
          go_loopw [5, 9] (fun i e wr => ∃ q, q ≤ d.length ∧ i = .int .i64 ((B + q : Nat) : Int) ∧ e = .int .i64 (est (d.take q) : Nat) ∧ wr = wc) (fun i _ _ => 1000 - (intOf i).toNat)
          case atStart => exact ⟨0, Nat.zero_le _, rfl, rfl, by first | rfl | trivial⟩
          case round =>
            obtain ⟨q, hq, rfl, rfl, rfl⟩ := hrel
            by_cases hqd : q < d.length
            · have hdc : 48 ≤ d.getD q 0 ∧ d.getD q 0 ≤ 57 := HDD.out.2 _ (mem_get hqd)
              have hel := est_le HDD.out.2 q hq
              have hes := est_succ d q hqd
              have hjs : B + q < S.size := by have := HSZ.out; omega
              have ck : (S[B + q]'hjs).toNat = d.getD q 0 := HDC.out q hjs
              obtain ⟨C, hC⟩ : ∃ C, C = d.getD q 0 := ⟨_, rfl⟩
              obtain ⟨E, hE⟩ : ∃ E, E = est (d.take q) := ⟨_, rfl⟩
              rw [← hC] at hdc ck hes
              rw [← hE] at hel hes ⊢
              have HES := Lib.hid hes
              obtain ⟨hd1, hd2⟩ := hdc
              obtain ⟨j, hj⟩ : ∃ j, j = B + q := ⟨_, rfl⟩
              have ck2 : ∀ h : j < S.size, (S[j]'h).toNat = C := fun h => by subst hj; exact ck
              have hjs2 : j < S.size := by omega
              have ck3 : (S[j]'hjs2).toNat = C := ck2 _
              have hjI : (j : Int) < (S.size : Int) := by omega
              have HJ := Lib.hid hj
              have hj9 : j ≤ 402 := by have := HSZ.out; omega
              rw [← hj]
              have n95 : ((C : Int) == 95) = false := by simp; omega
              clear hC hE hes hj ck ck2 hjs
              by_cases h4 : E < 10000
              · have HE2 : Hid (est (d.take (q + 1)) = E * 10 + (C - 48)) := Lib.hid (by rw [HES.out]; unfold estep; rw [if_pos h4])
                go_wp2_with fail
                go_roundw
                case rel => exact ⟨q + 1, by omega, by rw [HJ.out]; go_num, by rw [HE2.out]; congr 1; omega⟩
                case measure => simp [intOf]; omega
              · have HE2 : Hid (est (d.take (q + 1)) = E) := Lib.hid (by rw [HES.out]; unfold estep; rw [if_neg h4])
                go_wp2_with fail
                go_roundw
                case rel => exact ⟨q + 1, by omega, by rw [HJ.out]; go_num, by rw [HE2.out]⟩
                case measure => simp [intOf]; omega
            · obtain rfl : q = d.length := by omega
              rw [List.take_length]
              have hel := est_le HDD.out.2 d.length (Nat.le_refl _)
              rw [List.take_length] at hel
              obtain ⟨E, hE⟩ : ∃ E, E = est d := ⟨_, rfl⟩
              rw [← hE] at hel ⊢
              obtain ⟨j, hj⟩ : ∃ j, j = B + d.length := ⟨_, rfl⟩
              have hjs : j = S.size := by have := HSZ.out; omega
              rw [← hj]
              have hlt : ¬ (j : Int) < (S.size : Int) := by omega
              have hne : ((j : Int) != (S.size : Int)) = false := by simp; omega
              obtain ⟨X, hX⟩ : ∃ X, (E : Int) * sn = X := ⟨_, rfl⟩
              have hXb : -99999 ≤ X ∧ X ≤ 99999 := by rcases HSN.out with h | h <;> rw [h] at hX <;> omega
              obtain ⟨hXb1, hXb2⟩ := hXb
              have HX2 : Hid (dpOf mn + expOf ex = DP + X) := Lib.hid (by rw [HXO.out, ← hE, hX])
              obtain ⟨A, hD, _⟩ := HV.out
              have y1 := hD.c1
              have y2 := hD.z1
              clear hj hE hqd hq hjs hD
              go_wp2_with fail
              go_ret
              exact ⟨rfl, by rw [HX2.out]; exact nv_dp HV.out _, HO.out.trans only_set⟩
end Dc
end Go.Proofs.YtbnicnhkakbglaaGreatDoor
