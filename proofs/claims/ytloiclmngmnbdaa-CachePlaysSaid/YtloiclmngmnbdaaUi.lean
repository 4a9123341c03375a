/- The document's cache: Put. -/
import Derived.Test.YtloiclmngmnbdaaUh
import Derived.Test.YtloiclmngmnbdaaRe
namespace Go.Proofs.Ytloiclmngmnbdaa
open Go.RowKit Go.Maps Go.ChangeMaps Go.MapKept
namespace Ui
open Jb Ca Ck Ct Cd Cz Ln Ce Dh Tb Ua Ub Uc Ud Ue Uf Ug Uh Li

/-- The document's cache, by its table. -/
def Dt (w : World) (S : Nat → Prop) (h m : Nat) (T : Tab) : Prop := ∃ v R, tab R = T ∧ Rt w S h m v R
theorem Dt.below {w w' : World} {S : Nat → Prop} {h m : Nat} {T : Tab} (H : Dt w S h m T) (b : Below w.heap.size w w') : Dt w' S h m T := by
  obtain ⟨v, R, e, r⟩ := H; exact ⟨v, R, e, r.below b (Nat.le_refl _)⟩
theorem Dt.chg {w w' : World} {S U : Nat → Prop} {h m : Nat} {T : Tab} (H : Dt w S h m T) (c : Chg w w' U) (hU : ∀ k, S k → ¬ U k) : Dt w' S h m T := by
  obtain ⟨v, R, e, r⟩ := H; exact ⟨v, R, e, r.move c.size fun k hk => c.block k (r.lt k hk) (hU k hk)⟩
theorem Dt.set {w : World} {S S' : Nat → Prop} {h m : Nat} {T : Tab} (H : Dt w S h m T) (f : ∀ k, S k → S' k) (hl : ∀ k, S' k → k < w.heap.size) : Dt w S' h m T := by
  obtain ⟨v, R, e, r⟩ := H
  exact ⟨v, R, e, r.c0, r.c1, r.z, ⟨r.tm.own, fun k hk => f k (r.tm.ob k hk), fun c hc => ⟨(r.tm.rows c hc).1, fun k hk => f k ((r.tm.rows c hc).2 k hk)⟩⟩, r.nv, r.nr, r.wp, f h r.sh, hl, r.m9⟩
theorem Dt.lt {w : World} {S : Nat → Prop} {h m : Nat} {T : Tab} (H : Dt w S h m T) : ∀ k, S k → k < w.heap.size := by obtain ⟨v, R, e, r⟩ := H; exact r.lt
theorem Dt.sh {w : World} {S : Nat → Prop} {h m : Nat} {T : Tab} (H : Dt w S h m T) : S h := by obtain ⟨v, R, e, r⟩ := H; exact r.sh
theorem len_le {T : Tab} (hne : ∀ c ∈ T, c.2 ≠ []) : T.length ≤ tsum T := by
  induction T with
  | nil => simp
  | cons c r ih =>
    have h1 := ih fun c hc => hne c (by simp [hc])
    have h2 := List.length_pos_iff.2 (hne c (by simp))
    unfold tsum at *
    simp only [List.length_cons, List.map_cons, List.sum_cons]; omega
theorem ne_R {R : List Col} {T : Tab} (e : tab R = T) (hne : ∀ c ∈ T, c.2 ≠ []) : ∀ c ∈ R, c.2.1 ≠ [] := fun c hc => hne (c.1, c.2.1) (by rw [← e]; unfold tab; exact List.mem_map.2 ⟨c, hc, rfl⟩)
theorem lay40 (w : World) (S : Nat → Prop) (h m : Nat) (T : Tab) (H : Dt w S h m T) (srt : Srt T) (hne : ∀ c ∈ T, c.2 ≠ []) (hs : tsum T ≤ 1000000) (k : Ky) (p : Pnt) (hp : Wp p) (hr : Rise (tget T k)) :
    Calls Try.prog 40 #[.pointer (some ⟨h, 0, none⟩), .string k.1, .string k.2, pa p] w fun e w' => (∃ x : Bool, e = .returned (.bool x)) ∧ Dt w' (New S w w') h m (tset T k (ins p (tget T k))) ∧ Chg w w' S := by
  obtain ⟨v, R, rfl, r⟩ := H
  have hn : R.length ≤ 1000000 := by have := len_le hne; rw [tab_len] at this; omega
  cases hf : fnd (tab R) k with
  | false =>
    refine (lay40_new w S h m v R r k p hp hn hf).mono ?_
    rintro e w' ⟨hx, v', R', e', r', c⟩
    refine ⟨hx, ⟨v', R', ?_, r'⟩, c⟩
    rw [e', tget_new srt hf, tset_new (by simp [ins]) hf]
    rfl
  | true =>
    have hg := tget_old hf
    have hl : (tget (tab R) k).length ≤ 1000000 := Nat.le_trans (tget_le k) hs
    have hnl : tget (tab R) k ≠ [] := by
      rw [hg]
      unfold fnd at hf
      simp only [Bool.and_eq_true, decide_eq_true_eq] at hf
      refine hne _ ?_
      rw [List.getD_eq_getElem?_getD, List.getElem?_eq_getElem hf.1]
      exact List.getElem_mem _
    refine (lay40_old w S h m v R r k p hp hn hf hr hnl hl).mono ?_
    rintro e w' ⟨hx, R', e', r', c⟩
    refine ⟨hx, ⟨v, R', ?_, r'⟩, c⟩
    rw [e', tset_old (ins_ne p _) hf]
theorem rng_one {L : List Pnt} (h : Rise L) (t : Int) : (rng t t L).length = if Ct.has t L = true then 1 else 0 := by
  induction L with
  | nil => rfl
  | cons q r ih =>
    obtain ⟨h1, h2⟩ := List.pairwise_cons.1 h
    have ih := ih h2
    rw [has_cons]
    unfold rng at *
    by_cases e : q.1 = t
    · have hr : ∀ p ∈ r, t < p.1 := fun p hp => by have := h1 p hp; omega
      rw [has_zero hr] at ih
      rw [List.filter_cons_of_pos (by simp [inr, e])]
      simp [e] at ih ⊢
      exact ih
    · rw [List.filter_cons_of_neg (by simp [inr]; omega), ih]
      simp [e]
theorem undC {a b : World} {S : Nat → Prop} (c : Chg a.drew b S) : Chg a b S := ⟨c.os, c.tape, c.output, c.size, c.block⟩
set_option maxRecDepth 100000
set_option maxHeartbeats 4000000 in
theorem put22 (w : World) (S : Nat → Prop) (h : Nat) (V : Vw) (T : Tab) (H : Dt w S h V.most T) (O : Of V T) (k : Ky) (hR : Rise (V.P k)) (hs : V.size ≤ 1000000) (p : Pnt) (hp : Wp p) :
    Calls Try.prog 22 #[.pointer (some ⟨h, 0, none⟩), .string k.1, .string k.2, pa p] w fun e w' => e = .returned (.int .i64 (putE V k p)) ∧ Dt w' (New S w w') h V.most (if putE V k p = 0 then tset T k (ins p (V.P k)) else T) ∧ Chg w w' S := by
  have FO := Lib.hid (fun w => Cf.refformed14 w p.2 hp.2)
  have hL := O.get k
  have hsz := O.sum
  rw [hL] at hR
  have LA := Lib.hid (fun W (D : Dt W S h V.most T) => lay40 W S h V.most T D O.srt O.ne (by omega) k p hp hR)
  obtain ⟨v, R, hT, r⟩ := H
  have hRn : R.length ≤ 1000000 := by have := len_le O.ne; rw [← hT, tab_len] at this; rw [← hT] at hsz; omega
  have srt : Srt (tab R) := by rw [hT]; exact O.srt
  have AT := Lib.hid (fun W (D : Rt W S h V.most v R) => at27 W S h V.most v R D k hRn)
  have GE := Lib.hid (fun W (D : Rt W S h V.most v R) => get16 W S h V.most v R D k p.1 p.1 hRn srt (Nat.le_trans (tget_le k) (by rw [hT]; omega)))
  have SI := Lib.hid (fun W (D : Rt W S h V.most v R) => size13 W S h V.most v R D (by rw [hT]; omega) hRn)
  rw [hT] at AT
  have eG : (rng p.1 p.1 (tget (tab R) k)).length = if Ct.has p.1 (V.P k) = true then 1 else 0 := by rw [hT, ← hL, rng_one (by rw [hL]; exact hR)]
  rw [hT, ← hsz] at SI
  simp only [eG] at GE
  have RT := Lib.hid (show ∀ W, Below w.heap.size w W → Rt W S h V.most v R from fun W b => r.below b (Nat.le_refl _))
  have DT := Lib.hid (show ∀ W, Below w.heap.size w W → Dt W S h V.most T from fun W b => ⟨v, R, hT, r.below b (Nat.le_refl _)⟩)
  have hh : h < w.heap.size := r.lt h r.sh
  have HLT := Lib.hid r.lt
  have NOP := Lib.hid (show ∀ W, Below w.heap.size w W → Dt W (New S w W) h V.most T ∧ Chg w W S from fun W b => ⟨(DT.out W b).set (fun j hj => .inl hj) (fun j hj => by
    rcases hj with hj | hj
    · have := HLT.out j hj; have := b.size; omega
    · exact hj.2), Chg.of_below b (Nat.le_refl _) S⟩)
  have YEP := Lib.hid (show ∀ W W', Below w.heap.size w W → Dt W' (New S W W') h V.most (tset T k (ins p (tget T k))) → Chg W W' S → Dt W' (New S w W') h V.most (tset T k (ins p (V.P k))) ∧ Chg w W' S from fun W W' b d c => ⟨by
    rw [hL]
    exact d.set (fun j hj => by
      rcases hj with hj | hj
      · exact .inl hj
      · exact .inr ⟨by have := b.size; omega, hj.2⟩) (fun j hj => by
      rcases hj with hj | hj
      · have := HLT.out j hj; have := b.size; have := c.size; omega
      · exact hj.2), (Chg.of_below b (Nat.le_refl _) S).trans c (fun j hj _ => hj)⟩)
  -- where the column is there: its first value's kind
  have FST := Lib.hid (show fnd T k = true → ∃ tb tc n ra rc l kd0, pos T k < n ∧ n ≤ tc ∧ 0 < l ∧ l ≤ rc ∧ V.P k ≠ [] ∧ ((V.P k).getD 0 p0).2.1 = kd0 ∧ ∀ W, Below w.heap.size w W → W.cell? ⟨h, 0, none⟩ = some (.slice (some ⟨tb, 0, none⟩) n tc) ∧ W.cell? ⟨tb, pos T k * 3 + 2, none⟩ = some (.slice (some ⟨ra, 0, none⟩) l rc) ∧ W.cell? ⟨ra, 1, none⟩ = some (.int .i64 kd0) from fun hf => by
    have hg := tget_old hf
    have hp' := hf
    unfold fnd at hp'
    simp only [Bool.and_eq_true, decide_eq_true_eq] at hp'
    have hpn := hp'.1
    rw [← hT, tab_get] at hg
    rw [← hT, tab_len] at hpn
    rw [hT] at hpn hg
    simp only at hg
    obtain ⟨tb, tc, hv, h1, h2, h3, h4, h5, h6⟩ := r.tm.at hpn
    have hm := getD_in hpn
    obtain ⟨o, _⟩ := r.tm.rows _ hm
    have hne := ne_R hT O.ne _ hm
    have hl0 := List.length_pos_iff.2 hne
    obtain ⟨ra, rc, hra, hrc, hral, pat⟩ := row_at o hl0
    refine ⟨tb, tc, R.length, ra, rc, _, ((R.getD (pos T k) cz).2.1.getD 0 p0).2.1, hpn, h1, hl0, hrc, by rw [hL, hg]; exact hne, by rw [hL, hg], fun W b => ⟨?_, ?_, ?_⟩⟩
    · rw [← hv]; exact (World.cell?_of_block (b.block h hh)).trans r.c0
    · rw [← hra]; exact (World.cell?_of_block (b.block tb h3)).trans h6
    · have := (pat.of_block (b.block ra hral)).2.1
      simpa using this)
  have FNO := Lib.hid (show fnd T k = false → V.P k = [] from fun hf => by rw [hL]; exact tget_new O.srt hf)
  have hm1 : (V.most : Int) ≤ 9223372036854775807 := by have := r.m9; omega
  have C1 := Lib.hid (show ∀ W, Below w.heap.size w W → W.cell? ⟨h, 1, none⟩ = some (.int .i64 (V.most : Nat)) from fun W b => (World.cell?_of_block (b.block h hh)).trans r.c1)
  have BXO := Lib.hid (fun w1 (b : Below (w.heap.size + 1) (w.alloc (.cells #[.int .i64 p.1, .int .i64 p.2.1, .int .u64 (p.2.2.1 : Nat), .string (str p.2.2.2)] 32)) w1) => box_of (w := w) (p := p) b)
  have PE := Lib.hid (show putE V k p = _ from rfl)
  unfold putE at PE
  obtain ⟨E, hE⟩ : ∃ E, E = putE V k p := ⟨_, rfl⟩
  have PE2 := Lib.hid (hE.trans PE.out)
  rw [← hE]
  obtain ⟨T2, hT2⟩ : ∃ T2, T2 = (if E = 0 then tset T k (ins p (V.P k)) else T) := ⟨_, rfl⟩
  rw [← hT2]
  have HT2 := Lib.hid hT2
  clear hT2
  clear PE hE r srt hT hR hRn eG hL O hsz
  obtain ⟨most, HM⟩ : ∃ most, most = V.most := ⟨_, rfl⟩
  obtain ⟨size, HS⟩ : ∃ size, size = V.size := ⟨_, rfl⟩
  rw [← HM] at LA AT GE SI RT DT NOP YEP PE2 C1 hm1 ⊢
  rw [← HS] at SI PE2 hs
  clear HM HS
  obtain ⟨x0, x1, x2, x3⟩ := p
  unfold pa
  unfold va at FO
  unfold pa at LA
  simp only at FO LA GE BXO YEP PE2 HT2 ⊢
  obtain ⟨q, hq⟩ : ∃ q, q = formed ((x1, x2, x3) : Vl) := ⟨_, rfl⟩
  rw [← hq] at FO PE2
  clear hp hq
  cases q with
  | false =>
    have hE : E = 1 := by rw [PE2.out]; rfl
    subst hE
    go_enter Try.func22, Try.ntmps22
    go_wp2_with fail
    refine (FO.out _).mono ?_
    rintro e w1 ⟨rfl, b1⟩
    have BX := Lib.hid (BXO.out w1 (by rw [World.size_alloc] at b1; exact b1))
    clear b1
    go_wp2_with fail
    go_ret
    exact ⟨rfl, by rw [HT2.out, if_neg (by decide)]; exact NOP.out _ BX.out.bl⟩
  | true =>
    go_enter Try.func22, Try.ntmps22
    go_wp2_with fail
    refine (FO.out _).mono ?_
    rintro e w1 ⟨rfl, b1⟩
    have BX := Lib.hid (BXO.out w1 (by rw [World.size_alloc] at b1; exact b1))
    have A1 := Lib.hid (AT.out w1 (RT.out w1 BX.out.bl))
    clear b1
    cases hf : fnd T k with
    | false =>
      rw [hf] at A1
      have hV := FNO.out hf
      have ht : tk (V.P k) x1 = true := by rw [hV]; rfl
      have hh2 : Ct.has x0 (V.P k) = false := by rw [hV]; rfl
      rw [hh2] at GE
      rw [ht, hh2] at PE2
      simp only [Bool.true_eq_false, Bool.false_eq_true, if_false, true_and] at PE2 GE
      clear hV ht hh2 FST FNO hf
      go_wp2_with fail
      refine A1.out.mono ?_
      rintro e w2 ⟨rfl, n, rfl⟩
      go_wp2_with fail
      go_quiet (fail)
      go_upto_region 6 with (fail)
      obtain ⟨W, hW⟩ : ∃ W, W = (w1.drewN n).drewN nq := ⟨_, rfl⟩
      first | rw [← hW] | (simp only [World.drewN_drewN] at hW ⊢; rw [← hW])
      have BW := Lib.hid (show Below w.heap.size w W ∧ Box w W (x0, x1, x2, x3) from by rw [hW]; exact ⟨by first | exact bdn (bdn BX.out.bl _) _ | exact bdn BX.out.bl _, ⟨by first | exact bdn (bdn BX.out.bl _) _ | exact bdn BX.out.bl _, BX.out.b0, BX.out.b1, BX.out.b2, BX.out.b3, BX.out.lt⟩⟩)
      clear hW A1
      have c1 := C1.out W BW.out.1
      have bb0 := BW.out.2.b0
      have G6 := Lib.hid (GE.out W.drew (RT.out W.drew BW.out.1.drew))
      have KX := Lib.hid (show ∀ y, Below W.heap.size W y → y.cell? ⟨h, 1, none⟩ = some (.int .i64 (most : Nat)) ∧ y.cell? ⟨w.heap.size, 0, none⟩ = some (.int .i64 x0) from fun y hy => ⟨C1.out y (BW.out.1.trans (hy.mono BW.out.1.size)), (BW.out.2.below hy).b0⟩)
      have kX := KX.out W.drew (Below.refl _ W).drew
      clear c1 bb0
      by_cases hms : most ≤ size
      case pos =>
        rw [if_pos hms] at PE2
        have qd : decide (most ≤ size) = true := decide_eq_true hms
        have qd2 : (most : Int) ≤ (size : Int) := by omega
        go_region_held (fun y => y.cell? ⟨h, 1, none⟩ = some (.int .i64 (most : Nat)) ∧ y.cell? ⟨w.heap.size, 0, none⟩ = some (.int .i64 x0))
          (first | exact kX | exact kY)
          (first | (go_at_call 16; refine G6.out.mono ?_; rintro e w3 ⟨r3, rfl, o3, b3⟩; obtain ⟨r3a, r3c, rfl⟩ := own_forms o3; have b3' := (show Below W.heap.size W w3 from (Below.refl _ W).drew.trans b3); have kY := KX.out w3 b3'; have B3 := Lib.hid (BW.out.1.trans (b3'.mono BW.out.1.size)); have S3 := Lib.hid (SI.out w3 (RT.out w3 B3.out)); have X3 := Lib.hid (BW.out.2.below b3'); clear o3 b3 b3') | (go_at_call 13; refine S3.out.mono ?_; rintro e w3 ⟨rfl, rfl⟩))
        all_goals
          go_wp2_with fail
          go_ret
          exact ⟨by rw [PE2.out]; rfl, by rw [HT2.out, if_neg (by rw [PE2.out]; decide)]; exact NOP.out _ B3.out⟩
      case neg =>
        rw [if_neg hms] at PE2
        have qd : decide (most ≤ size) = false := decide_eq_false hms
        have qd2 : ¬ (most : Int) ≤ (size : Int) := by omega
        go_region_held (fun y => y.cell? ⟨h, 1, none⟩ = some (.int .i64 (most : Nat)) ∧ y.cell? ⟨w.heap.size, 0, none⟩ = some (.int .i64 x0))
          (first | exact kX | exact kY)
          (first | (go_at_call 16; refine G6.out.mono ?_; rintro e w3 ⟨r3, rfl, o3, b3⟩; obtain ⟨r3a, r3c, rfl⟩ := own_forms o3; have b3' := (show Below W.heap.size W w3 from (Below.refl _ W).drew.trans b3); have kY := KX.out w3 b3'; have B3 := Lib.hid (BW.out.1.trans (b3'.mono BW.out.1.size)); have S3 := Lib.hid (SI.out w3 (RT.out w3 B3.out)); have X3 := Lib.hid (BW.out.2.below b3'); clear o3 b3 b3') | (go_at_call 13; refine S3.out.mono ?_; rintro e w3 ⟨rfl, rfl⟩))
        all_goals
          have L8 := Lib.hid (LA.out w3.drew (DT.out w3.drew B3.out.drew))
          have kX : w3.drew.cell? ⟨w.heap.size, 0, none⟩ = some (.int .i64 x0) ∧ w3.drew.cell? ⟨w.heap.size, 1, none⟩ = some (.int .i64 x1) ∧ w3.drew.cell? ⟨w.heap.size, 2, none⟩ = some (.int .u64 (x2 : Nat)) ∧ w3.drew.cell? ⟨w.heap.size, 3, none⟩ = some (.string (str x3)) := ⟨X3.out.b0, X3.out.b1, X3.out.b2, X3.out.b3⟩
          have KZ := Lib.hid (show ∀ y, Chg w3.drew y S → y.cell? ⟨w.heap.size, 0, none⟩ = some (.int .i64 x0) ∧ y.cell? ⟨w.heap.size, 1, none⟩ = some (.int .i64 x1) ∧ y.cell? ⟨w.heap.size, 2, none⟩ = some (.int .u64 (x2 : Nat)) ∧ y.cell? ⟨w.heap.size, 3, none⟩ = some (.string (str x3)) from fun y hy => by
            have hb := hy.block w.heap.size (X3.out.lt) (fun e => by have := HLT.out _ e; omega)
            exact ⟨(World.cell?_of_block hb).trans X3.out.b0, (World.cell?_of_block hb).trans X3.out.b1, (World.cell?_of_block hb).trans X3.out.b2, (World.cell?_of_block hb).trans X3.out.b3⟩)
          clear kY
          go_wp2_with fail
          go_region_held (fun y => y.cell? ⟨w.heap.size, 0, none⟩ = some (.int .i64 x0) ∧ y.cell? ⟨w.heap.size, 1, none⟩ = some (.int .i64 x1) ∧ y.cell? ⟨w.heap.size, 2, none⟩ = some (.int .u64 (x2 : Nat)) ∧ y.cell? ⟨w.heap.size, 3, none⟩ = some (.string (str x3)))
            (first | exact kX | exact kY)
            (first | (go_at_call 40; refine L8.out.mono ?_; rintro e w5 ⟨⟨z5, rfl⟩, d5, c5⟩; have kY := KZ.out w5 c5; have D5 := Lib.hid d5; have C5 := Lib.hid c5; clear d5 c5))
          all_goals
            go_wp2_with fail
            go_ret
            refine ⟨by rw [PE2.out]; rfl, ?_⟩
            rw [HT2.out, if_pos PE2.out]
            exact YEP.out w3.drew w5 B3.out.drew D5.out C5.out
    | true =>
      rw [hf] at A1
      obtain ⟨tb, tc, n9, ra, rc, l, kd0, hpn, hnc, hl0, hlc, hne, hk0, FC⟩ := FST.out hf
      have FCC := Lib.hid FC
      have ht : tk (V.P k) x1 = decide (kd0 = x1) := by
        unfold Ce.tk
        rw [decide_eq_false hne, hk0, Bool.false_or]
      rw [ht] at PE2
      simp only [Bool.true_eq_false, if_false] at PE2
      clear hne hk0 ht FST FNO hf FC
      go_wp2_with fail
      refine A1.out.mono ?_
      rintro e w2 ⟨rfl, n, hw2⟩
      have B2 := Lib.hid (show Below w.heap.size w w2 ∧ Box w w2 (x0, x1, x2, x3) from by rw [hw2]; exact ⟨bdn BX.out.bl _, ⟨bdn BX.out.bl _, BX.out.b0, BX.out.b1, BX.out.b2, BX.out.b3, BX.out.lt⟩⟩)
      obtain ⟨f0, f1, f2⟩ := FCC.out w2 B2.out.1
      have f3 := B2.out.2.b1
      obtain ⟨i, hii⟩ : ∃ i, i = pos T k := ⟨_, rfl⟩
      rw [← hii] at hpn f1 ⊢
      clear hw2 hii A1
      by_cases hkd : kd0 = x1
      case neg =>
        rw [decide_eq_false hkd, if_pos rfl] at PE2
        have qk : (kd0 != x1) = true := by simpa using hkd
        clear hkd
        go_wp2_with fail
        go_quiet (fail)
        go_wp2_with fail
        go_ret
        exact ⟨by rw [PE2.out]; rfl, by rw [HT2.out, if_neg (by rw [PE2.out]; decide)]; exact NOP.out _ (bdn B2.out.1 _)⟩
      case pos =>
        rw [decide_eq_true hkd] at PE2
        simp only [Bool.true_eq_false, if_false] at PE2
        have qk : (kd0 != x1) = false := by simpa using hkd
        clear hkd
        go_wp2_with fail
        go_quiet (fail)
        go_upto_region 6 with (fail)
        obtain ⟨W, hW⟩ : ∃ W, W = w2.drewN nq := ⟨_, rfl⟩
        rw [← hW]
        have BW := Lib.hid (show Below w.heap.size w W ∧ Box w W (x0, x1, x2, x3) from by rw [hW]; exact ⟨bdn B2.out.1 _, ⟨bdn B2.out.1 _, B2.out.2.b0, B2.out.2.b1, B2.out.2.b2, B2.out.2.b3, B2.out.2.lt⟩⟩)
        clear hW f0 f1 f2 f3
        have c1 := C1.out W BW.out.1
        have bb0 := BW.out.2.b0
        have G6 := Lib.hid (GE.out W.drew (RT.out W.drew BW.out.1.drew))
        have KX := Lib.hid (show ∀ y, Below W.heap.size W y → y.cell? ⟨h, 1, none⟩ = some (.int .i64 (most : Nat)) ∧ y.cell? ⟨w.heap.size, 0, none⟩ = some (.int .i64 x0) from fun y hy => ⟨C1.out y (BW.out.1.trans (hy.mono BW.out.1.size)), (BW.out.2.below hy).b0⟩)
        have kX := KX.out W.drew (Below.refl _ W).drew
        clear c1 bb0
        cases hhs : Ct.has x0 (V.P k) with
        | false =>
          rw [hhs] at G6 PE2
          simp only [Bool.false_eq_true, if_false, true_and] at G6 PE2
          by_cases hms : most ≤ size
          case pos =>
            rw [if_pos hms] at PE2
            have qd : decide (most ≤ size) = true := decide_eq_true hms
            have qd2 : (most : Int) ≤ (size : Int) := by omega
            go_region_held (fun y => y.cell? ⟨h, 1, none⟩ = some (.int .i64 (most : Nat)) ∧ y.cell? ⟨w.heap.size, 0, none⟩ = some (.int .i64 x0))
              (first | exact kX | exact kY)
              (first | (go_at_call 16; refine G6.out.mono ?_; rintro e w3 ⟨r3, rfl, o3, b3⟩; obtain ⟨r3a, r3c, rfl⟩ := own_forms o3; have b3' := (show Below W.heap.size W w3 from (Below.refl _ W).drew.trans b3); have kY := KX.out w3 b3'; have B3 := Lib.hid (BW.out.1.trans (b3'.mono BW.out.1.size)); have S3 := Lib.hid (SI.out w3 (RT.out w3 B3.out)); have X3 := Lib.hid (BW.out.2.below b3'); clear o3 b3 b3') | (go_at_call 13; refine S3.out.mono ?_; rintro e w3 ⟨rfl, rfl⟩))
            all_goals
              go_wp2_with fail
              go_ret
              exact ⟨by rw [PE2.out]; rfl, by rw [HT2.out, if_neg (by rw [PE2.out]; decide)]; exact NOP.out _ B3.out⟩
          case neg =>
            rw [if_neg hms] at PE2
            have qd : decide (most ≤ size) = false := decide_eq_false hms
            have qd2 : ¬ (most : Int) ≤ (size : Int) := by omega
            go_region_held (fun y => y.cell? ⟨h, 1, none⟩ = some (.int .i64 (most : Nat)) ∧ y.cell? ⟨w.heap.size, 0, none⟩ = some (.int .i64 x0))
              (first | exact kX | exact kY)
              (first | (go_at_call 16; refine G6.out.mono ?_; rintro e w3 ⟨r3, rfl, o3, b3⟩; obtain ⟨r3a, r3c, rfl⟩ := own_forms o3; have b3' := (show Below W.heap.size W w3 from (Below.refl _ W).drew.trans b3); have kY := KX.out w3 b3'; have B3 := Lib.hid (BW.out.1.trans (b3'.mono BW.out.1.size)); have S3 := Lib.hid (SI.out w3 (RT.out w3 B3.out)); have X3 := Lib.hid (BW.out.2.below b3'); clear o3 b3 b3') | (go_at_call 13; refine S3.out.mono ?_; rintro e w3 ⟨rfl, rfl⟩))
            all_goals
              have L8 := Lib.hid (LA.out w3.drew (DT.out w3.drew B3.out.drew))
              have kX : w3.drew.cell? ⟨w.heap.size, 0, none⟩ = some (.int .i64 x0) ∧ w3.drew.cell? ⟨w.heap.size, 1, none⟩ = some (.int .i64 x1) ∧ w3.drew.cell? ⟨w.heap.size, 2, none⟩ = some (.int .u64 (x2 : Nat)) ∧ w3.drew.cell? ⟨w.heap.size, 3, none⟩ = some (.string (str x3)) := ⟨X3.out.b0, X3.out.b1, X3.out.b2, X3.out.b3⟩
              have KZ := Lib.hid (show ∀ y, Chg w3.drew y S → y.cell? ⟨w.heap.size, 0, none⟩ = some (.int .i64 x0) ∧ y.cell? ⟨w.heap.size, 1, none⟩ = some (.int .i64 x1) ∧ y.cell? ⟨w.heap.size, 2, none⟩ = some (.int .u64 (x2 : Nat)) ∧ y.cell? ⟨w.heap.size, 3, none⟩ = some (.string (str x3)) from fun y hy => by
                have hb := hy.block w.heap.size (X3.out.lt) (fun e => by have := HLT.out _ e; omega)
                exact ⟨(World.cell?_of_block hb).trans X3.out.b0, (World.cell?_of_block hb).trans X3.out.b1, (World.cell?_of_block hb).trans X3.out.b2, (World.cell?_of_block hb).trans X3.out.b3⟩)
              clear kY
              go_wp2_with fail
              go_region_held (fun y => y.cell? ⟨w.heap.size, 0, none⟩ = some (.int .i64 x0) ∧ y.cell? ⟨w.heap.size, 1, none⟩ = some (.int .i64 x1) ∧ y.cell? ⟨w.heap.size, 2, none⟩ = some (.int .u64 (x2 : Nat)) ∧ y.cell? ⟨w.heap.size, 3, none⟩ = some (.string (str x3)))
                (first | exact kX | exact kY)
                (first | (go_at_call 40; refine L8.out.mono ?_; rintro e w5 ⟨⟨z5, rfl⟩, d5, c5⟩; have kY := KZ.out w5 c5; have D5 := Lib.hid d5; have C5 := Lib.hid c5; clear d5 c5))
              all_goals
                go_wp2_with fail
                go_ret
                refine ⟨by rw [PE2.out]; rfl, ?_⟩
                rw [HT2.out, if_pos PE2.out]
                exact YEP.out w3.drew w5 B3.out.drew D5.out C5.out
        | true =>
          rw [hhs] at G6 PE2
          simp only [if_true, Bool.true_eq_false, false_and, if_false] at G6 PE2
          refine wp_region_held_drew (S := fun y => y.cell? ⟨h, 1, none⟩ = some (.int .i64 (most : Nat)) ∧ y.cell? ⟨w.heap.size, 0, none⟩ = some (.int .i64 x0)) (by kernel_rfl) kX (fun hS => ?_)
          refine wpAnyH_take (i := 0) (oi := { dst := some 44, op := Op.move (Operand.tmp 0), type := 26, pos := "ref.go:119", after := #[], guard := none }) (v := ?pv0) rfl (by kernel_rfl) (by kernel_rfl) (by kernel_rfl) (fun _ _ _ h => h) (Or.inl ⟨by rfl, ?ph0⟩) hS ?pr0
          case ph0 => (intro w hSw; (try dsimp only at hSw); go_simp; try (with_reducible rfl))
          try simp only [Act.put, List.setIfInBounds_toArray, List.set_cons_zero, List.set_cons_succ]
          refine wpAnyH_take (i := 1) (oi := { dst := some 45, op := Op.nilCheck (Operand.tmp 44), type := 0, pos := "ref.go:119", after := #[{ on := 0, ground := Ground.data }], guard := none }) (v := ?pv1) rfl (by kernel_rfl) (by kernel_rfl) (by kernel_rfl) (fun _ _ _ h => h) (Or.inl ⟨by rfl, ?ph1⟩) hS ?pr1
          case ph1 => (intro w hSw; (try dsimp only at hSw); go_simp; try (with_reducible rfl))
          try simp only [Act.put, List.setIfInBounds_toArray, List.set_cons_zero, List.set_cons_succ]
          refine wpAnyH_take (i := 2) (oi := { dst := some 46, op := Op.fieldAddr 41 (Operand.tmp 45) 0, type := 0, pos := "ref.go:119", after := #[{ on := 1, ground := Ground.data }], guard := none }) (v := ?pv2) rfl (by kernel_rfl) (by kernel_rfl) (by kernel_rfl) (fun _ _ _ h => h) (Or.inl ⟨by rfl, ?ph2⟩) hS ?pr2
          case ph2 => (intro w hSw; (try dsimp only at hSw); go_simp; try (with_reducible rfl))
          try simp only [Act.put, List.setIfInBounds_toArray, List.set_cons_zero, List.set_cons_succ]
          refine wpAnyH_take (i := 3) (oi := { dst := some 47, op := Op.move (Operand.tmp 1), type := 9, pos := "ref.go:119", after := #[], guard := none }) (v := ?pv3) rfl (by kernel_rfl) (by kernel_rfl) (by kernel_rfl) (fun _ _ _ h => h) (Or.inl ⟨by rfl, ?ph3⟩) hS ?pr3
          case ph3 => (intro w hSw; (try dsimp only at hSw); go_simp; try (with_reducible rfl))
          try simp only [Act.put, List.setIfInBounds_toArray, List.set_cons_zero, List.set_cons_succ]
          refine wpAnyH_take (i := 4) (oi := { dst := some 48, op := Op.move (Operand.tmp 2), type := 9, pos := "ref.go:119", after := #[], guard := none }) (v := ?pv4) rfl (by kernel_rfl) (by kernel_rfl) (by kernel_rfl) (fun _ _ _ h => h) (Or.inl ⟨by rfl, ?ph4⟩) hS ?pr4
          case ph4 => (intro w hSw; (try dsimp only at hSw); go_simp; try (with_reducible rfl))
          try simp only [Act.put, List.setIfInBounds_toArray, List.set_cons_zero, List.set_cons_succ]
          refine wpAnyH_take (i := 5) (oi := { dst := some 49, op := Op.fieldAddr 32 (Operand.tmp 7) 0, type := 0, pos := "ref.go:119", after := #[], guard := none }) (v := ?pv5) rfl (by kernel_rfl) (by kernel_rfl) (by kernel_rfl) (fun _ _ _ h => h) (Or.inl ⟨by rfl, ?ph5⟩) hS ?pr5
          case ph5 => (intro w hSw; (try dsimp only at hSw); go_simp; try (with_reducible rfl))
          try simp only [Act.put, List.setIfInBounds_toArray, List.set_cons_zero, List.set_cons_succ]
          refine wpAnyH_take (i := 6) (oi := { dst := some 50, op := Op.load 2 (Operand.tmp 49), type := 2, pos := "ref.go:119", after := #[{ on := 5, ground := Ground.data }], guard := none }) (v := ?pv6) rfl (by kernel_rfl) (by kernel_rfl) (by kernel_rfl) (fun _ _ _ h => h) (Or.inl ⟨by rfl, ?ph6⟩) hS ?pr6
          case ph6 => (intro w hSw; (try dsimp only at hSw); go_simp; try (with_reducible rfl))
          try simp only [Act.put, List.setIfInBounds_toArray, List.set_cons_zero, List.set_cons_succ]
          refine wpAnyH_take (i := 7) (oi := { dst := some 51, op := Op.fieldAddr 32 (Operand.tmp 7) 0, type := 0, pos := "ref.go:119", after := #[], guard := none }) (v := ?pv7) rfl (by kernel_rfl) (by kernel_rfl) (by kernel_rfl) (fun _ _ _ h => h) (Or.inl ⟨by rfl, ?ph7⟩) hS ?pr7
          case ph7 => (intro w hSw; (try dsimp only at hSw); go_simp; try (with_reducible rfl))
          try simp only [Act.put, List.setIfInBounds_toArray, List.set_cons_zero, List.set_cons_succ]
          refine wpAnyH_take (i := 8) (oi := { dst := some 52, op := Op.load 2 (Operand.tmp 51), type := 2, pos := "ref.go:119", after := #[{ on := 7, ground := Ground.data }], guard := none }) (v := ?pv8) rfl (by kernel_rfl) (by kernel_rfl) (by kernel_rfl) (fun _ _ _ h => h) (Or.inl ⟨by rfl, ?ph8⟩) hS ?pr8
          case ph8 => (intro w hSw; (try dsimp only at hSw); go_simp; try (with_reducible rfl))
          try simp only [Act.put, List.setIfInBounds_toArray, List.set_cons_zero, List.set_cons_succ]
          refine wpAnyH_ready (rs := [9]) (by kernel_rfl) (by simp) ?_
          refine AllReadyH.cons rfl (fun K hK => ?_) AllReadyH.nil
          go_simp
          go_at_call 16
          refine G6.out.mono ?_
          rintro e w3 ⟨r3, rfl, o3, b3⟩
          obtain ⟨r3a, r3c, rfl⟩ := own_forms o3
          have b3' := (show Below W.heap.size W w3 from (Below.refl _ W).drew.trans b3)
          have kY := KX.out w3 b3'
          have B3 := Lib.hid (BW.out.1.trans (b3'.mono BW.out.1.size))
          have X3 := Lib.hid (BW.out.2.below b3')
          clear o3 b3 b3' hS
          dsimp only
          refine hK.out _ _ kY (fun hS => ?_)
          clear hK K
          refine wpAnyH_take (i := 10) (oi := { dst := some 54, op := Op.call { callee := Callee.builtin Builtin.len, args := #[Operand.tmp 53], argTypes := #[43] }, type := 3, pos := "ref.go:119", after := #[{ on := 9, ground := Ground.data }], guard := none }) (v := ?pv10) rfl (by kernel_rfl) (by kernel_rfl) (by kernel_rfl) (fun _ _ _ h => h) (Or.inl ⟨by rfl, ?ph10⟩) hS ?pr10
          case ph10 => (intro w hSw; (try dsimp only at hSw); go_simp; try (with_reducible rfl))
          try simp only [Act.put, List.setIfInBounds_toArray, List.set_cons_zero, List.set_cons_succ]
          refine wpAnyH_take (i := 11) (oi := { dst := some 55, op := Op.binOp BinOp.eql 3 (Operand.tmp 54) (Operand.const (Value.int IntKind.i64 0)) 3, type := 4, pos := "ref.go:119", after := #[{ on := 10, ground := Ground.data }], guard := none }) (v := ?pv11) rfl (by kernel_rfl) (by kernel_rfl) (by kernel_rfl) (fun _ _ _ h => h) (Or.inl ⟨by rfl, ?ph11⟩) hS ?pr11
          case ph11 => (intro w hSw; (try dsimp only at hSw); go_simp; try (with_reducible rfl))
          try simp only [Act.put, List.setIfInBounds_toArray, List.set_cons_zero, List.set_cons_succ]
          refine wpAnyH_take (i := 12) (oi := { dst := some 56, op := Op.move (Operand.tmp 55), type := 4, pos := "ref.go:119", after := #[{ on := 11, ground := Ground.data }, { on := 9, ground := Ground.chain }], guard := none }) (v := ?pv12) rfl (by kernel_rfl) (by kernel_rfl) (by kernel_rfl) (fun _ _ _ h => h) (Or.inl ⟨by rfl, ?ph12⟩) hS ?pr12
          case ph12 => (intro w hSw; (try dsimp only at hSw); go_simp; try (with_reducible rfl))
          try simp only [Act.put, List.setIfInBounds_toArray, List.set_cons_zero, List.set_cons_succ]
          refine wpAnyH_take (i := 13) (oi := { dst := some 57, op := Op.move (Operand.tmp 0), type := 26, pos := "ref.go:119", after := #[{ on := 12, ground := Ground.guard }], guard := some (12, true) }) (v := undef) rfl (by kernel_rfl) (by kernel_rfl) (by kernel_rfl) (fun _ _ _ h => h) (Or.inr ⟨by rfl, rfl⟩) hS ?pr13
          try simp only [Act.put, List.setIfInBounds_toArray, List.set_cons_zero, List.set_cons_succ]
          refine wpAnyH_take (i := 14) (oi := { dst := some 58, op := Op.nilCheck (Operand.tmp 57), type := 0, pos := "ref.go:119", after := #[{ on := 13, ground := Ground.data }, { on := 12, ground := Ground.guard }], guard := some (12, true) }) (v := undef) rfl (by kernel_rfl) (by kernel_rfl) (by kernel_rfl) (fun _ _ _ h => h) (Or.inr ⟨by rfl, rfl⟩) hS ?pr14
          try simp only [Act.put, List.setIfInBounds_toArray, List.set_cons_zero, List.set_cons_succ]
          refine wpAnyH_take (i := 15) (oi := { dst := some 59, op := Op.fieldAddr 41 (Operand.tmp 58) 0, type := 0, pos := "ref.go:119", after := #[{ on := 14, ground := Ground.data }, { on := 12, ground := Ground.guard }], guard := some (12, true) }) (v := undef) rfl (by kernel_rfl) (by kernel_rfl) (by kernel_rfl) (fun _ _ _ h => h) (Or.inr ⟨by rfl, rfl⟩) hS ?pr15
          try simp only [Act.put, List.setIfInBounds_toArray, List.set_cons_zero, List.set_cons_succ]
          refine wpAnyH_take (i := 16) (oi := { dst := some 60, op := Op.call { callee := Callee.value (Operand.func 13), args := #[Operand.tmp 59], argTypes := #[39] }, type := 3, pos := "ref.go:119", after := #[{ on := 15, ground := Ground.data }, { on := 12, ground := Ground.chain }, { on := 12, ground := Ground.guard }], guard := some (12, true) }) (v := undef) rfl (by kernel_rfl) (by kernel_rfl) (by kernel_rfl) (fun _ _ _ h => h) (Or.inr ⟨by rfl, rfl⟩) hS ?pr16
          try simp only [Act.put, List.setIfInBounds_toArray, List.set_cons_zero, List.set_cons_succ]
          refine wpAnyH_take (i := 17) (oi := { dst := some 61, op := Op.move (Operand.tmp 0), type := 26, pos := "ref.go:119", after := #[{ on := 12, ground := Ground.guard }], guard := some (12, true) }) (v := undef) rfl (by kernel_rfl) (by kernel_rfl) (by kernel_rfl) (fun _ _ _ h => h) (Or.inr ⟨by rfl, rfl⟩) hS ?pr17
          try simp only [Act.put, List.setIfInBounds_toArray, List.set_cons_zero, List.set_cons_succ]
          refine wpAnyH_take (i := 18) (oi := { dst := some 62, op := Op.nilCheck (Operand.tmp 61), type := 0, pos := "ref.go:119", after := #[{ on := 17, ground := Ground.data }, { on := 12, ground := Ground.guard }], guard := some (12, true) }) (v := undef) rfl (by kernel_rfl) (by kernel_rfl) (by kernel_rfl) (fun _ _ _ h => h) (Or.inr ⟨by rfl, rfl⟩) hS ?pr18
          try simp only [Act.put, List.setIfInBounds_toArray, List.set_cons_zero, List.set_cons_succ]
          refine wpAnyH_take (i := 19) (oi := { dst := some 63, op := Op.fieldAddr 41 (Operand.tmp 62) 1, type := 0, pos := "ref.go:119", after := #[{ on := 18, ground := Ground.data }, { on := 12, ground := Ground.guard }], guard := some (12, true) }) (v := undef) rfl (by kernel_rfl) (by kernel_rfl) (by kernel_rfl) (fun _ _ _ h => h) (Or.inr ⟨by rfl, rfl⟩) hS ?pr19
          try simp only [Act.put, List.setIfInBounds_toArray, List.set_cons_zero, List.set_cons_succ]
          refine wpAnyH_take (i := 20) (oi := { dst := some 64, op := Op.load 3 (Operand.tmp 63), type := 3, pos := "ref.go:119", after := #[{ on := 19, ground := Ground.data }, { on := 12, ground := Ground.guard }], guard := some (12, true) }) (v := undef) rfl (by kernel_rfl) (by kernel_rfl) (by kernel_rfl) (fun _ _ _ h => h) (Or.inr ⟨by rfl, rfl⟩) hS ?pr20
          try simp only [Act.put, List.setIfInBounds_toArray, List.set_cons_zero, List.set_cons_succ]
          refine wpAnyH_take (i := 21) (oi := { dst := some 65, op := Op.binOp BinOp.geq 3 (Operand.tmp 60) (Operand.tmp 64) 3, type := 4, pos := "ref.go:119", after := #[{ on := 16, ground := Ground.data }, { on := 20, ground := Ground.data }, { on := 12, ground := Ground.guard }], guard := some (12, true) }) (v := undef) rfl (by kernel_rfl) (by kernel_rfl) (by kernel_rfl) (fun _ _ _ h => h) (Or.inr ⟨by rfl, rfl⟩) hS ?pr21
          try simp only [Act.put, List.setIfInBounds_toArray, List.set_cons_zero, List.set_cons_succ]
          refine wpAnyH_take (i := 22) (oi := { dst := some 66, op := Op.pick (Operand.tmp 56) (Operand.tmp 65) (Operand.const (Value.bool false)), type := 4, pos := "ref.go:119", after := #[{ on := 12, ground := Ground.data }, { on := 21, ground := Ground.data }], guard := none }) (v := ?pv22) rfl (by kernel_rfl) (by kernel_rfl) (by kernel_rfl) (fun _ _ _ h => h) (Or.inl ⟨by rfl, ?ph22⟩) hS ?pr22
          case ph22 => (intro w hSw; (try dsimp only at hSw); go_simp; try (with_reducible rfl))
          try simp only [Act.put, List.setIfInBounds_toArray, List.set_cons_zero, List.set_cons_succ]
          refine wpAnyH_done (by kernel_rfl) ?_ _
          clear hS
          all_goals
            have L8 := Lib.hid (LA.out w3.drew (DT.out w3.drew B3.out.drew))
            have kX : w3.drew.cell? ⟨w.heap.size, 0, none⟩ = some (.int .i64 x0) ∧ w3.drew.cell? ⟨w.heap.size, 1, none⟩ = some (.int .i64 x1) ∧ w3.drew.cell? ⟨w.heap.size, 2, none⟩ = some (.int .u64 (x2 : Nat)) ∧ w3.drew.cell? ⟨w.heap.size, 3, none⟩ = some (.string (str x3)) := ⟨X3.out.b0, X3.out.b1, X3.out.b2, X3.out.b3⟩
            have KZ := Lib.hid (show ∀ y, Chg w3.drew y S → y.cell? ⟨w.heap.size, 0, none⟩ = some (.int .i64 x0) ∧ y.cell? ⟨w.heap.size, 1, none⟩ = some (.int .i64 x1) ∧ y.cell? ⟨w.heap.size, 2, none⟩ = some (.int .u64 (x2 : Nat)) ∧ y.cell? ⟨w.heap.size, 3, none⟩ = some (.string (str x3)) from fun y hy => by
              have hb := hy.block w.heap.size (X3.out.lt) (fun e => by have := HLT.out _ e; omega)
              exact ⟨(World.cell?_of_block hb).trans X3.out.b0, (World.cell?_of_block hb).trans X3.out.b1, (World.cell?_of_block hb).trans X3.out.b2, (World.cell?_of_block hb).trans X3.out.b3⟩)
            clear kY
            go_wp2_with fail
            go_region_held (fun y => y.cell? ⟨w.heap.size, 0, none⟩ = some (.int .i64 x0) ∧ y.cell? ⟨w.heap.size, 1, none⟩ = some (.int .i64 x1) ∧ y.cell? ⟨w.heap.size, 2, none⟩ = some (.int .u64 (x2 : Nat)) ∧ y.cell? ⟨w.heap.size, 3, none⟩ = some (.string (str x3)))
              (first | exact kX | exact kY)
              (first | (go_at_call 40; refine L8.out.mono ?_; rintro e w5 ⟨⟨z5, rfl⟩, d5, c5⟩; have kY := KZ.out w5 c5; have D5 := Lib.hid d5; have C5 := Lib.hid c5; clear d5 c5))
            all_goals
              go_wp2_with fail
              go_ret
              refine ⟨by rw [PE2.out]; rfl, ?_⟩
              rw [HT2.out, if_pos PE2.out]
              exact YEP.out w3.drew w5 B3.out.drew D5.out C5.out
end Ui
end Go.Proofs.Ytloiclmngmnbdaa
