/- The law WalRoom. -/
import Derived.Test.YtdaknlmnelfedaaDoorVg
namespace Go.Proofs.YtdaknlmnelfedaaDoor
open Go.RowKit Go.Maps Go.ChangeMaps Go.MapKept
namespace Vh
open Jb Jm Jd Jw Jx Jn Je Jf Jg Jh Jk Jc Jl Jo Jq Jr J1 J2 J3 J4 W1 W2 W3 V1 V2 V3 V4 V5 V6 V7 V8 V9 Va Vb Vc Vd Ve Vf Vg

set_option maxRecDepth 100000 in
set_option maxHeartbeats 6000000 in
theorem room3 (W : World) (en : En W W.heap.size) (v0 v1 : Value) (xs : List (List Nat)) (ts : List Nat) (h0 : BL W v0 xs) (hby : ∀ x ∈ xs, ∀ y ∈ x, y < 256) (h1 : Src W (fun k => k < W.heap.size) v1 ts) (ht : ∀ t ∈ ts, t < 256) (hl0 : xs.length ≤ 140737488355328) (hl1 : ts.length ≤ 140737488355328) :
    Calls Tryd.prog 3 #[v0, v1] W fun e w' => e = .returned (.bool true) ∧ Below W.heap.size W w' := by
  obtain ⟨B, hB⟩ : ∃ B, B = W.heap.size := ⟨_, rfl⟩
  have HB := Lib.hid hB
  have AW : Hid (∀ w, Below B W w → Calls Tryd.prog 4 #[] w fun e w' => e = .returned (.bool true) ∧ Below B W w') := Lib.hid fun w hw => by
    have hz := hw.size
    refine (awake4 w ⟨(en.move hz fun k hk => hw.block k (by omega)).tab, (en.move hz fun k hk => hw.block k (by omega)).err, by have := en.lo; omega, Nat.le_refl _⟩).mono ?_
    rintro e w' ⟨rfl, b⟩
    exact ⟨rfl, hw.trans (b.mono (by omega))⟩
  have EN : Hid (∀ w, Below B W w → En w B) := Lib.hid fun w hw => by rw [hB]; exact en.move hw.size fun k hk => hw.block k (by omega)
  obtain ⟨n, hn⟩ : ∃ n, n = xs.length := ⟨_, rfl⟩
  obtain ⟨a1, c1, rfl⟩ := h1.forms
  obtain ⟨m, hm⟩ : ∃ m, m = ts.length := ⟨_, rfl⟩
  have form0 : ∃ a c, v0 = .slice a n c := by
    rcases h0 with ⟨rfl, a, c, rfl⟩ | ⟨b, off, c, rfl, _⟩
    · exact ⟨a, c, by rw [hn]; rfl⟩
    · exact ⟨_, c, by rw [hn]⟩
  have hl1' : m ≤ 140737488355328 := by omega
  have b00 : Below B W W := Below.refl _ _
  have AW0 := Lib.hid (AW.out W b00)
  by_cases hbig : 40 < n
  · obtain ⟨a0, c0, rfl⟩ := form0
    have d1 : decide ((n : Int) > 40) = true := decide_eq_true (by omega)
    rw [← hB]
    clear h0 h1 hby ht hl0 hl1 en hn hm hB hl1' b00
    go_enter Tryd.func3, Tryd.ntmps3
    go_wp2_with (first | (go_at_call 4; refine (AW0.out).mono ?_; rintro e w1 ⟨rfl, b1⟩; have AW0 := Lib.hid (AW.out w1 b1)))
    go_ret
    exact ⟨rfl, b1⟩
  · have hn40 : n ≤ 40 := by omega
    have d1 : decide ((n : Int) > 40) = false := decide_eq_false (by omega)
    obtain ⟨a0, c0, hv0⟩ := form0
    -- the arguments, in whatever world
    have AR : Hid (∀ k, k < n → ∃ b off a cc bs, a0 = some ⟨b, off, none⟩ ∧ xs[k]? = some bs ∧ (∀ w, Below B W w → w.cell? ⟨b, off + k, none⟩ = some (.slice a bs.length cc)) ∧ Src W (fun k => k < B) (.slice a bs.length cc) bs ∧ ∀ y ∈ bs, y < 256) := Lib.hid fun k hk => by
      rcases h0 with ⟨rfl, _⟩ | ⟨b, off, c, rfl, hp, hb, hc⟩
      · simp at hn; omega
      · have hk' : k < xs.length := by omega
        obtain ⟨a, cc, q1, q2⟩ := hc k hk'
        injection hv0 with hv0 _ _
        exact ⟨b, off, a, cc, xs[k], hv0.symm, List.getElem?_eq_getElem hk', fun w hw => (World.cell?_of_block (hw.block b (by omega))).trans q1, q2.imp fun j hj => by omega, hby _ (List.getElem_mem hk')⟩
    have TR : Hid (∀ k, k < m → ∃ tb toff t, a1 = some ⟨tb, toff, none⟩ ∧ t < 256 ∧ ∀ w, Below B W w → w.cell? ⟨tb, toff + k, none⟩ = some (.int .u8 (t : Nat))) := Lib.hid fun k hk => by
      rcases h1 with ⟨e0, _⟩ | ⟨_, b, off, c, e1, _, hb, hc⟩
      · rw [e0] at hm; simp at hm; omega
      · injection e1 with e1 _ _
        exact ⟨b, off, g ts k, e1, g_lt ht k, fun w hw => (World.cell?_of_block (hw.block b (by omega))).trans (hc k (by omega))⟩
    have NS : Hid (∀ k bs, xs[k]? = some bs → need (xs.take (k + 1)) = need (xs.take k) + bs.length + 16) := Lib.hid fun k bs hk => by
      obtain ⟨hk1, e⟩ := List.getElem?_eq_some_iff.1 hk
      rw [need_succ xs k hk1, e]
    have NL : Hid (∀ k, k ≤ n → (∀ j bs, j < k → xs[j]? = some bs → bs.length ≤ 4000) → need (xs.take k) ≤ 160656) := Lib.hid fun k hk hh => by
      have := need_le (xs.take k) fun x hx => by
        obtain ⟨j, hj, e⟩ := List.getElem_of_mem hx
        rw [List.length_take] at hj
        rw [List.getElem_take] at e
        exact hh j x (by omega) (by rw [List.getElem?_eq_getElem (by omega), e])
      have h2 : (xs.take k).length ≤ 40 := by rw [List.length_take]; omega
      omega
    have NM : Hid (∀ k, k ≤ n → need (xs.take k) ≤ need (xs.take n)) := Lib.hid fun k hk => by
      have := need_mono xs (n - k) k
      rwa [show k + (n - k) = n by omega] at this
    have N0 : Hid (need (xs.take 0) = 16) := Lib.hid (by simp [need])
    have HBW : Hid (B ≤ W.heap.size) := Lib.hid (by omega)
    rw [← hB, ← hm]
    subst hv0
    clear h0 h1 hby ht hl0 hl1 en hn hm hB hl1' b00 hbig
    go_enter Tryd.func3, Tryd.ntmps3
    go_wp2_with (go_at_call 4; refine (AW0.out).mono ?_; rintro e w1 ⟨rfl, b1⟩)
    have B1 := Lib.hid b1
    clear b1
    go_loopw [5, 6, 23] (fun nd _ i wr => ∃ k, k ≤ n ∧ i = .int .i64 (k : Nat) ∧ nd = .int .i64 (need (xs.take k) : Nat) ∧ (∀ j bs, j < k → xs[j]? = some bs → bs.length ≤ 4000) ∧ wr = w1) (fun _ _ i _ => n - (intOf i).toNat)
    case atStart => exact ⟨0, Nat.zero_le _, rfl, by rw [N0.out]; rfl, fun j bs hj => by omega, by first | rfl | trivial⟩
    case round =>
      obtain ⟨k, hk, rfl, rfl, hall, rfl⟩ := hrel
      have HA := Lib.hid hall
      clear hall
      by_cases hkn : k < n
      · obtain ⟨b, off, a, cc, bs, hv, hx, hc, hsrc, hby⟩ := AR.out k hkn
        have hkn' : (k : Int) < (n : Int) := by omega
        subst hv
        obtain ⟨l, hl⟩ : ∃ l, l = bs.length := ⟨_, rfl⟩
        rw [← hl] at hc
        replace hc := hc wr B1.out
        have HX := Lib.hid hx
        have HLN := Lib.hid hl
        have HKN := Lib.hid hkn
        obtain ⟨q, hq⟩ : ∃ q, q = need (xs.take k) := ⟨_, rfl⟩
        have HQ := Lib.hid hq
        have qb : q ≤ 160656 := by rw [hq]; exact NL.out k hk HA.out
        rw [← hq]
        by_cases hbig : 4000 < l
        · have d2 : decide ((l : Int) > 4000) = true := decide_eq_true (by omega)
          clear hsrc hby hx hl hkn hq
          go_wp2_with fail
          go_ret
          exact ⟨rfl, B1.out⟩
        · have d2 : decide ((l : Int) > 4000) = false := decide_eq_false (by omega)
          have lb : l ≤ 4000 := by omega
          clear hsrc hby hx hl hkn hq hbig
          go_wp2_with fail
          go_roundw
          case rel =>
            refine ⟨k + 1, by have := HKN.out; omega, by go_num, ?_, fun j bs' hj hx' => ?_, by first | rfl | trivial⟩
            · rw [NS.out k bs HX.out, ← HLN.out, ← HQ.out]
              go_num
            · by_cases e : j = k
              · rw [e, HX.out] at hx'
                injection hx' with hx'
                rw [← hx', ← HLN.out]; exact lb
              · exact HA.out j bs' (by omega) hx'
          case measure => have := HKN.out; simp [intOf]; omega
      · obtain rfl : k = n := by omega
        have hkk : ¬ (k : Int) < (k : Int) := by omega
        obtain ⟨nd, hnd⟩ : ∃ nd, nd = need (xs.take k) := ⟨_, rfl⟩
        have ndb : nd ≤ 160656 := by rw [hnd]; exact NL.out k (Nat.le_refl _) HA.out
        have HND := Lib.hid hnd
        rw [← hnd]
        have NE := Lib.hid (New_c wr (2 * (nd : Int) + 100) (by omega))
        have OP : Hid (∀ w2, DV w2 (fun k => wr.heap.size ≤ k ∧ k < w2.heap.size) wr.heap.size 0 (V0 (2 * (nd : Int) + 100).toNat) → Below wr.heap.size wr w2 → Calls Tryd.prog 6 #[.pointer (some ⟨wr.heap.size, 0, none⟩)] w2 _) := Lib.hid fun w2 h b => open_new (EN.out wr B1.out) b h
        clear hnd hkn hk
        go_wp2_with (first | (go_at_call 5; refine (NE.out).mono ?_; rintro e w2 ⟨rfl, k1, b2⟩) | (go_at_call 6; refine (OP.out w2 k1 b2).mono ?_; rintro e w3 ⟨p, V, rfl, j1, b3, j2, j3, j4, j5, j6⟩; have J := Lib.hid (And.intro j1 (And.intro b3 (And.intro j2 (And.intro j3 (And.intro j4 (And.intro j5 j6)))))); clear j1 j2 j3 j4 j5 j6))
        have b1 := B1.out
        obtain ⟨j1, b3, j2, j3, j4, j5, j6⟩ := J.out
        have HR : Hid ((2 * (nd : Int) + 100).toNat = 2 * nd + 100) := Lib.hid (by omega)
        have S0 : Hid (St W w3 (fun k => wr.heap.size ≤ k ∧ k < w3.heap.size) B p wr.heap.size 0 V ⟨0, []⟩ (2 * nd + 100) 0 0 0) := Lib.hid ⟨j1, b1.trans (b3.mono (by have := b1.size; have := HBW.out; omega)), j2, j5, j6, j3.trans HR.out, by omega, Nat.le_refl _, by simp [Lg.nx]⟩
        obtain ⟨gd, hgd⟩ : ∃ gd, gd = wr.heap.size := ⟨_, rfl⟩
        rw [← hgd] at S0
        clear J j1 b3 j2 j3 j4 j5 j6 k1 b2 hgd NE OP b1
        go_loopw [10, 11, 12, 54] (fun _ _ _ i wr => ∃ k' U N V L, k' ≤ k ∧ i = .int .i64 (k' : Nat) ∧ St W wr U B p gd N V L (2 * nd + 100) (need (xs.take k')) (3 * k') k') (fun _ _ _ i _ => k - (intOf i).toNat)
        case atStart => exact ⟨0, _, _, V, _, Nat.zero_le _, rfl, ⟨S0.out.ws, S0.out.be, S0.out.fused, S0.out.down, S0.out.cln, S0.out.room, by have := S0.out.used; omega, S0.out.n, S0.out.nx⟩⟩
        case round =>
          obtain ⟨k', U, N, V, L, hk, rfl, st⟩ := hrel
          by_cases hkn : k' < k
          · have hkn' : (k' : Int) < (k : Int) := by omega
            obtain ⟨b, off, a, cc, bs, hv, hx, hc, hsrc, hby⟩ := AR.out k' hkn
            subst hv
            obtain ⟨l, hl⟩ : ∃ l, l = bs.length := ⟨_, rfl⟩
            have lb : l ≤ 4000 := by rw [hl]; exact HA.out k' bs hkn hx
            have ns := NS.out k' bs hx
            have nm := NM.out (k' + 1) (by omega)
            rw [← HND.out] at nm
            obtain ⟨er0, her, AP⟩ : ∃ er0 : Nat, ((er0 = 0 ∧ 0 < l) ∨ (er0 = 1 ∧ l = 0)) ∧ Hid (Calls Tryd.prog 7 #[.pointer (some ⟨p, 0, none⟩), .slice a l cc] wr fun e w' => e = .returned (.int .i64 (er0 : Nat)) ∧ ∃ U' N' V' L', St W w' U' B p gd N' V' L' (2 * nd + 100) (need (xs.take (k' + 1))) (3 * k' + 2) (k' + 1)) := by
              by_cases hz : l = 0
              · refine ⟨1, .inr ⟨rfl, hz⟩, Lib.hid ((Append_bad wr U B p gd N V L st.ws a l cc (.inl (by omega))).mono ?_)⟩
                rintro e w' ⟨rfl, rfl⟩
                exact ⟨rfl, U, N, V, L, st.ws, st.be, st.fused, st.down, st.cln, st.room, by have := st.used; omega, by have := st.n; omega, by have := st.nx; omega⟩
              · refine ⟨0, .inl ⟨rfl, by omega⟩, Lib.hid ?_⟩
                rw [hl]
                refine (st_append st HBW.out a cc bs hsrc hby (by omega) (by omega) (by omega) (by omega) (by omega) (by omega)).mono ?_
                rintro e w' ⟨rfl, U', V', L', s2⟩
                exact ⟨rfl, U', _, V', L', s2.ws, s2.be, s2.fused, s2.down, s2.cln, s2.room, by have := s2.used; omega, by have := s2.n; have := st.n; omega, by have := s2.nx; omega⟩
            have HK2 := Lib.hid hkn
            rw [← hl] at hc
            have HC := Lib.hid hc
            replace hc := hc wr st.be
            clear hsrc hby hx ns nm st hl hk hkn
            rcases her with ⟨rfl, hp⟩ | ⟨rfl, rfl⟩
            all_goals
              by_cases hkm : k' < m
              · have hkm' : (k' : Int) < (m : Int) := by omega
                obtain ⟨tb, toff, t, ha, ht, hct⟩ := TR.out k' hkm
                subst ha
                have HCT := Lib.hid hct
                clear hct
                go_upto_region 22 with (go_at_call 7; refine (AP.out).mono ?_; rintro e w2 ⟨rfl, U, N, V, L, st⟩; have hc2 := HC.out w2 st.be)
                obtain ⟨F, hF⟩ : ∃ F, F = L.first := ⟨_, rfl⟩
                obtain ⟨D, hD⟩ : ∃ D, D = L.es.length := ⟨_, rfl⟩
                obtain ⟨X, hX⟩ : ∃ X, X = L.nx := ⟨_, rfl⟩
                have hXD : X = F + D := by rw [hX, hF, hD]; rfl
                obtain ⟨E, hE⟩ : ∃ E, E = D + 1 := ⟨_, rfl⟩
                have hFD : F + D ≤ k' + 1 := by have := st.nx; omega
                have F8 : Hid (∀ y, Below w2.heap.size w2 y → Calls Tryd.prog 8 #[.pointer (some ⟨p, 0, none⟩)] y fun e y' => e = .returned (.int .i64 (F : Nat)) ∧ Below w2.heap.size w2 y') := Lib.hid fun y hy => by
                  refine (ws_first8 (st.below HBW.out hy).ws).mono ?_
                  rintro e y' ⟨rfl, b⟩
                  exact ⟨by rw [hF], hy.trans (b.mono hy.size)⟩
                have N9 : Hid (∀ y, Below w2.heap.size w2 y → Calls Tryd.prog 9 #[.pointer (some ⟨p, 0, none⟩)] y fun e y' => e = .returned (.int .i64 (X : Nat)) ∧ Below w2.heap.size w2 y') := Lib.hid fun y hy => by
                  refine (ws_next (st.below HBW.out hy).ws (by unfold Sm; omega)).mono ?_
                  rintro e y' ⟨rfl, b⟩
                  exact ⟨by rw [hX], hy.trans (b.mono hy.size)⟩
                have CT : Hid (∀ y, Below w2.heap.size w2 y → y.cell? ⟨tb, toff + k', none⟩ = some (.int .u8 (t : Nat))) := Lib.hid fun y hy => HCT.out y (st.below HBW.out hy).be
                obtain ⟨r, hr⟩ : ∃ r, r = t % E := ⟨_, rfl⟩
                obtain ⟨M, hM⟩ : ∃ M, M = F + r := ⟨_, rfl⟩
                have hrD : r ≤ D := by have := Nat.mod_lt t (show 0 < E by omega); omega
                have TM : Hid (∀ y, Below w2.heap.size w2 y → Calls Tryd.prog 10 #[.pointer (some ⟨p, 0, none⟩), (.int .i64 (M : Nat))] y fun e w' => e = .returned (.int .i64 0) ∧ ∃ U' V', St W w' U' B p gd (N + 1) V' (L.trim M) (2 * nd + 100) (need (xs.take (k' + 1))) (3 * k' + 2 + 1) (k' + 1)) := Lib.hid fun y hy => st_trim (st.below HBW.out hy) HBW.out M (by omega) (by omega) (by have := NL.out; have := NM.out (k' + 1) (by omega); have := HND.out; omega) (by omega) (by omega)
                have q1 : IntKind.i64.wrap ((X : Int) - (F : Nat)) = (D : Int) := by rw [IntKind.wrap_i64]; omega
                have q2 : IntKind.i64.wrap ((D : Int) + 1) = (E : Int) := by rw [IntKind.wrap_i64]; omega
                have q3 : Int.tmod (t : Int) (E : Int) = (r : Int) := by rw [hr]; rfl
                have q3' : IntKind.i64.wrap (r : Int) = (r : Int) := by rw [IntKind.wrap_i64]; omega
                have q4 : IntKind.i64.wrap ((F : Int) + (r : Nat)) = (M : Int) := by rw [IntKind.wrap_i64]; omega
                have q6 : ¬ (E : Int) = 0 := by omega
                have q7 : ((E : Int) == 0) = false := by simp; omega
                have q8 : ¬ E = 0 := by omega
                have q5 : IntKind.i64.wrap (t : Int) = (t : Int) := by rw [IntKind.wrap_i64]; omega
                have b0 : Below w2.heap.size w2 w2.drew := ⟨rfl, rfl, rfl, Nat.le_refl _, fun _ _ => rfl⟩
                clear st hF hD hX hXD hE hr hM hrD hFD
                go_region_held (fun y => y.cell? ⟨tb, toff + k', none⟩ = some (.int .u8 (t : Nat)))
                  (first | exact CT.out _ (by assumption))
                  (first | (go_at_call 8; refine (F8.out _ (by assumption)).mono ?_; rintro e y8 ⟨rfl, hy8⟩) | (go_at_call 9; refine (N9.out _ (by assumption)).mono ?_; rintro e y9 ⟨rfl, hy9⟩))
                have F9 : Hid (∀ w4 U2 V2, St W w4 U2 B p gd (N + 1) V2 (L.trim M) (2 * nd + 100) (need (xs.take (k' + 1))) (3 * k' + 2 + 1) (k' + 1) → Calls Tryd.prog 8 #[.pointer (some ⟨p, 0, none⟩)] w4 fun e w5 => e = .returned (.int .i64 (M : Nat)) ∧ St W w5 U2 B p gd (N + 1) V2 (L.trim M) (2 * nd + 100) (need (xs.take (k' + 1))) (3 * k' + 2 + 1) (k' + 1)) := Lib.hid fun w4 U2 V2 s => by
                  refine (ws_first8 s.ws).mono ?_
                  rintro e w5 ⟨rfl, b⟩
                  exact ⟨rfl, s.below HBW.out b⟩
                go_wp2_with (first | (go_at_call 10; refine (TM.out _ (by assumption)).mono ?_; rintro e w4 ⟨rfl, U2, V2, s4⟩) | (go_at_call 8; refine (F9.out _ _ _ s4).mono ?_; rintro e w5 ⟨rfl, s5⟩))
                have ST := Lib.hid s5
                clear s4 s5
                go_roundw
                case rel => exact ⟨k' + 1, U2, N + 1, V2, L.trim M, by have := HK2.out; omega, by go_num, ST.out.ws, ST.out.be, ST.out.fused, ST.out.down, ST.out.cln, ST.out.room, ST.out.used, by have := ST.out.n; omega, ST.out.nx⟩
                case measure => have := HK2.out; simp [intOf]; omega
              · go_wp2_with (go_at_call 7; refine (AP.out).mono ?_; rintro e w2 ⟨rfl, U, N, V, L, st⟩; have hc2 := HC.out w2 st.be)
                have ST := Lib.hid st
                clear st
                go_roundw
                case rel => exact ⟨k' + 1, U, N, V, L, by have := HK2.out; omega, by go_num, ST.out.ws, ST.out.be, ST.out.fused, ST.out.down, ST.out.cln, ST.out.room, ST.out.used, by have := ST.out.n; omega, ST.out.nx⟩
                case measure => have := HK2.out; simp [intOf]; omega
          · obtain rfl : k' = k := by omega
            have hkk2 : ¬ (k' : Int) < (k' : Int) := by omega
            have E := Lib.hid st.be
            clear st hkn
            go_wp2_with fail
            go_ret
            exact ⟨rfl, E.out⟩
end Vh
end Go.Proofs.YtdaknlmnelfedaaDoor
