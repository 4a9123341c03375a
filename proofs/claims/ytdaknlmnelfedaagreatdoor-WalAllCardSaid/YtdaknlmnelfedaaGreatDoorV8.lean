/- The log's mark. -/
import Derived.Test.YtdaknlmnelfedaaGreatDoorV7
namespace Go.Proofs.YtdaknlmnelfedaaGreatDoor
open Go.RowKit Go.Maps Go.ChangeMaps Go.MapKept
namespace V8
open Jb Jm Jd Jw Jx Jn Je Jf Jg Jh Jk Jc Jl Jo Jq Jr J1 J2 J3 J4 W1 W2 W3 V1 V2 V3 V4 V5 V6 V7

theorem Lg.trim_self (L : Lg) : L.trim L.first = L := by unfold Lg.trim; simp
theorem cln_old {V : Vw} {L : Lg} (h : Cln V L) (hs : Sm L.nx) {n : Nat} (h2 : n ≤ L.nx) : old V (mrk n) = ([], 0) := by
  unfold old
  by_cases e : n = L.first
  · subst e
    rcases h.d.mrk with a | ⟨a, _⟩ <;> rw [a] <;> rfl
  · cases hf : V.F (mrk n) with
    | none => rfl
    | some b =>
      rcases h.dom (mrk n) (by rw [hf]; simp) with a | ⟨k, _, _, a⟩
      · exact absurd (mrk_inj (by unfold Sm at *; omega) (by unfold Sm Lg.nx at *; omega) a) e
      · exact absurd a mrk_ent
/-- What a mark leaves. -/
def Mk (V : Vw) (L : Lg) (n : Nat) (er : Nat) (V' : Vw) : Prop :=
  Kp V V' ∧ V'.used ≤ V.used ∧ ((er = 8 ∧ V.fused = true ∧ V'.down = true ∧ (Dirt V' L ∨ Dirt V' (L.trim n))) ∨ (er = 0 ∧ V'.down = false ∧ Cln V' (L.trim n)))
theorem mark_append (w : World) (U : Nat → Prop) (B p g N : Nat) (V : Vw) (L : Lg) (ov : Bool) (h : WS w U B p g N V L ov) (hc : Cln V L) (hd : V.down = false) (hs : Sm L.nx) (n : Nat) (h2 : n ≤ L.nx) (hN : N ≤ 140737488350000) (hB : V.used ≤ 140737488355328) :
    Calls Tryz.prog 48 #[.pointer (some ⟨g, 0, none⟩), .string (mrk n), .slice none 0 0] w fun e w' => ∃ (m er : Nat) (V' : Vw), e = .returned (.tuple #[.int .i64 (m : Nat), .int .i64 (er : Nat)]) ∧ WS w' (New U w w') B p g (N + 1) V' L ov ∧ Chg w w' U ∧ Kp V V' ∧ V'.used = V.used ∧
      ((er = 8 ∧ V.fused = true ∧ V'.down = true ∧ V'.F = V.F) ∨ (er = 0 ∧ V'.down = false ∧ ∀ x, V'.F x = if x = mrk n then some ([], 0) else V.F x)) := by
  obtain ⟨S, T, h1, h3, h4, h5, h6⟩ := h.ex
  refine (append_v w S g N V h1 h.uok (mrk n) (isNm_mrk (by unfold Sm at *; omega)) hd (fun _ => False) (fun _ e => e.elim) (.slice none 0 0) [] (.inl ⟨rfl, _, _, rfl⟩) (fun c e => by cases e; rfl) (fun x hx => by cases hx) (by omega) (by simpa using hB)).mono ?_
  rintro e w' ⟨m, er, V', rfl, k1, k2, k3, k4, k5⟩
  obtain ⟨a, b⟩ := h.disk h3 h4 h5 h6 k1 k2 k3
  have ho := cln_old hc hs h2
  rcases k5 with ⟨r, l⟩ | ⟨r, _, ⟨_, l⟩, _⟩ | ⟨r, l1, l2, l3⟩
  · exact ⟨m, er, V', rfl, a, b, k4, l.used, .inl ⟨r, l.fused, l.down, l.F⟩⟩
  · exact absurd l (by simp)
  · refine ⟨m, er, V', rfl, a, b, k4, by simpa using l2, .inr ⟨r, l1, fun x => ?_⟩⟩
    rw [l3, ho]
    rfl
theorem ws_first {w : World} {U : Nat → Prop} {B p g N : Nat} {V : Vw} {L : Lg} {ov : Bool} (h : WS w U B p g N V L ov) : w.cell? ⟨p, 1, none⟩ = some (.int .i64 (L.first : Nat)) := by
  obtain ⟨S, T, h1, h2, h3, h4, h5⟩ := h.ex
  exact h2.c1
set_option maxRecDepth 100000 in
theorem mark20 (w : World) (U : Nat → Prop) (B p g N : Nat) (V : Vw) (L : Lg) (ov : Bool) (h : WS w U B p g N V L ov) (hc : Cln V L) (hd : V.down = false) (hs : Sm L.nx) (n : Nat) (h1 : L.first ≤ n) (h2 : n ≤ L.nx) (hN : N ≤ 140737488350000) (hB : V.used ≤ 140737488355328) :
    Calls Tryz.prog 38 #[.pointer (some ⟨p, 0, none⟩), .int .i64 (n : Nat)] w fun e w' => ∃ (er : Nat) (V' : Vw), e = .returned (.int .i64 (er : Nat)) ∧ WS w' (New U w w') B p g (N + 1) V' L ov ∧ Chg w w' U ∧ Mk V L n er V' := by
  have sm : ∀ k, k ≤ L.nx → Sm k := fun k hk => by unfold Sm at *; omega
  have MK1 : Hid (∀ x, Below w.heap.size w x → Calls Tryz.prog 52 #[.int .i64 (n : Nat)] x _) := Lib.hid fun x hx => mrk34 x (h.below hx).en.tab n (sm n h2)
  have AP1 : Hid (∀ x, Below w.heap.size w x → Calls Tryz.prog 48 #[.pointer (some ⟨g, 0, none⟩), .string (mrk n), .slice none 0 0] x _) := Lib.hid fun x hx => mark_append x U B p g N V L ov (h.below hx) hc hd hs n h2 hN hB
  have CD1 : Hid (∀ x, Below w.heap.size w x → x.cell? ⟨p, 0, none⟩ = some (.pointer (some ⟨g, 0, none⟩))) := Lib.hid fun x hx => disk_call (h.below hx)
  -- what is behind the mark
  have MV : Hid (∀ x w1 V1, Below w.heap.size w x → WS w1 (New U x w1) B p g (N + 1) V1 L ov → Chg x w1 U → WS w1 (New U w w1) B p g (N + 1) V1 L ov ∧ Chg w w1 U) := Lib.hid fun x w1 V1 hx k1 k2 => by
    have cx : Chg w x U := (Chg.of_below hx (Nat.le_refl _) U)
    refine ⟨?_, cx.trans k2 fun k hk _ => hk⟩
    obtain ⟨S, T, q1, q2, q3, q4, q5⟩ := k1.ex
    have hz := hx.size
    have hz2 := k2.size
    have up : ∀ k, New U x w1 k → New U w w1 k := fun k hk => hk.imp id fun e => ⟨by omega, e.2⟩
    have hB' := h.en.hi
    exact ⟨⟨S, T, q1, q2, q3, fun k hk => up k (q4 k hk), fun k hk => up k (q5 k hk)⟩, k1.uok, k1.en, fun k hk => hk.elim (h.ge k) (fun e => by omega), fun k hk => hk.elim (fun e => by have := h.lt k e; omega) (fun e => e.2)⟩
  have E0 : Hid (∀ x w1 V1, Below w.heap.size w x → WS w1 (New U x w1) B p g (N + 1) V1 L ov → Chg x w1 U → Kp V V1 → V1.used = V.used → V.fused = true → V1.down = true → V1.F = V.F → WS w1 (New U w w1) B p g (N + 1) V1 L ov ∧ Chg w w1 U ∧ Mk V L n 8 V1) := Lib.hid fun x w1 V1 hx k1 k2 k3 k4 k5 k6 k7 => by
    obtain ⟨a, b⟩ := MV.out x w1 V1 hx k1 k2
    exact ⟨a, b, k3, by omega, .inl ⟨rfl, k5, k6, .inl (hc.d.same fun s _ => by rw [k7])⟩⟩
  have E1 : Hid (n = L.first → ∀ x w1 V1, Below w.heap.size w x → WS w1 (New U x w1) B p g (N + 1) V1 L ov → Chg x w1 U → Kp V V1 → V1.used = V.used → V1.down = false → (∀ x, V1.F x = if x = mrk n then some ([], 0) else V.F x) → WS w1 (New U w w1) B p g (N + 1) V1 L ov ∧ Chg w w1 U ∧ Mk V L n 0 V1) := Lib.hid fun hn x w1 V1 hx k1 k2 k3 k4 k5 k6 => by
    obtain ⟨a, b⟩ := MV.out x w1 V1 hx k1 k2
    refine ⟨a, b, k3, by omega, .inr ⟨rfl, k5, ?_⟩⟩
    rw [hn, Lg.trim_self]
    rw [hn] at k6
    exact hc.mark k6
  -- a round's state
  have H0 : Hid (∀ x w1 V1, Below w.heap.size w x → WS w1 (New U x w1) B p g (N + 1) V1 L ov → Chg x w1 U → Kp V V1 → V1.used = V.used → V1.down = false → (∀ x, V1.F x = if x = mrk n then some ([], 0) else V.F x) → WS w1 (New U w w1) B p g (N + 1) V1 L ov ∧ Chg w w1 U ∧ Kp V V1 ∧ V1.used ≤ V.used ∧ V1.down = false ∧ Half V1 L n L.first) := Lib.hid fun x w1 V1 hx k1 k2 k3 k4 k5 k6 => by
    obtain ⟨a, b⟩ := MV.out x w1 V1 hx k1 k2
    exact ⟨a, b, k3, by omega, k5, hc.half h1 h2 k6⟩
  have NM : Hid (∀ i x V1, i < n → WS x (New U w x) B p g (N + 1) V1 L ov → Calls Tryz.prog 44 #[.int .i64 (i : Nat)] x _) := Lib.hid fun i x V1 hi k => ent26 x k.en.tab i (sm i (by omega))
  have NM2 : Hid (∀ x V1, WS x (New U w x) B p g (N + 1) V1 L ov → Calls Tryz.prog 52 #[.int .i64 (L.first : Nat)] x _) := Lib.hid fun x V1 k => mrk34 x k.en.tab L.first (sm _ (by unfold Lg.nx; omega))
  have RM : Hid (∀ s, s.size ≤ 64 → ∀ x V1, WS x (New U w x) B p g (N + 1) V1 L ov → Calls Tryz.prog 47 #[.pointer (some ⟨p, 0, none⟩), .string s] x _) := Lib.hid fun s hs' x V1 k => remove29 x (New U w x) B p g (N + 1) V1 L ov k s hs'
  have SZ : Hid (∀ i, i < n → (ent i).size ≤ 64) := Lib.hid fun i hi => by have := size_ent (sm i (by omega)); omega
  have SZ2 : Hid ((mrk L.first).size ≤ 64) := Lib.hid (by have := size_mrk (sm L.first (by unfold Lg.nx; omega)); omega)
  have HHF : Hid (L.first < n → ∀ V1 V2, Half V1 L n n → V1.down = false → Kp V V1 → V1.used ≤ V.used → ∀ er, Rem V1 (mrk L.first) er V2 → Mk V L n er V2) := Lib.hid fun hlt V1 V2 k1 k2 k3 k4 er k5 => by
    obtain ⟨c1, ⟨rfl, c2, c3, c4, c5⟩ | ⟨rfl, c2, c3, c4, c5⟩⟩ := k5
    · refine ⟨k3.trans c1, by omega, .inl ⟨rfl, ?_, c2, .inr (k1.d.same fun s _ => by rw [c4])⟩⟩
      rcases c3 with c3 | c3
      · rw [k2] at c3; cases c3
      · rw [← k3.fused]; exact c3
    · exact ⟨k3.trans c1, by omega, .inr ⟨rfl, c3, k1.done hs hlt h2 c5⟩⟩
  have HRD : Hid (∀ i, i < n → ∀ V1 V2, Half V1 L n i → V1.down = false → Kp V V1 → V1.used ≤ V.used → ∀ er, Rem V1 (ent i) er V2 → (er = 8 ∧ Mk V L n 8 V2) ∨ (er = 0 ∧ Half V2 L n (i + 1) ∧ V2.down = false ∧ Kp V V2 ∧ V2.used ≤ V.used)) := Lib.hid fun i hi V1 V2 k1 k2 k3 k4 er k5 => by
    obtain ⟨c1, ⟨rfl, c2, c3, c4, c5⟩ | ⟨rfl, c2, c3, c4, c5⟩⟩ := k5
    · refine .inl ⟨rfl, k3.trans c1, by omega, .inl ⟨rfl, ?_, c2, .inr (k1.d.same fun s _ => by rw [c4])⟩⟩
      rcases c3 with c3 | c3
      · rw [k2] at c3; cases c3
      · rw [← k3.fused]; exact c3
    · exact .inr ⟨rfl, k1.ent hs h1 h2 hi c5, c3, k3.trans c1, by omega⟩
  have MX : Hid (∀ wr x V1, WS wr (New U w wr) B p g (N + 1) V1 L ov → Chg w wr U → Below wr.heap.size wr x → WS x (New U w x) B p g (N + 1) V1 L ov ∧ Chg w x U) := Lib.hid fun wr x V1 k c hx =>
    ⟨((k.below hx).new (w := wr) (by have := k.en.hi; omega)).two c.size hx.size, c.trans (Chg.of_below hx (Nat.le_refl _) (fun _ => False)) fun k hk => hk.elim⟩
  obtain ⟨F, hF⟩ : ∃ F, F = L.first := ⟨_, rfl⟩
  have FR : Hid (∀ x V1, WS x (New U w x) B p g (N + 1) V1 L ov → x.cell? ⟨p, 1, none⟩ = some (.int .i64 (F : Nat))) := Lib.hid fun x V1 k => by rw [hF]; exact ws_first k
  have fsm : F ≤ 1000000000000000000 := by rw [hF]; exact sm _ (by unfold Lg.nx; omega)
  have nsm : n ≤ 1000000000000000000 := sm n h2
  have F1 : Hid (∀ x w1 V1, Below w.heap.size w x → WS w1 (New U x w1) B p g (N + 1) V1 L ov → Chg x w1 U → w1.cell? ⟨p, 1, none⟩ = some (.int .i64 (F : Nat))) := Lib.hid fun x w1 V1 hx k1 k2 => FR.out w1 V1 (MV.out x w1 V1 hx k1 k2).1
  have H1 : F ≤ n := by rw [hF]; exact h1
  rw [← hF] at H0 NM2 SZ2 HHF E1
  have b0 : Below w.heap.size w w.drew := ⟨rfl, rfl, rfl, Nat.le_refl _, fun _ _ => rfl⟩
  have kX := CD1.out _ b0
  clear h hc hd hs h1 h2 hN hB sm hF
  go_enter Tryz.func38, Tryz.ntmps38
  go_upto_region 1 with (fail)
  go_region_held (fun x => x.cell? ⟨p, 0, none⟩ = some (.pointer (some ⟨g, 0, none⟩)))
    (first | exact kX | exact kY | exact kZ)
    (first | (go_at_call 52; refine (MK1.out _ b0).mono ?_; rintro e x1 ⟨rfl, hx1⟩; have b1 := b0.trans (hx1.mono b0.size); have kY := CD1.out x1 b1) | (go_at_call 48; refine (AP1.out _ b1).mono ?_; rintro e w1 ⟨m, er, V1, rfl, k1, k2, k3, k4, k5⟩; have kZ := disk_call k1; have f1 := F1.out x1 w1 V1 b1 k1 k2))
  rcases k5 with ⟨rfl, k5, k6, k7⟩ | ⟨rfl, k5, k6⟩
  · have K := Lib.hid (E0.out x1 w1 V1 b1 k1 k2 k3 k4 k5 k6 k7)
    clear k1 k2 k3 k4 k5 k6 k7
    go_wp2_with fail
    go_ret
    exact ⟨8, V1, rfl, K.out⟩
  · by_cases hnF : n = F
    · have K := Lib.hid (E1.out hnF x1 w1 V1 b1 k1 k2 k3 k4 k5 k6)
      clear k1 k2 k3 k4 k5 k6
      subst hnF
      go_wp2_with fail
      go_ret
      first | exact ⟨0, V1, rfl, K.out⟩ | exact ⟨0, rfl, V1, K.out⟩
    · have K := Lib.hid (H0.out x1 w1 V1 b1 k1 k2 k3 k4 k5 k6)
      have hneb : ((n : Int) == (F : Int)) = false := by simp; omega
      have HLT := Lib.hid (show F < n by omega)
      clear k1 k2 k3 k4 k5 k6 hnF H1
      go_wp2_with fail
      simp only [show ((0 : Nat) : Int) = 0 from rfl]
      go_loopw [7, 8] (fun i _ wr => ∃ k V2, k ≤ n ∧ i = .int .i64 (k : Nat) ∧ WS wr (New U w wr) B p g (N + 1) V2 L ov ∧ Chg w wr U ∧ Kp V V2 ∧ V2.used ≤ V.used ∧ V2.down = false ∧ Half V2 L n k) (fun i _ _ => n - (intOf i).toNat)
      case atStart => exact ⟨F, V1, Nat.le_of_lt HLT.out, rfl, K.out⟩
      case round =>
        obtain ⟨k, V2, hk, rfl, j1, j2, j3, j4, j5, j6⟩ := hrel
        by_cases hkn : k < n
        · have hkn' : (k : Int) < (n : Int) := by omega
          have J2 := Lib.hid j2
          have N1 := Lib.hid (NM.out k wr V2 hkn j1)
          have R1 := Lib.hid (fun x hx => RM.out (ent k) (SZ.out k hkn) x V2 (MX.out wr x V2 j1 j2 hx).1)
          have M1 := Lib.hid (fun x hx => (MX.out wr x V2 j1 j2 hx).2)
          have D1 := Lib.hid (HRD.out k hkn V2 · j6 j5 j3 j4)
          have HKN := Lib.hid hkn
          clear j1 j2 j3 j4 j5 j6 hkn
          go_wp2_with (first | (go_at_call 44; refine (N1.out).mono ?_; rintro e x2 ⟨rfl, hx2⟩) | (go_at_call 47; refine (R1.out x2 hx2).mono ?_; rintro e w3 ⟨er, V3, rfl, m1, m2, m3⟩; have c3 := Chg.U (M1.out x2 hx2) m2; have m4 := m1.two (M1.out x2 hx2).size m2.size; have M4 := Lib.hid m4; have C3 := Lib.hid c3; rcases D1.out V3 er m3 with ⟨rfl, d⟩ | ⟨rfl, d⟩ <;> (have D := Lib.hid d; clear d m1 m2 m3 m4 c3)))
          · go_ret
            exact ⟨8, V3, rfl, M4.out, C3.out, D.out⟩
          · go_roundw
            case rel => exact ⟨k + 1, V3, by have := HKN.out; omega, by go_num, M4.out, C3.out, D.out.2.2.1, D.out.2.2.2, D.out.2.1, D.out.1⟩
            case measure => have := HKN.out; simp [intOf]; omega
        · obtain rfl : k = n := by omega
          have f2 := FR.out wr V2 j1
          have N1 := Lib.hid (NM2.out wr V2 j1)
          have R1 := Lib.hid (fun x hx => RM.out (mrk F) SZ2.out x V2 (MX.out wr x V2 j1 j2 hx).1)
          have M1 := Lib.hid (fun x hx => (MX.out wr x V2 j1 j2 hx).2)
          have D1 := Lib.hid (HHF.out HLT.out V2 · j6 j5 j3 j4)
          have hkk : ¬ (k : Int) < (k : Int) := by omega
          clear j1 j2 j3 j4 j5 j6 hkn
          go_wp2_with (first | (go_at_call 52; refine (N1.out).mono ?_; rintro e x2 ⟨rfl, hx2⟩) | (go_at_call 47; refine (R1.out x2 hx2).mono ?_; rintro e w3 ⟨er, V3, rfl, m1, m2, m3⟩))
          go_ret
          exact ⟨er, V3, rfl, m1.two (M1.out x2 hx2).size m2.size, Chg.U (M1.out x2 hx2) m2, D1.out V3 er m3⟩
end V8
end Go.Proofs.YtdaknlmnelfedaaGreatDoor
