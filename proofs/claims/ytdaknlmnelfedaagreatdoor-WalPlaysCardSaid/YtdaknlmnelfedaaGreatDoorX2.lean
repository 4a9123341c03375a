/- The law's test that two logs are the same. -/
import Derived.Test.YtdaknlmnelfedaaGreatDoorX1
namespace Go.Proofs.YtdaknlmnelfedaaGreatDoor
open Go.RowKit Go.Maps Go.ChangeMaps Go.MapKept
namespace X2
open Jb Jm Jd Jw Jx Jn Je Jf Jg Jh Jk Jc Jl Jo Jq Jr J1 J2 J3 J4 W1 W2 W3 V1 V2 V3 V4 V5 V6 V7 V8 V9 Va Vb Vc Vd Ve Vf Vg X1

theorem lg_ext {L R : Lg} (h1 : L.first = R.first) (h2 : ∀ j : Nat, L.es[j]? = R.es[j]?) : L = R := by
  cases L; cases R
  simp only [Lg.mk.injEq]
  exact ⟨h1, List.ext_getElem? h2⟩
set_option maxRecDepth 100000 in
set_option maxHeartbeats 4000000 in
theorem same15 (w : World) (U : Nat → Prop) (B p g N : Nat) (V : Vw) (L : Lg) (ov : Bool) (h : WS w U B p g N V L ov) (hs : Sm L.nx) (D : Nat → Prop) (q : Nat) (R : Lg) (rov : Bool) (hr : RL w D q R rov) (hD : ∀ k, D k → k < w.heap.size) (hsr : Sm R.nx) :
    Calls Tryz.prog 15 #[.pointer (some ⟨p, 0, none⟩), .pointer (some ⟨q, 0, none⟩)] w fun e w' => ∃ b : Bool, e = .returned (.bool b) ∧ (b = true ↔ L = R) ∧ Below w.heap.size w w' := by
  have RB : Hid (∀ y, Below w.heap.size w y → RL y D q R rov) := Lib.hid fun y hy => hr.move (fun _ hk => hk) fun k hk => hy.block k (hD k hk)
  have WB : Hid (∀ y, Below w.heap.size w y → WS y U B p g N V L ov) := Lib.hid fun y hy => h.below hy
  have F26 : Hid (∀ y, Below w.heap.size w y → Calls Tryz.prog 26 #[.pointer (some ⟨p, 0, none⟩)] y fun e y' => e = .returned (.int .i64 (L.first : Nat)) ∧ Below w.heap.size w y') := Lib.hid fun y hy => by
    refine (ws_first8 (WB.out y hy)).mono ?_
    rintro e y' ⟨rfl, b⟩
    exact ⟨rfl, hy.trans (b.mono hy.size)⟩
  have FQ : Hid (∀ y, Below w.heap.size w y → Calls Tryz.prog 26 #[.pointer (some ⟨p, 0, none⟩)] y fun e y' => e = .returned (.int .i64 (L.first : Nat)) ∧ y' = y) := Lib.hid fun y hy => by
    obtain ⟨S, T, k1, k2, _⟩ := (WB.out y hy).ex
    exact first8 y T p g L ov k2
  have N18 : Hid (∀ y, Below w.heap.size w y → Calls Tryz.prog 18 #[.pointer (some ⟨p, 0, none⟩)] y fun e y' => e = .returned (.int .i64 (L.nx : Nat)) ∧ Below w.heap.size w y') := Lib.hid fun y hy => by
    refine (ws_next (WB.out y hy) hs).mono ?_
    rintro e y' ⟨rfl, b⟩
    exact ⟨rfl, hy.trans (b.mono hy.size)⟩
  have N27 : Hid (∀ y, Below w.heap.size w y → Calls Tryz.prog 27 #[.pointer (some ⟨q, 0, none⟩)] y fun e y' => e = .returned (.int .i64 (R.nx : Nat)) ∧ Below w.heap.size w y') := Lib.hid fun y hy => by
    refine (rnext27 y D q R rov (RB.out y hy) hsr).mono ?_
    rintro e y' ⟨rfl, b⟩
    exact ⟨rfl, hy.trans (b.mono hy.size)⟩
  have RC : Hid (∀ y, Below w.heap.size w y → y.cell? ⟨q, 0, none⟩ = some (.int .i64 (R.first : Nat))) := Lib.hid fun y hy => (RB.out y hy).c0
  have G28 : Hid (∀ y k bs, Below w.heap.size w y → L.es[k]? = some bs → Calls Tryz.prog 28 #[.pointer (some ⟨p, 0, none⟩), .int .i64 (L.first + k : Nat)] y fun e y' => ∃ a c, e = .returned (.tuple #[.slice a bs.length c, .int .i64 0]) ∧ Src y' (fun k => y.heap.size ≤ k ∧ k < y'.heap.size) (.slice a bs.length c) bs ∧ Below y.heap.size y y') := Lib.hid fun y k bs hy hk => by
    refine (get_in y U B p g N V L ov (WB.out y hy) hs k bs hk).mono ?_
    rintro e y' ⟨a, c, rfl, s, b⟩
    refine ⟨a, c, rfl, ?_, b⟩
    rcases s with s | ⟨s0, b1, off, c1, s1, s2, s3, s4⟩
    · exact .inl s
    · exact .inr ⟨s0, b1, off, c1, s1, s2, ⟨s3, by have := cell_lt (s4 0 s0); exact this⟩, s4⟩
  have G29 : Hid (∀ y k bs, Below w.heap.size w y → R.es[k]? = some bs → Calls Tryz.prog 29 #[.pointer (some ⟨q, 0, none⟩), .int .i64 (R.first + k : Nat)] y fun e y' => ∃ a c, e = .returned (.tuple #[.slice a bs.length c, .int .i64 0]) ∧ Src y' D (.slice a bs.length c) bs ∧ Below y.heap.size y y') := Lib.hid fun y k bs hy hk => by
    refine (rget_in y D q R rov (RB.out y hy) hsr k bs hk).mono ?_
    rintro e y' ⟨a, c, rfl, s, b⟩
    exact ⟨a, c, rfl, s, b⟩
  have O28 : Hid (∀ y n, Below w.heap.size w y → (n < (L.first : Int) ∨ (L.nx : Int) ≤ n) → -9223372036854775808 ≤ n ∧ n ≤ 9223372036854775807 → Calls Tryz.prog 28 #[.pointer (some ⟨p, 0, none⟩), .int .i64 n] y fun e y' => e = .returned (.tuple #[.slice none 0 0, .int .i64 3]) ∧ Below w.heap.size w y') := Lib.hid fun y n hy hn hb => by
    refine (get_out y U B p g N V L ov (WB.out y hy) hs n hn hb).mono ?_
    rintro e y' ⟨rfl, b⟩
    exact ⟨rfl, hy.trans (b.mono hy.size)⟩
  have BY : Hid ((∀ b ∈ L.es, ∀ x ∈ b, x < 256) ∧ ∀ b ∈ R.es, ∀ x ∈ b, x < 256) := Lib.hid (by
    obtain ⟨S, T, k1, k2, _⟩ := h.ex
    exact ⟨k2.byte, hr.byte⟩)
  have b0 : Below w.heap.size w w.drew := ⟨rfl, rfl, rfl, Nat.le_refl _, fun _ _ => rfl⟩
  have kX := RC.out _ b0
  obtain ⟨F, hF⟩ : ∃ F, F = L.first := ⟨_, rfl⟩
  obtain ⟨X, hX⟩ : ∃ X, X = L.nx := ⟨_, rfl⟩
  obtain ⟨Y, hY⟩ : ∃ Y, Y = R.nx := ⟨_, rfl⟩
  have SX : Hid (Sm X ∧ Sm Y) := Lib.hid ⟨by rw [hX]; exact hs, by rw [hY]; exact hsr⟩
  clear h hr hD hs hsr
  by_cases hf : L.first = R.first
  · have hx1 : ((F : Int) == (F : Int)) = true := by simp
    rw [← hf, ← hF] at RC kX
    rw [← hF] at F26
    rw [← hX] at N18
    rw [← hY] at N27
    by_cases hxy : X = Y
    · subst hxy
      obtain ⟨n, hn⟩ : ∃ n, n = L.es.length := ⟨_, rfl⟩
      have hXn : X = F + n := by rw [hX, hF, hn]; rfl
      have hRn : R.es.length = n := by unfold Lg.nx at hX hY; omega
      have nb : F + n ≤ 1000000000000000000 := by have := SX.out.1; unfold Sm at this; omega
      have LE : Hid (∀ k, k < n → ∃ b1 b2, L.es[k]? = some b1 ∧ R.es[k]? = some b2) := Lib.hid fun k hk =>
        ⟨L.es[k], R.es[k], List.getElem?_eq_getElem (by omega), List.getElem?_eq_getElem (by omega)⟩
      have EX : Hid ((∀ j, j < n → L.es[j]? = R.es[j]?) → L = R) := Lib.hid fun hh => lg_ext hf fun j => by
        by_cases hj : j < n
        · exact hh j hj
        · rw [List.getElem?_eq_none (by omega), List.getElem?_eq_none (by omega)]
      rw [← hf, ← hF] at G29
      rw [← hF] at G28 O28
      rw [← hX] at O28
      clear hf hF hX hY hRn hn
      subst hXn
      go_enter Tryz.func15, Tryz.ntmps15
      go_upto_region 1 with (fail)
      go_region_held (fun y : World => y.cell? ⟨q, 0, none⟩ = some (.int .i64 (F : Nat)))
        (first | exact kX | exact RC.out _ (by assumption))
        (first | (go_at_call 26; refine (F26.out _ (by assumption)).mono ?_; rintro e y1 ⟨rfl, hy1⟩) | (go_at_call 18; refine (N18.out _ (by assumption)).mono ?_; rintro e y2 ⟨rfl, hy2⟩) | (go_at_call 27; refine (N27.out _ (by assumption)).mono ?_; rintro e y3 ⟨rfl, hy3⟩))
      have kY := RC.out y3 hy3
      have HY := Lib.hid hy3
      clear hy1 hy2
      go_wp2_with fail
      go_loopw [5, 6, 7, 8, 9] (fun i _ _ _ _ wr => ∃ k, k ≤ n ∧ i = .int .i64 (F + k : Nat) ∧ (∀ j, j < k → L.es[j]? = R.es[j]?) ∧ Below w.heap.size w wr) (fun i _ _ _ _ _ => F + n - (intOf i).toNat)
      case atStart => exact ⟨0, Nat.zero_le _, rfl, fun j hj => by omega, HY.out⟩
      case round =>
        obtain ⟨k, hk, rfl, hall, hb⟩ := hrel
        have HA := Lib.hid hall
        have HBB := Lib.hid hb
        have NN := Lib.hid (N27.out wr hb)
        by_cases hkn : k < n
        · obtain ⟨b1, b2, l1, l2⟩ := LE.out k hkn
          have G1 := Lib.hid (fun y hy => G28.out y k b1 hy l1)
          have G2 := Lib.hid (fun y hy => G29.out y k b2 hy l2)
          have HK := Lib.hid hkn
          have HL := Lib.hid (And.intro l1 l2)
          obtain ⟨m1, hm1⟩ : ∃ m, m = b1.length := ⟨_, rfl⟩
          obtain ⟨m2, hm2⟩ : ∃ m, m = b2.length := ⟨_, rfl⟩
          have hkn' : ((F + k : Nat) : Int) < ((F + n : Nat) : Int) := by omega
          have hkn2 : F + k < F + n := by omega
          by_cases hbb : b1 = b2
          · subst hbb
            have sb : ((str b1).toList == (str b1).toList) = true := by simp
            clear hall hb hkn l1 l2 hm1 hm2
            go_wp2_with (first | (go_at_call 27; refine (NN.out).mono ?_; rintro e y4 ⟨rfl, hy4⟩) | (go_at_call 28; refine (G1.out _ (by assumption)).mono ?_; rintro e y5 ⟨a1, c1, rfl, s1, hz5⟩; have cv1 := conv_src s1; have hy5 := hy4.trans (hz5.mono hy4.size)) | (go_at_call 29; refine (G2.out _ (by assumption)).mono ?_; rintro e y6 ⟨a2, c2, rfl, s2, hz6⟩; have cv2 := conv_src s2; have cv1 := conv_src (s1.below hz6 fun k hk => hk.2); have hy6 := hy5.trans (hz6.mono hy5.size)))
            go_roundw
            case rel =>
              refine ⟨k + 1, by have := HK.out; omega, by go_num, fun j hj => ?_, by assumption⟩
              by_cases e : j = k
              · rw [e, HL.out.1, HL.out.2]
              · exact HA.out j (by omega)
            case measure => have := HK.out; simp [intOf]; omega
          · have sb : ((str b1).toList == (str b2).toList) = false := beq_no fun e => hbb (str_inj (BY.out.1 _ (List.mem_of_getElem? l1)) (BY.out.2 _ (List.mem_of_getElem? l2)) e)
            have NE : Hid (¬ L = R) := Lib.hid fun e => hbb (by rw [e, l2] at l1; injection l1 with l1; exact l1.symm)
            clear hall hb hkn l1 l2 hm1 hm2
            go_wp2_with (first | (go_at_call 27; refine (NN.out).mono ?_; rintro e y4 ⟨rfl, hy4⟩) | (go_at_call 28; refine (G1.out _ (by assumption)).mono ?_; rintro e y5 ⟨a1, c1, rfl, s1, hz5⟩; have cv1 := conv_src s1; have hy5 := hy4.trans (hz5.mono hy4.size)) | (go_at_call 29; refine (G2.out _ (by assumption)).mono ?_; rintro e y6 ⟨a2, c2, rfl, s2, hz6⟩; have cv2 := conv_src s2; have cv1 := conv_src (s1.below hz6 fun k hk => hk.2); have hy6 := hy5.trans (hz6.mono hy5.size)))
            go_ret
            exact ⟨false, by simp, by simp [NE.out], by assumption⟩
        · obtain rfl : k = n := by omega
          have hkk : ¬ ((F + k : Nat) : Int) < ((F + k : Nat) : Int) := by omega
          have hkk2 : ¬ F + k < F + k := by omega
          have EQ := Lib.hid (EX.out hall)
          have O1 : Hid (∀ y, Below w.heap.size w y → Calls Tryz.prog 28 #[.pointer (some ⟨p, 0, none⟩), .int .i64 ((F : Int) - 1)] y _) := Lib.hid fun y hy => O28.out y ((F : Int) - 1) hy (.inl (by omega)) (by omega)
          have O2 : Hid (∀ y, Below w.heap.size w y → Calls Tryz.prog 28 #[.pointer (some ⟨p, 0, none⟩), .int .i64 (F + k : Nat)] y _) := Lib.hid fun y hy => O28.out y ((F + k : Nat) : Int) hy (.inr (by omega)) (by omega)
          have N27b := N27
          clear hall hb hkn
          go_wp2_with (go_at_call 27; refine (NN.out).mono ?_; rintro e y4 ⟨rfl, hy4⟩; have cf := RC.out y4 hy4)
          go_wp2_with (go_at_call 28; refine (O1.out _ (by assumption)).mono ?_; rintro e y5 ⟨rfl, hy5⟩; have N5 := Lib.hid (N27.out y5 hy5))
          go_wp2_with (go_at_call 27; refine (N5.out).mono ?_; rintro e y6 ⟨rfl, hy6⟩)
          go_wp2_with (go_at_call 28; refine (O2.out _ (by assumption)).mono ?_; rintro e y7 ⟨rfl, hy7⟩)
          go_ret
          exact ⟨true, by simp, by simp [EQ.out], hy7⟩
    · have hne : ((X : Int) == (Y : Int)) = false := by simp; omega
      have NE : Hid (¬ L = R) := Lib.hid fun e => hxy (by rw [hX, hY, e])
      clear hf hF hX hY hxy
      go_enter Tryz.func15, Tryz.ntmps15
      go_upto_region 1 with (fail)
      go_region_held (fun y : World => y.cell? ⟨q, 0, none⟩ = some (.int .i64 (F : Nat)))
        (first | exact kX | exact RC.out _ (by assumption))
        (first | (go_at_call 26; refine (F26.out _ (by assumption)).mono ?_; rintro e y1 ⟨rfl, hy1⟩) | (go_at_call 18; refine (N18.out _ (by assumption)).mono ?_; rintro e y2 ⟨rfl, hy2⟩) | (go_at_call 27; refine (N27.out _ (by assumption)).mono ?_; rintro e y3 ⟨rfl, hy3⟩))
      go_wp2_with fail
      go_ret
      exact ⟨false, by simp, by simp [NE.out], by assumption⟩
  · obtain ⟨G, hG⟩ : ∃ G, G = R.first := ⟨_, rfl⟩
    have hd : decide ((F : Int) = (G : Int)) = false := decide_eq_false (by omega)
    have hne : ((F : Int) == (G : Int)) = false := by simp; omega
    have hn1 : ¬ F = G := by omega
    have hn2 : ((F : Int) != (G : Int)) = true := by simp [bne, hne]
    have NE : Hid (¬ L = R) := Lib.hid fun e => hf (by rw [e])
    rw [← hF] at F26
    rw [← hG] at RC kX
    have kW := RC.out _ (Below.refl _ w)
    clear hf hF hX hY hG
    go_enter Tryz.func15, Tryz.ntmps15
    go_upto_region 1 with (fail)
    first | (go_region_with (first | (go_at_call 26; refine (F26.out _ (by first | exact b0 | exact Below.refl _ _ | assumption)).mono ?_; rintro e y ⟨rfl, hy⟩; have kY := RC.out _ hy))) | fail "no"
    all_goals
      go_wp2_with fail
      go_ret
      exact ⟨false, by simp, by simp [NE.out], by assumption⟩
end X2
end Go.Proofs.YtdaknlmnelfedaaGreatDoor
