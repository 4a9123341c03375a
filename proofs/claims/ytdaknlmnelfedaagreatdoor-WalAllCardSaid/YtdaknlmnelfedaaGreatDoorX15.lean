/- The law WalAll: the walk. -/
import Derived.Test.YtdaknlmnelfedaaGreatDoorX14
namespace Go.Proofs.YtdaknlmnelfedaaGreatDoor
open Go.RowKit Go.Maps Go.ChangeMaps Go.MapKept
namespace X15
open Jb Jm Jd Jw Jx Jn Je Jf Jg Jh Jk Jc Jl Jo Jq Jr J1 J2 J3 J4 W1 W2 W3 V1 V2 V3 V4 V5 V6 V7 V8 V9 Va Vb Vc Vd Ve Vf Vg X1 X2 X3 X4 X5 X6 X7 X8 X9 X10 X11 X12 X13 X14

/-- A region's walk under one condition is one under a wider one. -/
theorem weak {P : Program} {md : Region.Mode} {ops : Array Oper} {Q : Exit → Act → World → Prop} {S S' : World → Prop} (f : ∀ w, S' w → S w) : ∀ (fuel : Nat) (listed : Array Bool) (a : Act) (w : World), wpAnyH P md ops Q S' fuel listed a w → wpAnyH P md ops Q S fuel listed a w
  | 0, _, _, _, h => h
  | fuel + 1, _, _, _, h => ⟨h.1, fun i hi => wpOp_mono (fun a' w' h' => ⟨f _ h'.1, weak f fuel _ a' w' h'.2⟩) (h.2 i hi)⟩
set_option maxRecDepth 100000 in
set_option maxHeartbeats 4000000 in
theorem all4 (W : World) (en : En W W.heap.size) (v0 : Value) (xs : List (List Nat)) (h0 : BL2 W v0 xs) (hby : ∀ x ∈ xs, ∀ y ∈ x, y < 256) (hl0 : xs.length ≤ 140737488355328)
    (a1 : Option Addr) (c1 : Nat) (bs : List Nat) (h1 : Src W (fun k => k < W.heap.size) (.slice a1 bs.length c1) bs) (hcap : a1 = none → c1 = 0) (hb1 : ∀ y ∈ bs, y < 256) (hl1 : bs.length ≤ 140737488355328)
    (a2 : Option Addr) (c2 : Nat) (ch : List Nat) (h2 : Src W (fun k => k < W.heap.size) (.slice a2 ch.length c2) ch) (hb2 : ∀ y ∈ ch, y < 256) (t : Nat) (ht : t < 256) :
    Calls Tryz.prog 4 #[v0, .slice a1 bs.length c1, .slice a2 ch.length c2, .int .u8 (t : Nat)] W fun e W' => e = .returned (.bool true) ∧ Below W.heap.size W W' := by
  obtain ⟨B, hB⟩ : ∃ B, B = W.heap.size := ⟨_, rfl⟩
  have HB := Lib.hid hB
  have AW : Hid (∀ w, Below B W w → Calls Tryz.prog 5 #[] w fun e w' => e = .returned (.bool true) ∧ Below B W w') := Lib.hid fun w hw => by
    have hz := hw.size
    refine (awake4 w ⟨(en.move hz fun k hk => hw.block k (by omega)).tab, (en.move hz fun k hk => hw.block k (by omega)).err, by have := en.lo; omega, Nat.le_refl _⟩).mono ?_
    rintro e w' ⟨rfl, b⟩
    exact ⟨rfl, hw.trans (b.mono (by omega))⟩
  have EN : Hid (∀ w, Below B W w → En w B) := Lib.hid fun w hw => by rw [hB]; exact en.move hw.size fun k hk => hw.block k (by omega)
  obtain ⟨n, hn⟩ : ∃ n, n = xs.length := ⟨_, rfl⟩
  obtain ⟨m, hm⟩ : ∃ m, m = bs.length := ⟨_, rfl⟩
  obtain ⟨l, hl⟩ : ∃ l, l = ch.length := ⟨_, rfl⟩
  have form0 : ∃ a c, v0 = .slice a n c := by
    rcases h0 with ⟨rfl, a, c, rfl⟩ | ⟨b, off, c, rfl, _⟩
    · exact ⟨a, c, by rw [hn]; rfl⟩
    · exact ⟨_, c, by rw [hn]⟩
  have b00 : Below B W W := Below.refl _ _
  have AW0 := Lib.hid (AW.out W b00)
  by_cases hbig : 8 < n ∨ 2000 < m
  · obtain ⟨a0, c0, rfl⟩ := form0
    rw [← hB, ← hm, ← hl]
    have dd : decide ((n : Int) > 8) = true ∨ (decide ((n : Int) > 8) = false ∧ decide ((m : Int) > 2000) = true) := by
      by_cases h : 8 < n
      · exact .inl (decide_eq_true (by omega))
      · exact .inr ⟨decide_eq_false (by omega), decide_eq_true (by omega)⟩
    clear h0 h1 hby hl0 hl1 en hn hm hl hB b00 hcap hb1 h2 hb2 ht hbig
    rcases dd with d1 | ⟨d1, d2⟩
    all_goals
      go_enter Tryz.func4, Tryz.ntmps4
      go_wp2_with (first | (go_at_call 5; refine (AW0.out).mono ?_; rintro e w1 ⟨rfl, b1⟩; have AW0 := Lib.hid (AW.out w1 b1)))
      go_ret
      exact ⟨rfl, b1⟩
  · have hn8 : n ≤ 8 := by omega
    have hm2 : m ≤ 2000 := by omega
    have d1 : decide ((n : Int) > 8) = false := decide_eq_false (by omega)
    have d2 : decide ((m : Int) > 2000) = false := decide_eq_false (by omega)
    obtain ⟨a0, c0, hv0⟩ := form0
    -- the arguments, in whatever world
    have AR : Hid (∀ k, k < n → ∃ b off a cc bs, a0 = some ⟨b, off, none⟩ ∧ xs[k]? = some bs ∧ (∀ w, Below B W w → w.cell? ⟨b, off + k, none⟩ = some (.slice a bs.length cc)) ∧ (∀ w, Below B W w → Src w (fun k => k < B) (.slice a bs.length cc) bs) ∧ (∀ y ∈ bs, y < 256) ∧ (a = none → cc = 0)) := Lib.hid fun k hk => by
      rcases h0 with ⟨rfl, _⟩ | ⟨b, off, c, rfl, hp, hb, hc⟩
      · simp at hn; omega
      · have hk' : k < xs.length := by omega
        obtain ⟨a, cc, q1, q2, q3⟩ := hc k hk'
        injection hv0 with hv0 _ _
        exact ⟨b, off, a, cc, xs[k], hv0.symm, List.getElem?_eq_getElem hk', fun w hw => (World.cell?_of_block (hw.block b (by omega))).trans q1, fun w hw => (q2.imp (R' := fun k => k < B) fun j hj => by omega).move fun j hj _ => hw.block j hj, hby _ (List.getElem_mem hk'), q3⟩
    have BR : Hid (∀ w, Below B W w → Src w (fun k => k < B) (.slice a1 m c1) bs) := Lib.hid fun w hw => by
      rw [hm]; exact (h1.imp (R' := fun k => k < B) fun j hj => by omega).move fun j hj _ => hw.block j hj
    have CR : Hid (∀ w, Below B W w → Src w (fun k => k < B) (.slice a2 l c2) ch) := Lib.hid fun w hw => by
      rw [hl]; exact (h2.imp (R' := fun k => k < B) fun j hj => by omega).move fun j hj _ => hw.block j hj
    have HH := Lib.hid (And.intro hn (And.intro hm (And.intro hl (And.intro hcap (And.intro hb1 hb2)))))
    have HBW : Hid (B ≤ W.heap.size) := Lib.hid (by omega)
    have CB : Hid (∀ y r g k' c, Run y B r g k' c → k' ≤ 100 → Below B W y → Calls Tryz.prog 9 #[.pointer (some ⟨r, 0, none⟩), .agg #[.int .i64 1, .int .i64 0, .slice a1 m c1]] y fun e w' => e = .returned (.bool true) ∧ Run w' B r g (k' + 1) c ∧ Below B W w') := Lib.hid fun y r g k' c h1 h2 h3 => by
      rw [hm]
      refine (call_app y B r g k' c h1 (by omega) (fun k => k < B) a1 c1 bs (by have := BR.out y h3; rwa [hm] at this) (fun _ h => h) hcap hb1 (by omega) 0).mono ?_
      rintro e w' ⟨rfl, x, b⟩
      exact ⟨rfl, x, h3.trans b⟩
    have CT : Hid (∀ y r g k' n', Run y B r g k' → k' ≤ 100 → Below B W y → Calls Tryz.prog 9 #[.pointer (some ⟨r, 0, none⟩), .agg #[.int .i64 2, .int .i64 n', .slice none 0 0]] y fun e w' => e = .returned (.bool true) ∧ Run w' B r g (k' + 1) ∧ Below B W w') := Lib.hid fun y r g k' n' h1 h2 h3 => by
      refine (call_trim y B r g k' h1 (by omega) none 0 0 n').mono ?_
      rintro e w' ⟨rfl, x, b⟩
      exact ⟨rfl, x, h3.trans b⟩
    have RS : Hid (∀ y r g k', Run y B r g k' → k' ≤ 100 → Below B W y → Calls Tryz.prog 11 #[.pointer (some ⟨g, 0, none⟩), .slice a2 l c2] y fun e w' => e = .returned (.tuple #[]) ∧ Pre w' B r g k' true ∧ Below B W w') := Lib.hid fun y r g k' h1 h2 h3 => by
      refine (run_restart y B r g k' h1 (by omega) (fun k => k < B) (fun _ h => h) _ ch (CR.out y h3) hb2).mono ?_
      rintro e w' ⟨rfl, b, x⟩
      exact ⟨rfl, x, h3.trans b⟩
    have OC : Hid (∀ y r g k', Pre y B r g k' true → k' ≤ 100 → Below B W y → Calls Tryz.prog 8 #[.pointer (some ⟨r, 0, none⟩), .slice a2 l c2] y fun e w' => e = .returned (.bool true) ∧ Run w' B r g k' true ∧ Below B W w') := Lib.hid fun y r g k' h1 h2 h3 => by
      rw [hl]
      refine (open8 y B r g k' true h1 (by omega) (fun k => k < B) (fun _ h => h) a2 c2 ch (by have := CR.out y h3; rwa [hl] at this) hb2).mono ?_
      rintro e w' ⟨rfl, x, b⟩
      exact ⟨rfl, x, h3.trans b⟩
    rw [← hB, ← hm, ← hl]
    subst hv0
    clear h0 h1 hby hl0 hl1 en hn hm hl hB b00 hbig hcap hb1 h2 hb2
    go_enter Tryz.func4, Tryz.ntmps4
    go_wp2_with (go_at_call 5; refine (AW0.out).mono ?_; rintro e w1 ⟨rfl, b1⟩)
    have B1 := Lib.hid b1
    clear b1
    go_loopw [9, 29] (fun _ i wr => ∃ k, k ≤ n ∧ i = .int .i64 (k : Nat) ∧ (∀ j bs, j < k → xs[j]? = some bs → bs.length ≤ 2000) ∧ wr = w1) (fun _ i _ => n - (intOf i).toNat)
    case atStart => exact ⟨0, Nat.zero_le _, rfl, fun j bs hj => by omega, by first | rfl | trivial⟩
    case round =>
      obtain ⟨k, hk, rfl, hall, rfl⟩ := hrel
      have HA := Lib.hid hall
      clear hall
      by_cases hkn : k < n
      · obtain ⟨b, off, a, cc, bs', hv, hx, hc, hsrc, hby, hcc⟩ := AR.out k hkn
        have hkn' : (k : Int) < (n : Int) := by omega
        subst hv
        obtain ⟨l', hl⟩ : ∃ l, l = bs'.length := ⟨_, rfl⟩
        rw [← hl] at hc
        replace hc := hc wr B1.out
        have HX := Lib.hid hx
        have HLN := Lib.hid hl
        have HKN := Lib.hid hkn
        by_cases hbig : 2000 < l'
        · have d2 : decide ((l' : Int) > 2000) = true := decide_eq_true (by omega)
          clear hsrc hby hx hl hkn hcc
          go_wp2_with fail
          go_ret
          exact ⟨rfl, B1.out⟩
        · have d2 : decide ((l' : Int) > 2000) = false := decide_eq_false (by omega)
          have lb : l' ≤ 2000 := by omega
          clear hsrc hby hx hl hkn hbig hcc
          go_wp2_with fail
          go_roundw
          case rel =>
            refine ⟨k + 1, by have := HKN.out; omega, by go_num, fun j bs' hj hx' => ?_, by first | rfl | trivial⟩
            by_cases e : j = k
            · rw [e, HX.out] at hx'
              injection hx' with hx'
              rw [← hx', ← HLN.out]; exact lb
            · exact HA.out j bs' (by omega) hx'
          case measure => have := HKN.out; simp [intOf]; omega
      · obtain rfl : k = n := by omega
        have hkk : ¬ (k : Int) < (k : Int) := by omega
        have LX : Hid (∀ j bs', j < k → xs[j]? = some bs' → bs'.length ≤ 2000) := HA
        have OPN : Hid (∀ y r g, Pre y B r g 0 → Below B W y → Calls Tryz.prog 8 #[.pointer (some ⟨r, 0, none⟩), .slice none 0 0] y fun e w' => e = .returned (.bool true) ∧ Run w' B r g 0 ∧ Below B W w') := Lib.hid fun y r g hp hy => by
          refine (open8 y B r g 0 false hp (by omega) (fun _ => False) (fun j hj => hj.elim) none 0 [] (.inl ⟨rfl, _, _, rfl⟩) (fun x hx => by cases hx)).mono ?_
          rintro e w' ⟨rfl, x, b⟩
          exact ⟨rfl, x, hy.trans b⟩
        have NEW : Hid (∀ y, Calls Tryz.prog 7 #[.int .i64 1073741824] y fun e w' => e = .returned (.pointer (some ⟨y.heap.size, 0, none⟩)) ∧ DV w' (fun k => y.heap.size ≤ k ∧ k < w'.heap.size) y.heap.size 0 (V0 1073741824) ∧ Below y.heap.size y w') := Lib.hid fun y => New_c y 1073741824 (by omega)
        clear hkn hk HA
        go_wp2_with fail
        go_loopw [10, 11, 12, 13, 39] (fun _ _ _ _ i wr => ∃ j, j ≤ 12 ∧ i = .int .i64 (j : Nat) ∧ Below B W wr) (fun _ _ _ _ i _ => 12 - (intOf i).toNat)
        case atStart => exact ⟨0, by omega, rfl, B1.out⟩
        case round =>
          obtain ⟨j, hj, rfl, hb⟩ := hrel
          have B2 := Lib.hid hb
          have NW := Lib.hid (NEW.out wr)
          by_cases hj12 : j < 12
          · have hj12' : (j : Int) < 12 := by omega
            have HJ := Lib.hid hj12
            clear hb hj
            go_wp2_with fail
            go_at_call 7
            refine (NW.out).mono ?_
            rintro e w2 ⟨rfl, k1, b2⟩
            have K1 := Lib.hid (And.intro k1 b2)
            obtain ⟨g, hg⟩ : ∃ g, g = wr.heap.size := ⟨_, rfl⟩
            have HG := Lib.hid hg
            have PN := pre_new (EN.out wr B2.out) b2 k1 rfl rfl
            rw [← hg] at PN ⊢
            have ez : (w2.alloc (.cells #[.int .i64 0, .slice none 0 0, .bool false] 31)).heap.size = w2.heap.size + 1 := by simp
            rw [ez] at PN
            have hbw : B ≤ g := by have := B2.out.size; have := HBW.out; have := HG.out; omega
            have OP8 := Lib.hid (OPN.out _ _ _ PN.1 (B2.out.trans (PN.2.mono hbw)))
            clear k1 b2 hg PN ez hbw
            go_wp2_with fail
            go_at_call 8
            refine (OP8.out).mono ?_
            rintro e w3 ⟨rfl, rn3, b3⟩
            have R3 := Lib.hid (And.intro rn3 b3)
            obtain ⟨r, hr⟩ : ∃ r, r = w2.heap.size + 1 := ⟨_, rfl⟩
            rw [← hr] at R3 ⊢
            clear rn3 b3 hr
            go_wp2_with fail
            go_loopw [12, 52] (fun _ i wr => ∃ i', i' ≤ k ∧ i = .int .i64 (i' : Nat) ∧ Run wr B r g i' ∧ Below B W wr) (fun _ i _ => k - (intOf i).toNat)
            case atStart => exact ⟨0, by omega, rfl, R3.out⟩
            case round =>
              obtain ⟨i', hi, rfl, rn, hb⟩ := hrel
              have RN := Lib.hid (And.intro rn hb)
              clear rn hb
              by_cases hik : i' < k
              · obtain ⟨b, off, a, cc, bs', hv, hx, hc, hsrc, hby, hcc⟩ := AR.out i' hik
                have hik' : (i' : Int) < (k : Int) := by omega
                subst hv
                have hl' := LX.out i' bs' hik hx
                have CA := Lib.hid (call_app wr B r g i' false RN.out.1 (by omega) (fun k => k < B) a cc bs' (hsrc wr RN.out.2) (fun _ h => h) hcc hby (by omega) 0)
                obtain ⟨l', hl⟩ : ∃ l, l = bs'.length := ⟨_, rfl⟩
                rw [← hl] at hc CA
                replace hc := hc wr RN.out.2
                have HI := Lib.hid hik
                clear hsrc hby hcc hl hx hl' hik hi
                go_wp2_with fail
                go_at_call 9
                refine (CA.out).mono ?_
                rintro e w4 ⟨rfl, x, y⟩
                have E := Lib.hid (And.intro x (RN.out.2.trans y))
                clear x y
                go_wp2_with fail
                go_roundw
                case rel => exact ⟨i' + 1, by have := HI.out; omega, by go_num, E.out⟩
                case measure => have := HI.out; simp [intOf]; omega
              · obtain rfl : i' = k := by omega
                have hik2 : ¬ (i' : Int) < (i' : Int) := by omega
                have rc0 := Run.c0 RN.out.1
                obtain ⟨h, hh⟩ : ∃ h, h = j / 2 := ⟨_, rfl⟩
                obtain ⟨e, he⟩ : ∃ e, e = j % 2 := ⟨_, rfl⟩
                have q1 : Int.tdiv (j : Int) 2 = ((h : Nat) : Int) := by rw [hh]; rfl
                have q2 : IntKind.i64.wrap ((h : Nat) : Int) = ((h : Nat) : Int) := by rw [IntKind.wrap_i64]; omega
                have q3 : Int.tmod (j : Int) 2 = ((e : Nat) : Int) := by rw [he]; rfl
                have q4 : IntKind.i64.wrap ((e : Nat) : Int) = ((e : Nat) : Int) := by rw [IntKind.wrap_i64]; omega
                have FS := Lib.hid (run_fuse wr B r g i' RN.out.1 (h : Nat) (by omega))
                have he2 : e = 0 ∨ e = 1 := by omega
                clear hik hi hh he
                go_wp2_with fail
                go_at_call 10
                refine (FS.out).mono ?_
                rintro e5 w5 ⟨rfl, x, y⟩
                have R5 := Lib.hid (And.intro x (RN.out.2.trans y))
                clear x y rc0
                have NB : Hid (∀ o, Below w5.heap.size w5 (w5.alloc o)) := Lib.hid fun o => (Below.refl _ _).alloc (Nat.le_refl _) _
                have hb5 : Hid (B ≤ w5.heap.size) := Lib.hid (Run.hi R5.out.1)
                have hi8 : Hid (i' ≤ 98) := Lib.hid (by omega)
                rcases he2 with rfl | rfl
                · go_wp2_with fail
                  go_at_call 9
                  refine (CB.out _ r g i' false (Run.below R5.out.1 (NB.out _)) (by have := hi8.out; omega) (R5.out.2.trans ((NB.out _).mono hb5.out))).mono ?_
                  rintro e6 w6 ⟨rfl, x, y⟩
                  have R6 := Lib.hid (And.intro x y)
                  have rc0 := Run.c0 x
                  clear x y
                  go_wp2_with fail
                  go_at_call 11
                  refine (RS.out w6 r g (i' + 1) R6.out.1 (by have := hi8.out; omega) R6.out.2).mono ?_
                  rintro e7 w7 ⟨rfl, x, y⟩
                  have R7 := Lib.hid (And.intro x y)
                  clear x y rc0
                  go_wp2_with fail
                  go_at_call 8
                  refine (OC.out w7 r g (i' + 1) R7.out.1 (by have := hi8.out; omega) R7.out.2).mono ?_
                  rintro e8 w8 ⟨rfl, x, y⟩
                  have R8 := Lib.hid (And.intro x y)
                  clear x y
                  go_wp2_with fail
                  have CL : Hid (Calls Tryz.prog 9 #[.pointer (some ⟨r, 0, none⟩), .agg #[.int .i64 1, .int .i64 0, .slice a1 m c1]] w8.drew fun e w' => e = .returned (.bool true) ∧ Below B W w' ∧ ∃ p q, w'.cell? ⟨r, 1, none⟩ = some (.pointer (some ⟨p, 0, none⟩)) ∧ w'.cell? ⟨r, 2, none⟩ = some (.pointer (some ⟨q, 0, none⟩)) ∧ w'.cell? ⟨r, 3, none⟩ = some (.pointer none) ∧ Hid (Calls Tryz.prog 15 #[.pointer (some ⟨p, 0, none⟩), .pointer (some ⟨q, 0, none⟩)] w' fun e w9 => e = .returned (.bool true) ∧ Below B W w9 ∧ w9.cell? ⟨r, 1, none⟩ = some (.pointer (some ⟨p, 0, none⟩)) ∧ w9.cell? ⟨r, 2, none⟩ = some (.pointer (some ⟨q, 0, none⟩)) ∧ w9.cell? ⟨r, 3, none⟩ = some (.pointer none))) := Lib.hid (by
                    have b0 : Below w8.heap.size w8 w8.drew := (Below.refl _ _).drew
                    refine (CB.out w8.drew r g (i' + 1) true (Run.below R8.out.1 b0) (by have := hi8.out; omega) (R8.out.2.trans (b0.mono (Run.hi R8.out.1)))).mono ?_
                    rintro e w9 ⟨rfl, x, y⟩
                    obtain ⟨p, q, mm, e1, e2, e3, e4, e5⟩ := Run.ask x (by have := hi8.out; omega)
                    rw [e4 rfl] at e3
                    refine ⟨rfl, y, p, q, e1, e2, e3, Lib.hid ((e5 (e4 rfl) w9 (Below.refl _ _)).mono ?_)⟩
                    rintro e w10 ⟨rfl, z⟩
                    have er := z.block r (cell_lt e1)
                    exact ⟨rfl, y.trans (z.mono (Run.hi x)), (World.cell?_of_block er).trans e1, (World.cell?_of_block er).trans e2, (World.cell?_of_block er).trans e3⟩)
                  refine wp_region_held_drew (S := fun _ => True) (by kernel_rfl) trivial (fun _ => ?_)
                  refine wpAnyH_take (i := 0) (oi := { dst := some 97, op := Op.move (Operand.tmp 11), type := 25, pos := "law.go:181", after := #[], guard := none }) (v := ?v0) rfl (by kernel_rfl) (by kernel_rfl) (by kernel_rfl) (fun _ _ _ h => h) (Or.inl ⟨by rfl, ?hy0⟩) trivial ?rest0
                  case hy0 => (intro w hSw; (try dsimp only at hSw); go_simp; try (with_reducible rfl))
                  try simp only [Act.put, List.setIfInBounds_toArray, List.set_cons_zero, List.set_cons_succ]
                  refine wpAnyH_take (i := 1) (oi := { dst := some 98, op := Op.move (Operand.tmp 1), type := 36, pos := "law.go:181", after := #[], guard := none }) (v := ?v1) rfl (by kernel_rfl) (by kernel_rfl) (by kernel_rfl) (fun _ _ _ h => h) (Or.inl ⟨by rfl, ?hy1⟩) trivial ?rest1
                  case hy1 => (intro w hSw; (try dsimp only at hSw); go_simp; try (with_reducible rfl))
                  try simp only [Act.put, List.setIfInBounds_toArray, List.set_cons_zero, List.set_cons_succ]
                  refine wpAnyH_take (i := 2) (oi := { dst := some 99, op := Op.build 38 #[(0, Operand.const (Value.int IntKind.i64 1)), (2, Operand.tmp 98)], type := 38, pos := "law.go:181", after := #[{ on := 1, ground := Ground.data }], guard := none }) (v := ?v2) rfl (by kernel_rfl) (by kernel_rfl) (by kernel_rfl) (fun _ _ _ h => h) (Or.inl ⟨by rfl, ?hy2⟩) trivial ?rest2
                  case hy2 => (intro w hSw; (try dsimp only at hSw); go_simp; try (with_reducible rfl))
                  try simp only [Act.put, List.setIfInBounds_toArray, List.set_cons_zero, List.set_cons_succ]
                  refine wpAnyH_ready (rs := [3]) (by kernel_rfl) (by simp) ?_
                  refine AllReadyH.cons rfl (fun K hK => ?_) AllReadyH.nil
                  go_simp
                  go_at_call 9
                  refine (CL.out).mono ?_
                  rintro e9 w9 ⟨rfl, y9, p9, q9, s1, s2, s3, s4⟩
                  have Y9 := Lib.hid y9
                  clear y9
                  dsimp only
                  refine hK.out _ _ trivial (fun _ => ?_)
                  clear hK K
                  refine weak (S' := (fun y : World => y.cell? ⟨r, 1, none⟩ = some (.pointer (some ⟨p9, 0, none⟩)) ∧ y.cell? ⟨r, 2, none⟩ = some (.pointer (some ⟨q9, 0, none⟩)) ∧ y.cell? ⟨r, 3, none⟩ = some (.pointer none))) (fun _ _ => trivial) _ _ _ _ ?_
                  have hS : (fun y : World => y.cell? ⟨r, 1, none⟩ = some (.pointer (some ⟨p9, 0, none⟩)) ∧ y.cell? ⟨r, 2, none⟩ = some (.pointer (some ⟨q9, 0, none⟩)) ∧ y.cell? ⟨r, 3, none⟩ = some (.pointer none)) w9 := ⟨s1, s2, s3⟩
                  refine wpAnyH_take (i := 4) (oi := { dst := some 101, op := Op.unOp UnOp.not 4 (Operand.tmp 100), type := 4, pos := "law.go:181", after := #[{ on := 3, ground := Ground.data }], guard := none }) (v := ?v4) rfl (by kernel_rfl) (by kernel_rfl) (by kernel_rfl) (fun _ _ _ h => h) (Or.inl ⟨by rfl, ?hy4⟩) hS ?rest4
                  case hy4 => (intro w hSw; (try dsimp only at hSw); go_simp; try (with_reducible rfl))
                  try simp only [Act.put, List.setIfInBounds_toArray, List.set_cons_zero, List.set_cons_succ]
                  refine wpAnyH_take (i := 5) (oi := { dst := some 102, op := Op.move (Operand.tmp 101), type := 4, pos := "law.go:181", after := #[{ on := 4, ground := Ground.data }, { on := 3, ground := Ground.chain }], guard := none }) (v := ?v5) rfl (by kernel_rfl) (by kernel_rfl) (by kernel_rfl) (fun _ _ _ h => h) (Or.inl ⟨by rfl, ?hy5⟩) hS ?rest5
                  case hy5 => (intro w hSw; (try dsimp only at hSw); go_simp; try (with_reducible rfl))
                  try simp only [Act.put, List.setIfInBounds_toArray, List.set_cons_zero, List.set_cons_succ]
                  refine wpAnyH_take (i := 6) (oi := { dst := some 103, op := Op.move (Operand.tmp 11), type := 25, pos := "law.go:181", after := #[{ on := 5, ground := Ground.guard }], guard := some (5, false) }) (v := ?v6) rfl (by kernel_rfl) (by kernel_rfl) (by kernel_rfl) (fun _ _ _ h => h) (Or.inl ⟨by rfl, ?hy6⟩) hS ?rest6
                  case hy6 => (intro w hSw; (try dsimp only at hSw); go_simp; try (with_reducible rfl))
                  try simp only [Act.put, List.setIfInBounds_toArray, List.set_cons_zero, List.set_cons_succ]
                  refine wpAnyH_take (i := 7) (oi := { dst := some 104, op := Op.nilCheck (Operand.tmp 103), type := 0, pos := "law.go:181", after := #[{ on := 6, ground := Ground.data }, { on := 5, ground := Ground.guard }], guard := some (5, false) }) (v := ?v7) rfl (by kernel_rfl) (by kernel_rfl) (by kernel_rfl) (fun _ _ _ h => h) (Or.inl ⟨by rfl, ?hy7⟩) hS ?rest7
                  case hy7 => (intro w hSw; (try dsimp only at hSw); go_simp; try (with_reducible rfl))
                  try simp only [Act.put, List.setIfInBounds_toArray, List.set_cons_zero, List.set_cons_succ]
                  refine wpAnyH_take (i := 8) (oi := { dst := some 105, op := Op.fieldAddr 34 (Operand.tmp 104) 3, type := 0, pos := "law.go:181", after := #[{ on := 7, ground := Ground.data }, { on := 5, ground := Ground.guard }], guard := some (5, false) }) (v := ?v8) rfl (by kernel_rfl) (by kernel_rfl) (by kernel_rfl) (fun _ _ _ h => h) (Or.inl ⟨by rfl, ?hy8⟩) hS ?rest8
                  case hy8 => (intro w hSw; (try dsimp only at hSw); go_simp; try (with_reducible rfl))
                  try simp only [Act.put, List.setIfInBounds_toArray, List.set_cons_zero, List.set_cons_succ]
                  refine wpAnyH_take (i := 9) (oi := { dst := some 106, op := Op.load 28 (Operand.tmp 105), type := 28, pos := "law.go:181", after := #[{ on := 8, ground := Ground.data }, { on := 5, ground := Ground.guard }], guard := some (5, false) }) (v := ?v9) rfl (by kernel_rfl) (by kernel_rfl) (by kernel_rfl) (fun _ _ _ h => h) (Or.inl ⟨by rfl, ?hy9⟩) hS ?rest9
                  case hy9 => (intro w hSw; (try dsimp only at hSw); go_simp; try (with_reducible rfl))
                  try simp only [Act.put, List.setIfInBounds_toArray, List.set_cons_zero, List.set_cons_succ]
                  refine wpAnyH_take (i := 10) (oi := { dst := some 107, op := Op.binOp BinOp.eql 28 (Operand.tmp 106) (Operand.const (Value.pointer none)) 28, type := 4, pos := "law.go:181", after := #[{ on := 9, ground := Ground.data }, { on := 5, ground := Ground.guard }], guard := some (5, false) }) (v := ?v10) rfl (by kernel_rfl) (by kernel_rfl) (by kernel_rfl) (fun _ _ _ h => h) (Or.inl ⟨by rfl, ?hy10⟩) hS ?rest10
                  case hy10 => (intro w hSw; (try dsimp only at hSw); go_simp; try (with_reducible rfl))
                  try simp only [Act.put, List.setIfInBounds_toArray, List.set_cons_zero, List.set_cons_succ]
                  refine wpAnyH_take (i := 11) (oi := { dst := some 108, op := Op.move (Operand.tmp 107), type := 4, pos := "law.go:181", after := #[{ on := 10, ground := Ground.data }, { on := 5, ground := Ground.chain }, { on := 5, ground := Ground.guard }], guard := some (5, false) }) (v := ?v11) rfl (by kernel_rfl) (by kernel_rfl) (by kernel_rfl) (fun _ _ _ h => h) (Or.inl ⟨by rfl, ?hy11⟩) hS ?rest11
                  case hy11 => (intro w hSw; (try dsimp only at hSw); go_simp; try (with_reducible rfl))
                  try simp only [Act.put, List.setIfInBounds_toArray, List.set_cons_zero, List.set_cons_succ]
                  refine wpAnyH_take (i := 12) (oi := { dst := some 109, op := Op.move (Operand.tmp 11), type := 25, pos := "law.go:181", after := #[{ on := 11, ground := Ground.guard }], guard := some (11, true) }) (v := ?v12) rfl (by kernel_rfl) (by kernel_rfl) (by kernel_rfl) (fun _ _ _ h => h) (Or.inl ⟨by rfl, ?hy12⟩) hS ?rest12
                  case hy12 => (intro w hSw; (try dsimp only at hSw); go_simp; try (with_reducible rfl))
                  try simp only [Act.put, List.setIfInBounds_toArray, List.set_cons_zero, List.set_cons_succ]
                  refine wpAnyH_take (i := 13) (oi := { dst := some 110, op := Op.nilCheck (Operand.tmp 109), type := 0, pos := "law.go:181", after := #[{ on := 12, ground := Ground.data }, { on := 11, ground := Ground.guard }], guard := some (11, true) }) (v := ?v13) rfl (by kernel_rfl) (by kernel_rfl) (by kernel_rfl) (fun _ _ _ h => h) (Or.inl ⟨by rfl, ?hy13⟩) hS ?rest13
                  case hy13 => (intro w hSw; (try dsimp only at hSw); go_simp; try (with_reducible rfl))
                  try simp only [Act.put, List.setIfInBounds_toArray, List.set_cons_zero, List.set_cons_succ]
                  refine wpAnyH_take (i := 14) (oi := { dst := some 111, op := Op.fieldAddr 34 (Operand.tmp 110) 1, type := 0, pos := "law.go:181", after := #[{ on := 13, ground := Ground.data }, { on := 11, ground := Ground.guard }], guard := some (11, true) }) (v := ?v14) rfl (by kernel_rfl) (by kernel_rfl) (by kernel_rfl) (fun _ _ _ h => h) (Or.inl ⟨by rfl, ?hy14⟩) hS ?rest14
                  case hy14 => (intro w hSw; (try dsimp only at hSw); go_simp; try (with_reducible rfl))
                  try simp only [Act.put, List.setIfInBounds_toArray, List.set_cons_zero, List.set_cons_succ]
                  refine wpAnyH_take (i := 15) (oi := { dst := some 112, op := Op.load 32 (Operand.tmp 111), type := 32, pos := "law.go:181", after := #[{ on := 14, ground := Ground.data }, { on := 11, ground := Ground.guard }], guard := some (11, true) }) (v := ?v15) rfl (by kernel_rfl) (by kernel_rfl) (by kernel_rfl) (fun _ _ _ h => h) (Or.inl ⟨by rfl, ?hy15⟩) hS ?rest15
                  case hy15 => (intro w hSw; (try dsimp only at hSw); go_simp; try (with_reducible rfl))
                  try simp only [Act.put, List.setIfInBounds_toArray, List.set_cons_zero, List.set_cons_succ]
                  refine wpAnyH_take (i := 16) (oi := { dst := some 113, op := Op.move (Operand.tmp 11), type := 25, pos := "law.go:181", after := #[{ on := 11, ground := Ground.guard }], guard := some (11, true) }) (v := ?v16) rfl (by kernel_rfl) (by kernel_rfl) (by kernel_rfl) (fun _ _ _ h => h) (Or.inl ⟨by rfl, ?hy16⟩) hS ?rest16
                  case hy16 => (intro w hSw; (try dsimp only at hSw); go_simp; try (with_reducible rfl))
                  try simp only [Act.put, List.setIfInBounds_toArray, List.set_cons_zero, List.set_cons_succ]
                  refine wpAnyH_take (i := 17) (oi := { dst := some 114, op := Op.nilCheck (Operand.tmp 113), type := 0, pos := "law.go:181", after := #[{ on := 16, ground := Ground.data }, { on := 11, ground := Ground.guard }], guard := some (11, true) }) (v := ?v17) rfl (by kernel_rfl) (by kernel_rfl) (by kernel_rfl) (fun _ _ _ h => h) (Or.inl ⟨by rfl, ?hy17⟩) hS ?rest17
                  case hy17 => (intro w hSw; (try dsimp only at hSw); go_simp; try (with_reducible rfl))
                  try simp only [Act.put, List.setIfInBounds_toArray, List.set_cons_zero, List.set_cons_succ]
                  refine wpAnyH_take (i := 18) (oi := { dst := some 115, op := Op.fieldAddr 34 (Operand.tmp 114) 2, type := 0, pos := "law.go:181", after := #[{ on := 17, ground := Ground.data }, { on := 11, ground := Ground.guard }], guard := some (11, true) }) (v := ?v18) rfl (by kernel_rfl) (by kernel_rfl) (by kernel_rfl) (fun _ _ _ h => h) (Or.inl ⟨by rfl, ?hy18⟩) hS ?rest18
                  case hy18 => (intro w hSw; (try dsimp only at hSw); go_simp; try (with_reducible rfl))
                  try simp only [Act.put, List.setIfInBounds_toArray, List.set_cons_zero, List.set_cons_succ]
                  refine wpAnyH_take (i := 19) (oi := { dst := some 116, op := Op.load 28 (Operand.tmp 115), type := 28, pos := "law.go:181", after := #[{ on := 18, ground := Ground.data }, { on := 11, ground := Ground.guard }], guard := some (11, true) }) (v := ?v19) rfl (by kernel_rfl) (by kernel_rfl) (by kernel_rfl) (fun _ _ _ h => h) (Or.inl ⟨by rfl, ?hy19⟩) hS ?rest19
                  case hy19 => (intro w hSw; (try dsimp only at hSw); go_simp; try (with_reducible rfl))
                  try simp only [Act.put, List.setIfInBounds_toArray, List.set_cons_zero, List.set_cons_succ]
                  refine wpAnyH_ready (rs := [20]) (by kernel_rfl) (by simp) ?_
                  refine AllReadyH.cons rfl (fun K hK => ?_) AllReadyH.nil
                  go_simp
                  go_at_call 15
                  refine (s4.out).mono ?_
                  rintro e10 w10 ⟨rfl, y10, hS10⟩
                  have Y10 := Lib.hid y10
                  clear y10 hS s1 s2 s3
                  dsimp only
                  refine hK.out _ _ hS10 (fun hS => ?_)
                  clear hK K hS10
                  refine wpAnyH_take (i := 21) (oi := { dst := some 118, op := Op.unOp UnOp.not 4 (Operand.tmp 117), type := 4, pos := "law.go:181", after := #[{ on := 20, ground := Ground.data }, { on := 11, ground := Ground.guard }], guard := some (11, true) }) (v := ?v21) rfl (by kernel_rfl) (by kernel_rfl) (by kernel_rfl) (fun _ _ _ h => h) (Or.inl ⟨by rfl, ?hy21⟩) hS ?rest21
                  case hy21 => (intro w hSw; (try dsimp only at hSw); go_simp; try (with_reducible rfl))
                  try simp only [Act.put, List.setIfInBounds_toArray, List.set_cons_zero, List.set_cons_succ]
                  refine wpAnyH_take (i := 22) (oi := { dst := some 119, op := Op.pick (Operand.tmp 108) (Operand.tmp 118) (Operand.const (Value.bool false)), type := 4, pos := "law.go:181", after := #[{ on := 11, ground := Ground.data }, { on := 21, ground := Ground.data }, { on := 5, ground := Ground.guard }], guard := some (5, false) }) (v := ?v22) rfl (by kernel_rfl) (by kernel_rfl) (by kernel_rfl) (fun _ _ _ h => h) (Or.inl ⟨by rfl, ?hy22⟩) hS ?rest22
                  case hy22 => (intro w hSw; (try dsimp only at hSw); go_simp; try (with_reducible rfl))
                  try simp only [Act.put, List.setIfInBounds_toArray, List.set_cons_zero, List.set_cons_succ]
                  refine wpAnyH_take (i := 23) (oi := { dst := some 120, op := Op.pick (Operand.tmp 102) (Operand.const (Value.bool true)) (Operand.tmp 119), type := 4, pos := "law.go:181", after := #[{ on := 5, ground := Ground.data }, { on := 22, ground := Ground.data }], guard := none }) (v := ?v23) rfl (by kernel_rfl) (by kernel_rfl) (by kernel_rfl) (fun _ _ _ h => h) (Or.inl ⟨by rfl, ?hy23⟩) hS ?rest23
                  case hy23 => (intro w hSw; (try dsimp only at hSw); go_simp; try (with_reducible rfl))
                  try simp only [Act.put, List.setIfInBounds_toArray, List.set_cons_zero, List.set_cons_succ]
                  refine wpAnyH_done (by kernel_rfl) ?_ _
                  clear hS
                  go_wp2_with fail
                  go_roundw
                  case rel => exact ⟨j + 1, by have := HJ.out; omega, by go_num, Y10.out⟩
                  case measure => have := HJ.out; simp [intOf]; omega
                · go_wp2_with fail
                  go_at_call 9
                  refine (CT.out _ r g i' _ (Run.below R5.out.1 (NB.out _)) (by have := hi8.out; omega) (R5.out.2.trans ((NB.out _).mono hb5.out))).mono ?_
                  rintro e6 w6 ⟨rfl, x, y⟩
                  have R6 := Lib.hid (And.intro x y)
                  have rc0 := Run.c0 x
                  clear x y
                  go_wp2_with fail
                  go_at_call 11
                  refine (RS.out w6 r g (i' + 1) R6.out.1 (by have := hi8.out; omega) R6.out.2).mono ?_
                  rintro e7 w7 ⟨rfl, x, y⟩
                  have R7 := Lib.hid (And.intro x y)
                  clear x y rc0
                  go_wp2_with fail
                  go_at_call 8
                  refine (OC.out w7 r g (i' + 1) R7.out.1 (by have := hi8.out; omega) R7.out.2).mono ?_
                  rintro e8 w8 ⟨rfl, x, y⟩
                  have R8 := Lib.hid (And.intro x y)
                  clear x y
                  go_wp2_with fail
                  have CL : Hid (Calls Tryz.prog 9 #[.pointer (some ⟨r, 0, none⟩), .agg #[.int .i64 1, .int .i64 0, .slice a1 m c1]] w8.drew fun e w' => e = .returned (.bool true) ∧ Below B W w' ∧ ∃ p q, w'.cell? ⟨r, 1, none⟩ = some (.pointer (some ⟨p, 0, none⟩)) ∧ w'.cell? ⟨r, 2, none⟩ = some (.pointer (some ⟨q, 0, none⟩)) ∧ w'.cell? ⟨r, 3, none⟩ = some (.pointer none) ∧ Hid (Calls Tryz.prog 15 #[.pointer (some ⟨p, 0, none⟩), .pointer (some ⟨q, 0, none⟩)] w' fun e w9 => e = .returned (.bool true) ∧ Below B W w9 ∧ w9.cell? ⟨r, 1, none⟩ = some (.pointer (some ⟨p, 0, none⟩)) ∧ w9.cell? ⟨r, 2, none⟩ = some (.pointer (some ⟨q, 0, none⟩)) ∧ w9.cell? ⟨r, 3, none⟩ = some (.pointer none))) := Lib.hid (by
                    have b0 : Below w8.heap.size w8 w8.drew := (Below.refl _ _).drew
                    refine (CB.out w8.drew r g (i' + 1) true (Run.below R8.out.1 b0) (by have := hi8.out; omega) (R8.out.2.trans (b0.mono (Run.hi R8.out.1)))).mono ?_
                    rintro e w9 ⟨rfl, x, y⟩
                    obtain ⟨p, q, mm, e1, e2, e3, e4, e5⟩ := Run.ask x (by have := hi8.out; omega)
                    rw [e4 rfl] at e3
                    refine ⟨rfl, y, p, q, e1, e2, e3, Lib.hid ((e5 (e4 rfl) w9 (Below.refl _ _)).mono ?_)⟩
                    rintro e w10 ⟨rfl, z⟩
                    have er := z.block r (cell_lt e1)
                    exact ⟨rfl, y.trans (z.mono (Run.hi x)), (World.cell?_of_block er).trans e1, (World.cell?_of_block er).trans e2, (World.cell?_of_block er).trans e3⟩)
                  refine wp_region_held_drew (S := fun _ => True) (by kernel_rfl) trivial (fun _ => ?_)
                  refine wpAnyH_take (i := 0) (oi := { dst := some 97, op := Op.move (Operand.tmp 11), type := 25, pos := "law.go:181", after := #[], guard := none }) (v := ?z0) rfl (by kernel_rfl) (by kernel_rfl) (by kernel_rfl) (fun _ _ _ h => h) (Or.inl ⟨by rfl, ?hz0⟩) trivial ?resz0
                  case hz0 => (intro w hSw; (try dsimp only at hSw); go_simp; try (with_reducible rfl))
                  try simp only [Act.put, List.setIfInBounds_toArray, List.set_cons_zero, List.set_cons_succ]
                  refine wpAnyH_take (i := 1) (oi := { dst := some 98, op := Op.move (Operand.tmp 1), type := 36, pos := "law.go:181", after := #[], guard := none }) (v := ?z1) rfl (by kernel_rfl) (by kernel_rfl) (by kernel_rfl) (fun _ _ _ h => h) (Or.inl ⟨by rfl, ?hz1⟩) trivial ?resz1
                  case hz1 => (intro w hSw; (try dsimp only at hSw); go_simp; try (with_reducible rfl))
                  try simp only [Act.put, List.setIfInBounds_toArray, List.set_cons_zero, List.set_cons_succ]
                  refine wpAnyH_take (i := 2) (oi := { dst := some 99, op := Op.build 38 #[(0, Operand.const (Value.int IntKind.i64 1)), (2, Operand.tmp 98)], type := 38, pos := "law.go:181", after := #[{ on := 1, ground := Ground.data }], guard := none }) (v := ?z2) rfl (by kernel_rfl) (by kernel_rfl) (by kernel_rfl) (fun _ _ _ h => h) (Or.inl ⟨by rfl, ?hz2⟩) trivial ?resz2
                  case hz2 => (intro w hSw; (try dsimp only at hSw); go_simp; try (with_reducible rfl))
                  try simp only [Act.put, List.setIfInBounds_toArray, List.set_cons_zero, List.set_cons_succ]
                  refine wpAnyH_ready (rs := [3]) (by kernel_rfl) (by simp) ?_
                  refine AllReadyH.cons rfl (fun K hK => ?_) AllReadyH.nil
                  go_simp
                  go_at_call 9
                  refine (CL.out).mono ?_
                  rintro e9 w9 ⟨rfl, y9, p9, q9, s1, s2, s3, s4⟩
                  have Y9 := Lib.hid y9
                  clear y9
                  dsimp only
                  refine hK.out _ _ trivial (fun _ => ?_)
                  clear hK K
                  refine weak (S' := (fun y : World => y.cell? ⟨r, 1, none⟩ = some (.pointer (some ⟨p9, 0, none⟩)) ∧ y.cell? ⟨r, 2, none⟩ = some (.pointer (some ⟨q9, 0, none⟩)) ∧ y.cell? ⟨r, 3, none⟩ = some (.pointer none))) (fun _ _ => trivial) _ _ _ _ ?_
                  have hS : (fun y : World => y.cell? ⟨r, 1, none⟩ = some (.pointer (some ⟨p9, 0, none⟩)) ∧ y.cell? ⟨r, 2, none⟩ = some (.pointer (some ⟨q9, 0, none⟩)) ∧ y.cell? ⟨r, 3, none⟩ = some (.pointer none)) w9 := ⟨s1, s2, s3⟩
                  refine wpAnyH_take (i := 4) (oi := { dst := some 101, op := Op.unOp UnOp.not 4 (Operand.tmp 100), type := 4, pos := "law.go:181", after := #[{ on := 3, ground := Ground.data }], guard := none }) (v := ?z4) rfl (by kernel_rfl) (by kernel_rfl) (by kernel_rfl) (fun _ _ _ h => h) (Or.inl ⟨by rfl, ?hz4⟩) hS ?resz4
                  case hz4 => (intro w hSw; (try dsimp only at hSw); go_simp; try (with_reducible rfl))
                  try simp only [Act.put, List.setIfInBounds_toArray, List.set_cons_zero, List.set_cons_succ]
                  refine wpAnyH_take (i := 5) (oi := { dst := some 102, op := Op.move (Operand.tmp 101), type := 4, pos := "law.go:181", after := #[{ on := 4, ground := Ground.data }, { on := 3, ground := Ground.chain }], guard := none }) (v := ?z5) rfl (by kernel_rfl) (by kernel_rfl) (by kernel_rfl) (fun _ _ _ h => h) (Or.inl ⟨by rfl, ?hz5⟩) hS ?resz5
                  case hz5 => (intro w hSw; (try dsimp only at hSw); go_simp; try (with_reducible rfl))
                  try simp only [Act.put, List.setIfInBounds_toArray, List.set_cons_zero, List.set_cons_succ]
                  refine wpAnyH_take (i := 6) (oi := { dst := some 103, op := Op.move (Operand.tmp 11), type := 25, pos := "law.go:181", after := #[{ on := 5, ground := Ground.guard }], guard := some (5, false) }) (v := ?z6) rfl (by kernel_rfl) (by kernel_rfl) (by kernel_rfl) (fun _ _ _ h => h) (Or.inl ⟨by rfl, ?hz6⟩) hS ?resz6
                  case hz6 => (intro w hSw; (try dsimp only at hSw); go_simp; try (with_reducible rfl))
                  try simp only [Act.put, List.setIfInBounds_toArray, List.set_cons_zero, List.set_cons_succ]
                  refine wpAnyH_take (i := 7) (oi := { dst := some 104, op := Op.nilCheck (Operand.tmp 103), type := 0, pos := "law.go:181", after := #[{ on := 6, ground := Ground.data }, { on := 5, ground := Ground.guard }], guard := some (5, false) }) (v := ?z7) rfl (by kernel_rfl) (by kernel_rfl) (by kernel_rfl) (fun _ _ _ h => h) (Or.inl ⟨by rfl, ?hz7⟩) hS ?resz7
                  case hz7 => (intro w hSw; (try dsimp only at hSw); go_simp; try (with_reducible rfl))
                  try simp only [Act.put, List.setIfInBounds_toArray, List.set_cons_zero, List.set_cons_succ]
                  refine wpAnyH_take (i := 8) (oi := { dst := some 105, op := Op.fieldAddr 34 (Operand.tmp 104) 3, type := 0, pos := "law.go:181", after := #[{ on := 7, ground := Ground.data }, { on := 5, ground := Ground.guard }], guard := some (5, false) }) (v := ?z8) rfl (by kernel_rfl) (by kernel_rfl) (by kernel_rfl) (fun _ _ _ h => h) (Or.inl ⟨by rfl, ?hz8⟩) hS ?resz8
                  case hz8 => (intro w hSw; (try dsimp only at hSw); go_simp; try (with_reducible rfl))
                  try simp only [Act.put, List.setIfInBounds_toArray, List.set_cons_zero, List.set_cons_succ]
                  refine wpAnyH_take (i := 9) (oi := { dst := some 106, op := Op.load 28 (Operand.tmp 105), type := 28, pos := "law.go:181", after := #[{ on := 8, ground := Ground.data }, { on := 5, ground := Ground.guard }], guard := some (5, false) }) (v := ?z9) rfl (by kernel_rfl) (by kernel_rfl) (by kernel_rfl) (fun _ _ _ h => h) (Or.inl ⟨by rfl, ?hz9⟩) hS ?resz9
                  case hz9 => (intro w hSw; (try dsimp only at hSw); go_simp; try (with_reducible rfl))
                  try simp only [Act.put, List.setIfInBounds_toArray, List.set_cons_zero, List.set_cons_succ]
                  refine wpAnyH_take (i := 10) (oi := { dst := some 107, op := Op.binOp BinOp.eql 28 (Operand.tmp 106) (Operand.const (Value.pointer none)) 28, type := 4, pos := "law.go:181", after := #[{ on := 9, ground := Ground.data }, { on := 5, ground := Ground.guard }], guard := some (5, false) }) (v := ?z10) rfl (by kernel_rfl) (by kernel_rfl) (by kernel_rfl) (fun _ _ _ h => h) (Or.inl ⟨by rfl, ?hz10⟩) hS ?resz10
                  case hz10 => (intro w hSw; (try dsimp only at hSw); go_simp; try (with_reducible rfl))
                  try simp only [Act.put, List.setIfInBounds_toArray, List.set_cons_zero, List.set_cons_succ]
                  refine wpAnyH_take (i := 11) (oi := { dst := some 108, op := Op.move (Operand.tmp 107), type := 4, pos := "law.go:181", after := #[{ on := 10, ground := Ground.data }, { on := 5, ground := Ground.chain }, { on := 5, ground := Ground.guard }], guard := some (5, false) }) (v := ?z11) rfl (by kernel_rfl) (by kernel_rfl) (by kernel_rfl) (fun _ _ _ h => h) (Or.inl ⟨by rfl, ?hz11⟩) hS ?resz11
                  case hz11 => (intro w hSw; (try dsimp only at hSw); go_simp; try (with_reducible rfl))
                  try simp only [Act.put, List.setIfInBounds_toArray, List.set_cons_zero, List.set_cons_succ]
                  refine wpAnyH_take (i := 12) (oi := { dst := some 109, op := Op.move (Operand.tmp 11), type := 25, pos := "law.go:181", after := #[{ on := 11, ground := Ground.guard }], guard := some (11, true) }) (v := ?z12) rfl (by kernel_rfl) (by kernel_rfl) (by kernel_rfl) (fun _ _ _ h => h) (Or.inl ⟨by rfl, ?hz12⟩) hS ?resz12
                  case hz12 => (intro w hSw; (try dsimp only at hSw); go_simp; try (with_reducible rfl))
                  try simp only [Act.put, List.setIfInBounds_toArray, List.set_cons_zero, List.set_cons_succ]
                  refine wpAnyH_take (i := 13) (oi := { dst := some 110, op := Op.nilCheck (Operand.tmp 109), type := 0, pos := "law.go:181", after := #[{ on := 12, ground := Ground.data }, { on := 11, ground := Ground.guard }], guard := some (11, true) }) (v := ?z13) rfl (by kernel_rfl) (by kernel_rfl) (by kernel_rfl) (fun _ _ _ h => h) (Or.inl ⟨by rfl, ?hz13⟩) hS ?resz13
                  case hz13 => (intro w hSw; (try dsimp only at hSw); go_simp; try (with_reducible rfl))
                  try simp only [Act.put, List.setIfInBounds_toArray, List.set_cons_zero, List.set_cons_succ]
                  refine wpAnyH_take (i := 14) (oi := { dst := some 111, op := Op.fieldAddr 34 (Operand.tmp 110) 1, type := 0, pos := "law.go:181", after := #[{ on := 13, ground := Ground.data }, { on := 11, ground := Ground.guard }], guard := some (11, true) }) (v := ?z14) rfl (by kernel_rfl) (by kernel_rfl) (by kernel_rfl) (fun _ _ _ h => h) (Or.inl ⟨by rfl, ?hz14⟩) hS ?resz14
                  case hz14 => (intro w hSw; (try dsimp only at hSw); go_simp; try (with_reducible rfl))
                  try simp only [Act.put, List.setIfInBounds_toArray, List.set_cons_zero, List.set_cons_succ]
                  refine wpAnyH_take (i := 15) (oi := { dst := some 112, op := Op.load 32 (Operand.tmp 111), type := 32, pos := "law.go:181", after := #[{ on := 14, ground := Ground.data }, { on := 11, ground := Ground.guard }], guard := some (11, true) }) (v := ?z15) rfl (by kernel_rfl) (by kernel_rfl) (by kernel_rfl) (fun _ _ _ h => h) (Or.inl ⟨by rfl, ?hz15⟩) hS ?resz15
                  case hz15 => (intro w hSw; (try dsimp only at hSw); go_simp; try (with_reducible rfl))
                  try simp only [Act.put, List.setIfInBounds_toArray, List.set_cons_zero, List.set_cons_succ]
                  refine wpAnyH_take (i := 16) (oi := { dst := some 113, op := Op.move (Operand.tmp 11), type := 25, pos := "law.go:181", after := #[{ on := 11, ground := Ground.guard }], guard := some (11, true) }) (v := ?z16) rfl (by kernel_rfl) (by kernel_rfl) (by kernel_rfl) (fun _ _ _ h => h) (Or.inl ⟨by rfl, ?hz16⟩) hS ?resz16
                  case hz16 => (intro w hSw; (try dsimp only at hSw); go_simp; try (with_reducible rfl))
                  try simp only [Act.put, List.setIfInBounds_toArray, List.set_cons_zero, List.set_cons_succ]
                  refine wpAnyH_take (i := 17) (oi := { dst := some 114, op := Op.nilCheck (Operand.tmp 113), type := 0, pos := "law.go:181", after := #[{ on := 16, ground := Ground.data }, { on := 11, ground := Ground.guard }], guard := some (11, true) }) (v := ?z17) rfl (by kernel_rfl) (by kernel_rfl) (by kernel_rfl) (fun _ _ _ h => h) (Or.inl ⟨by rfl, ?hz17⟩) hS ?resz17
                  case hz17 => (intro w hSw; (try dsimp only at hSw); go_simp; try (with_reducible rfl))
                  try simp only [Act.put, List.setIfInBounds_toArray, List.set_cons_zero, List.set_cons_succ]
                  refine wpAnyH_take (i := 18) (oi := { dst := some 115, op := Op.fieldAddr 34 (Operand.tmp 114) 2, type := 0, pos := "law.go:181", after := #[{ on := 17, ground := Ground.data }, { on := 11, ground := Ground.guard }], guard := some (11, true) }) (v := ?z18) rfl (by kernel_rfl) (by kernel_rfl) (by kernel_rfl) (fun _ _ _ h => h) (Or.inl ⟨by rfl, ?hz18⟩) hS ?resz18
                  case hz18 => (intro w hSw; (try dsimp only at hSw); go_simp; try (with_reducible rfl))
                  try simp only [Act.put, List.setIfInBounds_toArray, List.set_cons_zero, List.set_cons_succ]
                  refine wpAnyH_take (i := 19) (oi := { dst := some 116, op := Op.load 28 (Operand.tmp 115), type := 28, pos := "law.go:181", after := #[{ on := 18, ground := Ground.data }, { on := 11, ground := Ground.guard }], guard := some (11, true) }) (v := ?z19) rfl (by kernel_rfl) (by kernel_rfl) (by kernel_rfl) (fun _ _ _ h => h) (Or.inl ⟨by rfl, ?hz19⟩) hS ?resz19
                  case hz19 => (intro w hSw; (try dsimp only at hSw); go_simp; try (with_reducible rfl))
                  try simp only [Act.put, List.setIfInBounds_toArray, List.set_cons_zero, List.set_cons_succ]
                  refine wpAnyH_ready (rs := [20]) (by kernel_rfl) (by simp) ?_
                  refine AllReadyH.cons rfl (fun K hK => ?_) AllReadyH.nil
                  go_simp
                  go_at_call 15
                  refine (s4.out).mono ?_
                  rintro e10 w10 ⟨rfl, y10, hS10⟩
                  have Y10 := Lib.hid y10
                  clear y10 hS s1 s2 s3
                  dsimp only
                  refine hK.out _ _ hS10 (fun hS => ?_)
                  clear hK K hS10
                  refine wpAnyH_take (i := 21) (oi := { dst := some 118, op := Op.unOp UnOp.not 4 (Operand.tmp 117), type := 4, pos := "law.go:181", after := #[{ on := 20, ground := Ground.data }, { on := 11, ground := Ground.guard }], guard := some (11, true) }) (v := ?z21) rfl (by kernel_rfl) (by kernel_rfl) (by kernel_rfl) (fun _ _ _ h => h) (Or.inl ⟨by rfl, ?hz21⟩) hS ?resz21
                  case hz21 => (intro w hSw; (try dsimp only at hSw); go_simp; try (with_reducible rfl))
                  try simp only [Act.put, List.setIfInBounds_toArray, List.set_cons_zero, List.set_cons_succ]
                  refine wpAnyH_take (i := 22) (oi := { dst := some 119, op := Op.pick (Operand.tmp 108) (Operand.tmp 118) (Operand.const (Value.bool false)), type := 4, pos := "law.go:181", after := #[{ on := 11, ground := Ground.data }, { on := 21, ground := Ground.data }, { on := 5, ground := Ground.guard }], guard := some (5, false) }) (v := ?z22) rfl (by kernel_rfl) (by kernel_rfl) (by kernel_rfl) (fun _ _ _ h => h) (Or.inl ⟨by rfl, ?hz22⟩) hS ?resz22
                  case hz22 => (intro w hSw; (try dsimp only at hSw); go_simp; try (with_reducible rfl))
                  try simp only [Act.put, List.setIfInBounds_toArray, List.set_cons_zero, List.set_cons_succ]
                  refine wpAnyH_take (i := 23) (oi := { dst := some 120, op := Op.pick (Operand.tmp 102) (Operand.const (Value.bool true)) (Operand.tmp 119), type := 4, pos := "law.go:181", after := #[{ on := 5, ground := Ground.data }, { on := 22, ground := Ground.data }], guard := none }) (v := ?z23) rfl (by kernel_rfl) (by kernel_rfl) (by kernel_rfl) (fun _ _ _ h => h) (Or.inl ⟨by rfl, ?hz23⟩) hS ?resz23
                  case hz23 => (intro w hSw; (try dsimp only at hSw); go_simp; try (with_reducible rfl))
                  try simp only [Act.put, List.setIfInBounds_toArray, List.set_cons_zero, List.set_cons_succ]
                  refine wpAnyH_done (by kernel_rfl) ?_ _
                  clear hS
                  go_wp2_with fail
                  go_roundw
                  case rel => exact ⟨j + 1, by have := HJ.out; omega, by go_num, Y10.out⟩
                  case measure => have := HJ.out; simp [intOf]; omega
          · obtain rfl : j = 12 := by omega
            clear hj12 hj hb
            go_wp2_with fail
            go_ret
            exact ⟨rfl, B2.out⟩
end X15
end Go.Proofs.YtdaknlmnelfedaaGreatDoor
