/- The law WalPlays: the walk. -/
import Derived.Test.YtdaknlmnelfedaaGreatDoorX16
namespace Go.Proofs.YtdaknlmnelfedaaGreatDoor
open Go.RowKit Go.Maps Go.ChangeMaps Go.MapKept
namespace X17
open Jb Jm Jd Jw Jx Jn Je Jf Jg Jh Jk Jc Jl Jo Jq Jr J1 J2 J3 J4 W1 W2 W3 V1 V2 V3 V4 V5 V6 V7 V8 V9 Va Vb Vc Vd Ve Vf Vg X1 X2 X3 X4 X5 X6 X7 X8 X9 X10 X11 X12 X13 X14 X16

/-- Opened anew, if it isn't down and nothing was lost. -/
theorem run_pre {w : World} {B r g k : Nat} (h : Run w B r g k) (e3 : w.cell? ⟨r, 3, none⟩ = some (.pointer none)) : Pre w B r g k := by
  obtain ⟨S, D, q, N, V, R, rov, m, LL, p, hm⟩ := run_po h
  have c3 := p.c3.symm.trans e3
  have : m = none := by
    cases m with
    | none => rfl
    | some x => simp at c3
  exact ⟨S, D, q, N, V, R, rov, m, LL, p, hm this, fun e => by cases e⟩
theorem run_down {w : World} {B r g k : Nat} (h : Run w B r g k) : ∃ d : Bool, (∀ y, Below w.heap.size w y → Calls Tryz.prog 12 #[.pointer (some ⟨g, 0, none⟩)] y fun e w' => e = .returned (.bool d) ∧ w' = y) ∧ (d = false → w.cell? ⟨r, 3, none⟩ = some (.pointer none)) := by
  obtain ⟨U, D, p, q, N, V, L, ov, m, st⟩ := h
  refine ⟨V.down, fun y hy => ?_, fun e => ?_⟩
  · obtain ⟨S, T, k1, _⟩ := (st.below hy).rn.ws.ex
    exact Down_c y S g N V k1
  · cases ov with
    | false =>
      have := (st.lv rfl).1
      have c3 := st.rn.c3
      rw [this] at c3; exact c3
    | true =>
      obtain ⟨q2, L2, _, _, _, e4, _⟩ := st.gn rfl
      rw [e4] at e; cases e
theorem run_used {w : World} {B r g k : Nat} (h : Run w B r g k) (hk : k ≤ 100000) : ∃ u : Nat, u ≤ 200000000000 ∧ ∀ y, Below w.heap.size w y → Calls Tryz.prog 14 #[.pointer (some ⟨g, 0, none⟩)] y fun e w' => e = .returned (.int .i64 (u : Nat)) ∧ w' = y := by
  obtain ⟨U, D, p, q, N, V, L, ov, m, st⟩ := h
  refine ⟨V.used, by have := st.us; omega, fun y hy => ?_⟩
  obtain ⟨S, T, k1, _⟩ := (st.below hy).rn.ws.ex
  exact Used_c y S g N V k1
/-- A restart: what lies behind the run's memory stays. -/
theorem run_restart_fr (w y : World) (B r g k : Nat) (h : Run w B r g k) (hy : Below w.heap.size w y) (hk : k ≤ 100000) (Q : Nat → Prop) (hQ : ∀ j, Q j → j < B) (v : Value) (ch : List Nat) (hv : Src y Q v ch) (hby : ∀ x ∈ ch, x < 256) :
    Calls Tryz.prog 11 #[.pointer (some ⟨g, 0, none⟩), v] y fun e w' => e = .returned (.tuple #[]) ∧ Below B y w' ∧ Pre w' B r g k true ∧ ∀ j, w.heap.size ≤ j → j < y.heap.size → w'.heap[j]? = y.heap[j]? := by
  obtain ⟨S, D, q, N, V, R, rov, m, LL, h, _⟩ := run_po h
  have sl : ∀ j, S j → j < w.heap.size := fun j hj => h.dv.lt hj
  have h := h.move (Chg.of_below hy (Nat.le_refl _) S) (h.dv.below hy (Nat.le_refl _)) (fun j hj => .inl hj) h.uok h.dirt (Nat.le_refl _)
  obtain ⟨l, u1, u2, u3⟩ := h.uok
  obtain ⟨ns, hn⟩ := u1.names
  obtain ⟨e1, e2, e3, _⟩ := UOk.restart h.uok hn (fun s b hb => DV.le h.dv s b hb) ch
  have hi := h.en.hi
  have hnn := h.nn
  refine (Restart_c y S g N V h.dv (by omega) Q (fun j hj => ⟨fun e => by have := h.ge j e; have := hQ j hj; omega, by have := hQ j hj; omega⟩) v ch hv hby ns hn e1 (by have := h.us; omega) ?_ (by omega)).mono ?_
  · intro x hx
    have := mine_size (L := LL) (by have := h.lx; unfold Sm; omega) (mine_of h.dirt ((hn.2 x).1 hx))
    rwa [nm_size] at this
  · rintro e w' ⟨rfl, k1, k2⟩
    refine ⟨rfl, k2.below (fun j hj _ => h.ge j hj) hi, ⟨_, D, q, N, _, R, rov, m, LL, h.move k2 k1 (fun j hj => hj.imp id fun e => e.1) e3 (h.dirt.restart hn (fun s b hb => DV.le h.dv s b hb) ch) ?_, rfl, fun _ => rfl⟩, fun j h1 h2 => k2.block j h2 fun e => by have := sl j e; omega⟩
    exact rs_used_le _ _
theorem run_room_fr (w y : World) (B r g k : Nat) (h : Run w B r g k) (hy : Below w.heap.size w y) (n : Int) (hn : -9223372036854775808 ≤ n ∧ n ≤ 9223372036854775807) :
    Calls Tryz.prog 13 #[.pointer (some ⟨g, 0, none⟩), .int .i64 n] y fun e w' => e = .returned (.tuple #[]) ∧ Run w' B r g k ∧ Below B y w' ∧ ∀ j, w.heap.size ≤ j → j < y.heap.size → w'.heap[j]? = y.heap[j]? := by
  obtain ⟨U, D, p, q, N, V, L, ov, m, st⟩ := h
  obtain ⟨S, T, k1, k2, k3, k4, k5⟩ := st.rn.ws.ex
  refine (SetRoom_c y S g N V (k1.below hy (Nat.le_refl _)) n hn).mono ?_
  rintro e w' ⟨rfl, j1, j2⟩
  obtain ⟨x, b⟩ := run_nums (f := fun V => { V with room := n.toNat }) (fun _ => rfl) (fun _ => rfl) (fun _ => rfl) (st.below hy) (k2.move hy.size fun k hk => hy.block k (k2.lt k hk)) k3 k4 k5 j1 j2
  exact ⟨rfl, x, b, fun j h1 h2 => j2.block j h2 fun e => by have := k1.lt e; omega⟩
set_option maxRecDepth 100000 in
set_option maxHeartbeats 8000000 in
theorem plays3 (W : World) (en : En W W.heap.size) (v0 : Value) (xs : List (Int × Int × List Nat)) (h0 : BO W v0 xs) (hby : ∀ x ∈ xs, ∀ y ∈ x.2.2, y < 256) (hlb : ∀ x ∈ xs, x.2.2.length ≤ 140737488355328) (hl0 : xs.length ≤ 140737488355328) :
    Calls Tryz.prog 3 #[v0] W fun e W' => e = .returned (.bool true) ∧ Below W.heap.size W W' := by
  obtain ⟨B, hB⟩ : ∃ B, B = W.heap.size := ⟨_, rfl⟩
  have AW : Hid (∀ w, Below B W w → Calls Tryz.prog 5 #[] w fun e w' => e = .returned (.bool true) ∧ Below B W w') := Lib.hid fun w hw => by
    have hz := hw.size
    refine (awake4 w ⟨(en.move hz fun k hk => hw.block k (by omega)).tab, (en.move hz fun k hk => hw.block k (by omega)).err, by have := en.lo; omega, Nat.le_refl _⟩).mono ?_
    rintro e w' ⟨rfl, b⟩
    exact ⟨rfl, hw.trans (b.mono (by omega))⟩
  have EN : Hid (∀ w, Below B W w → En w B) := Lib.hid fun w hw => by rw [hB]; exact en.move hw.size fun k hk => hw.block k (by omega)
  obtain ⟨n, hn⟩ : ∃ n, n = xs.length := ⟨_, rfl⟩
  obtain ⟨a0, c0, hv0⟩ : ∃ a c, v0 = .slice a n c := by
    rcases h0 with ⟨rfl, a, c, rfl⟩ | ⟨b, off, c, rfl, _⟩
    · exact ⟨a, c, by rw [hn]; rfl⟩
    · exact ⟨_, c, by rw [hn]⟩
  have b00 : Below B W W := Below.refl _ _
  have AW0 := Lib.hid (AW.out W b00)
  have AR : Hid (∀ k, k < n → AtS W B a0 xs k) := Lib.hid fun k hk => by
    rcases h0 with ⟨rfl, _⟩ | ⟨b, off, c, rfl, hp, hb, hc⟩
    · simp at hn; omega
    · have hk' : k < xs.length := by omega
      obtain ⟨a, cc, ⟨q0, q1, q2⟩, q3, q4⟩ := hc k hk'
      injection hv0 with hv0 _ _
      exact ⟨b, off, xs[k].1, xs[k].2.1, a, cc, xs[k].2.2, hv0.symm, List.getElem?_eq_getElem hk', fun w hw => ⟨(World.cell?_of_block (hw.block b (by omega))).trans q0, (World.cell?_of_block (hw.block b (by omega))).trans q1, (World.cell?_of_block (hw.block b (by omega))).trans q2⟩, fun w hw => (q3.imp (R' := fun k => k < B) fun j hj => by omega).move fun j hj _ => hw.block j hj, q4⟩
  have FW : Hid (∀ w, Below B W w → Calls Tryz.prog 6 #[.slice a0 n c0] w fun e w' => ∃ x : Bool, e = .returned (.bool x) ∧ (x = true → n ≤ 201) ∧ w' = w) := Lib.hid fun w hw => few6 W w B n a0 c0 xs AR.out hw hlb (by omega)
  have HH := Lib.hid (And.intro hby hlb)
  have HBW : Hid (B ≤ W.heap.size) := Lib.hid (by omega)
  have OPN : Hid (∀ y r g k, k ≤ 1000 → Pre y B r g k → Below B W y → Calls Tryz.prog 8 #[.pointer (some ⟨r, 0, none⟩), .slice none 0 0] y fun e w' => e = .returned (.bool true) ∧ (Run w' B r g k ∧ w'.cell? ⟨r, 3, none⟩ = some (.pointer none)) ∧ Below B W w') := Lib.hid fun y r g k hk hp hy => by
    refine (open8x y B r g k false (by
      obtain ⟨S, D, q, N, V, R, rov, m, LL, p, hd, _⟩ := hp
      exact ⟨S, D, q, N, V, R, rov, m, LL, p, hd, fun e => by cases e⟩) (by omega) (fun _ => False) (fun j hj => hj.elim) none 0 [] (.inl ⟨rfl, _, _, rfl⟩) (fun x hx => by cases hx)).mono ?_
    rintro e w' ⟨rfl, x, b⟩
    exact ⟨rfl, x, hy.trans b⟩
  have NEW : Hid (∀ y, Calls Tryz.prog 7 #[.int .i64 1073741824] y fun e w' => e = .returned (.pointer (some ⟨y.heap.size, 0, none⟩)) ∧ DV w' (fun k => y.heap.size ≤ k ∧ k < w'.heap.size) y.heap.size 0 (V0 1073741824) ∧ Below y.heap.size y w') := Lib.hid fun y => New_c y 1073741824 (by omega)
  rw [← hB]
  subst hv0
  clear h0 hby hlb hl0 en hn hB b00
  go_enter Tryz.func3, Tryz.ntmps3
  go_wp2_with fail
  go_at_call 5
  refine (AW0.out).mono ?_
  rintro e w1 ⟨rfl, b1⟩
  have B1 := Lib.hid b1
  have FW1 := Lib.hid (FW.out w1 b1)
  have AW1 := Lib.hid (AW.out w1 b1)
  clear b1
  go_wp2_with fail
  go_at_call 6
  refine (FW1.out).mono ?_
  rintro e w2 ⟨x, rfl, hx, rfl⟩
  cases x with
  | false =>
    clear hx
    go_wp2_with fail
    go_at_call 5
    refine (AW1.out).mono ?_
    rintro e w3 ⟨rfl, b3⟩
    have B3 := Lib.hid b3
    clear b3
    go_wp2_with fail
    go_ret
    exact ⟨rfl, B3.out⟩
  | true =>
    have h201 := Lib.hid (hx rfl)
    clear hx
    have NW := Lib.hid (NEW.out w2)
    go_wp2_with fail
    go_at_call 7
    refine (NW.out).mono ?_
    rintro e w3 ⟨rfl, k1, b2⟩
    obtain ⟨g, hg⟩ : ∃ g, g = w2.heap.size := ⟨_, rfl⟩
    have HG := Lib.hid hg
    rw [← hg]
    have PN := pre_new (EN.out w2 B1.out) b2 k1 rfl rfl
    rw [← hg] at PN
    have ez : (w3.alloc (.cells #[.int .i64 0, .slice none 0 0, .bool false] 31)).heap.size = w3.heap.size + 1 := by simp
    rw [ez] at PN
    have hbw : B ≤ g := by have := B1.out.size; have := HBW.out; have := HG.out; omega
    have OP8 := Lib.hid (OPN.out _ _ _ 0 (by omega) PN.1 (B1.out.trans (PN.2.mono hbw)))
    clear k1 b2 hg PN ez hbw
    go_wp2_with fail
    go_at_call 8
    refine (OP8.out).mono ?_
    rintro e w4 ⟨rfl, rn3, b3⟩
    have R3 := Lib.hid (And.intro rn3.1 b3)
    obtain ⟨r, hr⟩ : ∃ r, r = w3.heap.size + 1 := ⟨_, rfl⟩
    rw [← hr] at R3 ⊢
    clear rn3 b3 hr
    go_wp2_with fail
    go_loopw [4, 5, 24] (fun _ _ i wr => ∃ i' : Nat, i' ≤ n ∧ i = .int .i64 (i' : Nat) ∧ Run wr B r g i' ∧ Below B W wr) (fun _ _ i _ => n - (intOf i).toNat)
    case atStart => exact ⟨0, Nat.zero_le _, rfl, R3.out⟩
    case round =>
      obtain ⟨i, hi, rfl, rn, hb⟩ := hrel
      have RN := Lib.hid (And.intro rn hb)
      clear rn hb
      by_cases hin : i < n
      · obtain ⟨b, off, K, N, a, cc, bs, hv, hx, hc, hsrc, hcc⟩ := AR.out i hin
        have hin' : (i : Int) < (n : Int) := by omega
        subst hv
        have hbs := HH.out.2 _ (List.mem_of_getElem? hx)
        have hby := HH.out.1 _ (List.mem_of_getElem? hx)
        simp only at hbs hby
        have HI := Lib.hid (And.intro hin h201.out)
        have hi200 : i < 201 := by have := h201.out; omega
        obtain ⟨h1, h2, h3⟩ := hc wr RN.out.2
        have SRC := Lib.hid (And.intro hsrc (And.intro hcc (And.intro hby hbs)))
        obtain ⟨l, hl⟩ : ∃ l, l = bs.length := ⟨_, rfl⟩
        have HL := Lib.hid hl
        rw [← hl] at h3
        obtain ⟨y, hy⟩ : ∃ y, y = wr.alloc (.cells #[.int .i64 K, .int .i64 N, .slice a l cc] 38) := ⟨_, rfl⟩
        have bY : Below wr.heap.size wr y := by rw [hy]; exact (Below.refl _ _).alloc (Nat.le_refl _) _
        have RY := Lib.hid (And.intro (Run.below RN.out.1 bY) (RN.out.2.trans (bY.mono (Run.hi RN.out.1))))
        have HY := Lib.hid hy
        clear hc hsrc hcc hby hbs hx hl hin hi
        by_cases hK : K = 1
        · subst hK
          have CA : Hid (Calls Tryz.prog 9 #[.pointer (some ⟨r, 0, none⟩), .agg #[.int .i64 1, .int .i64 N, .slice a l cc]] y fun e w' => e = .returned (.bool true) ∧ Run w' B r g (i + 1) ∧ Below B y w') := Lib.hid (by
            rw [HL.out]
            exact call_app y B r g i false RY.out.1 (by have := HI.out; omega) (fun k => k < B) a cc bs (SRC.out.1 y RY.out.2) (fun _ h => h) SRC.out.2.1 SRC.out.2.2.1 SRC.out.2.2.2 N)
          rw [hy] at CA
          clear hy bY
          go_wp2_with fail
          go_at_call 9
          refine (CA.out).mono ?_
          rintro e w9 ⟨rfl, x, z⟩
          have R9 := Lib.hid (And.intro x (RY.out.2.trans (by rw [HY.out]; exact z)))
          clear x z
          go_wp2_with fail
          obtain ⟨p, q, mm, e1, e2, e3, _, e5⟩ := Run.ask R9.out.1 (by have := HI.out; omega)
          have B9 := Lib.hid R9.out.2
          have R9e := Lib.hid R9.out.1
          have b9d : Below w9.heap.size w9 w9.drew := (Below.refl _ _).drew
          cases mm with
          | none =>
            have S15 := Lib.hid (e5 rfl w9.drew b9d)
            simp only [Option.map_none] at e3
            clear e5 R9 b9d
            go_region_held_law (fun y : World => y.cell? ⟨r, 1, none⟩ = some (.pointer (some ⟨p, 0, none⟩)) ∧ y.cell? ⟨r, 2, none⟩ = some (.pointer (some ⟨q, 0, none⟩)) ∧ y.cell? ⟨r, 3, none⟩ = some (.pointer none))
              (first | exact ⟨e1, e2, e3⟩ | exact ⟨(World.cell?_of_block (b10.block r (cell_lt e1))).trans e1, (World.cell?_of_block (b10.block r (cell_lt e1))).trans e2, (World.cell?_of_block (b10.block r (cell_lt e1))).trans e3⟩)
              (first | (go_simp; go_at_call 15; refine (S15.out).mono ?_; rintro e w10 ⟨rfl, b10⟩; have B10 := Lib.hid b10; dsimp only))
            go_wp2_with fail
            go_roundw
            case rel => exact ⟨i + 1, by have := HI.out; omega, by go_num, Run.below R9e.out B10.out, B9.out.trans (B10.out.mono (Run.hi R9e.out))⟩
            case measure => have := HI.out; simp [intOf]; omega
          | some x =>
            simp only [Option.map_some] at e3
            clear e5 R9 b9d
            go_quiet (fail)
            go_wp2_with fail
            go_roundw
            case rel => exact ⟨i + 1, by have := HI.out; omega, by go_num, Run.below R9e.out ⟨rfl, rfl, rfl, Nat.le_refl _, fun _ _ => rfl⟩, B9.out.trans ⟨rfl, rfl, rfl, Nat.le_refl _, fun _ _ => rfl⟩⟩
            case measure => have := HI.out; simp [intOf]; omega
        · have k1 : ((K : Int) == 1) = false := by simp; exact hK
          by_cases hK2 : K = 2
          · subst hK2
            have CA : Hid (Calls Tryz.prog 9 #[.pointer (some ⟨r, 0, none⟩), .agg #[.int .i64 2, .int .i64 N, .slice a l cc]] y fun e w' => e = .returned (.bool true) ∧ Run w' B r g (i + 1) ∧ Below B y w') := Lib.hid (call_trim y B r g i RY.out.1 (by have := HI.out; omega) a l cc N)
            rw [hy] at CA
            clear hy bY hK
            go_wp2_with fail
            go_at_call 9
            refine (CA.out).mono ?_
            rintro e w9 ⟨rfl, x, z⟩
            have R9 := Lib.hid (And.intro x (RY.out.2.trans (by rw [HY.out]; exact z)))
            clear x z
            go_wp2_with fail
            obtain ⟨p, q, mm, e1, e2, e3, _, e5⟩ := Run.ask R9.out.1 (by have := HI.out; omega)
            have B9 := Lib.hid R9.out.2
            have R9e := Lib.hid R9.out.1
            have b9d : Below w9.heap.size w9 w9.drew := (Below.refl _ _).drew
            cases mm with
            | none =>
              have S15 := Lib.hid (e5 rfl w9.drew b9d)
              simp only [Option.map_none] at e3
              clear e5 R9 b9d
              go_region_held_law (fun y : World => y.cell? ⟨r, 1, none⟩ = some (.pointer (some ⟨p, 0, none⟩)) ∧ y.cell? ⟨r, 2, none⟩ = some (.pointer (some ⟨q, 0, none⟩)) ∧ y.cell? ⟨r, 3, none⟩ = some (.pointer none))
                (first | exact ⟨e1, e2, e3⟩ | exact ⟨(World.cell?_of_block (b10.block r (cell_lt e1))).trans e1, (World.cell?_of_block (b10.block r (cell_lt e1))).trans e2, (World.cell?_of_block (b10.block r (cell_lt e1))).trans e3⟩)
                (first | (go_simp; go_at_call 15; refine (S15.out).mono ?_; rintro e w10 ⟨rfl, b10⟩; have B10 := Lib.hid b10; dsimp only))
              go_wp2_with fail
              go_roundw
              case rel => exact ⟨i + 1, by have := HI.out; omega, by go_num, Run.below R9e.out B10.out, B9.out.trans (B10.out.mono (Run.hi R9e.out))⟩
              case measure => have := HI.out; simp [intOf]; omega
            | some x =>
              simp only [Option.map_some] at e3
              clear e5 R9 b9d
              go_quiet (fail)
              go_wp2_with fail
              go_roundw
              case rel => exact ⟨i + 1, by have := HI.out; omega, by go_num, Run.below R9e.out ⟨rfl, rfl, rfl, Nat.le_refl _, fun _ _ => rfl⟩, B9.out.trans ⟨rfl, rfl, rfl, Nat.le_refl _, fun _ _ => rfl⟩⟩
              case measure => have := HI.out; simp [intOf]; omega
          · have k2 : ((K : Int) == 2) = false := by simp; exact hK2
            obtain ⟨o, ho⟩ : ∃ o, o = wr.heap.size := ⟨_, rfl⟩
            have HO := Lib.hid ho
            have o1 : y.cell? ⟨o, 1, none⟩ = some (.int .i64 N) := by rw [hy, ho]; exact new_cell _ _ _ 1 _ rfl
            have o2 : y.cell? ⟨o, 2, none⟩ = some (.slice a l cc) := by rw [hy, ho]; exact new_cell _ _ _ 2 _ rfl
            have c0' := Run.c0 RY.out.1
            have OK : Hid (∀ z, Below y.heap.size y z → z.cell? ⟨r, 0, none⟩ = some (.pointer (some ⟨g, 0, none⟩)) ∧ z.cell? ⟨o, 1, none⟩ = some (.int .i64 N) ∧ z.cell? ⟨o, 2, none⟩ = some (.slice a l cc)) := Lib.hid fun z hz => ⟨(World.cell?_of_block (hz.block r (cell_lt c0'))).trans c0', (World.cell?_of_block (hz.block o (cell_lt o1))).trans o1, (World.cell?_of_block (hz.block o (cell_lt o1))).trans o2⟩
            have OB : Hid (∀ z, Below B y z → z.heap.size = z.heap.size) := Lib.hid fun z _ => rfl
            have yd : Below y.heap.size y y.drew := (Below.refl _ _).drew
            have YD := Lib.hid (And.intro (Run.below RY.out.1 yd) (RY.out.2.trans (yd.mono (Run.hi RY.out.1))))
            clear yd OB
            by_cases hK3 : K = 3
            · subst hK3
              obtain ⟨u, hu⟩ : ∃ u, u = IntKind.u64.wrap N := ⟨_, rfl⟩
              obtain ⟨z, hz⟩ : ∃ z, z = Int.tmod u 20 := ⟨_, rfl⟩
              have hu0 : 0 ≤ u := by rw [hu, IntKind.wrap_u64]; omega
              have hzb : 0 ≤ z ∧ z < 20 := by rw [hz, Int.tmod_eq_emod_of_nonneg hu0]; omega
              have q1 : IntKind.u64.wrap N = u := hu.symm
              have q2 : Int.tmod u 20 = z := hz.symm
              have q3 : IntKind.u64.wrap z = z := by rw [IntKind.wrap_u64]; omega
              have q4 : IntKind.i64.wrap z = z := by rw [IntKind.wrap_i64]; omega
              have FS : Hid (Calls Tryz.prog 10 #[.pointer (some ⟨g, 0, none⟩), .int .i64 z] y.drew fun e w' => e = .returned (.tuple #[]) ∧ Run w' B r g i ∧ Below B y.drew w') := Lib.hid (run_fuse y.drew B r g i YD.out.1 z (by omega))
              clear bY hK hK2 hz hu hzb hu0
              go_wp2_with fail
              rw [← hy, ← ho]
              clear hy ho
              go_region_with (go_at_call 10; refine (FS.out).mono ?_; rintro e w9 ⟨rfl, x, z9⟩; have R9 := Lib.hid (And.intro (Run.mono x (Nat.le_succ i)) (YD.out.2.trans z9)); clear x z9)
              all_goals
                go_wp2_with fail
                obtain ⟨p, q, mm, e1, e2, e3, _, e5⟩ := Run.ask R9.out.1 (by have := HI.out; omega)
                have B9 := Lib.hid R9.out.2
                have R9e := Lib.hid R9.out.1
                have b9d : Below w9.heap.size w9 w9.drew := (Below.refl _ _).drew
                cases mm with
                | none =>
                  have S15 := Lib.hid (e5 rfl w9.drew b9d)
                  simp only [Option.map_none] at e3
                  clear e5 R9 b9d
                  go_region_held_law (fun y : World => y.cell? ⟨r, 1, none⟩ = some (.pointer (some ⟨p, 0, none⟩)) ∧ y.cell? ⟨r, 2, none⟩ = some (.pointer (some ⟨q, 0, none⟩)) ∧ y.cell? ⟨r, 3, none⟩ = some (.pointer none))
                    (first | exact ⟨e1, e2, e3⟩ | exact ⟨(World.cell?_of_block (b10.block r (cell_lt e1))).trans e1, (World.cell?_of_block (b10.block r (cell_lt e1))).trans e2, (World.cell?_of_block (b10.block r (cell_lt e1))).trans e3⟩)
                    (first | (go_simp; go_at_call 15; refine (S15.out).mono ?_; rintro e w10 ⟨rfl, b10⟩; have B10 := Lib.hid b10; dsimp only))
                  go_wp2_with fail
                  go_roundw
                  case rel => exact ⟨i + 1, by have := HI.out; omega, by go_num, Run.below R9e.out B10.out, B9.out.trans (B10.out.mono (Run.hi R9e.out))⟩
                  case measure => have := HI.out; simp [intOf]; omega
                | some x =>
                  simp only [Option.map_some] at e3
                  clear e5 R9 b9d
                  go_quiet (fail)
                  go_wp2_with fail
                  go_roundw
                  case rel => exact ⟨i + 1, by have := HI.out; omega, by go_num, Run.below R9e.out ⟨rfl, rfl, rfl, Nat.le_refl _, fun _ _ => rfl⟩, B9.out.trans ⟨rfl, rfl, rfl, Nat.le_refl _, fun _ _ => rfl⟩⟩
                  case measure => have := HI.out; simp [intOf]; omega
            · have k3 : ((K : Int) == 3) = false := by simp; exact hK3
              by_cases hK4 : K = 4
              · subst hK4
                have RS : Hid (Calls Tryz.prog 11 #[.pointer (some ⟨g, 0, none⟩), .slice a l cc] y.drew fun e w' => e = .returned (.tuple #[]) ∧ Below B W w' ∧ Pre w' B r g i true ∧ w'.cell? ⟨o, 2, none⟩ = some (.slice a l cc)) := Lib.hid (by
                  refine (run_restart_fr wr y.drew B r g i RN.out.1 bY.drew (by have := HI.out; omega) (fun k => k < B) (fun _ h => h) _ bs (by rw [HL.out]; exact SRC.out.1 _ YD.out.2) SRC.out.2.2.1).mono ?_
                  rintro e w' ⟨rfl, x, z, f⟩
                  exact ⟨rfl, YD.out.2.trans x, z, (World.cell?_of_block (f o (by rw [ho]; exact Nat.le_refl _) (by have := cell_lt o2; exact this))).trans o2⟩)
                have OC : Hid (∀ z, Pre z B r g i true → Below B W z → Calls Tryz.prog 8 #[.pointer (some ⟨r, 0, none⟩), .slice a l cc] z fun e w' => e = .returned (.bool true) ∧ Run w' B r g i ∧ Below B W w') := Lib.hid fun z hz hb => by
                  rw [HL.out]
                  refine (open8 z B r g i true hz (by have := HI.out; omega) (fun k => k < B) (fun _ h => h) a cc bs (by have := SRC.out.1 z hb; exact this) SRC.out.2.2.1).mono ?_
                  rintro e w' ⟨rfl, x, b⟩
                  exact ⟨rfl, Run.mono x (Nat.le_refl _), hb.trans b⟩
                clear bY hK hK2 hK3
                go_wp2_with fail
                rw [← hy, ← ho]
                clear hy ho
                go_region_with (go_at_call 11; refine (RS.out).mono ?_; rintro e w8 ⟨rfl, x, z, f8⟩; have R8 := Lib.hid (And.intro z x); clear x z)
                all_goals
                  go_wp2_with fail
                  go_at_call 8
                  refine (OC.out w8 R8.out.1 R8.out.2).mono ?_
                  rintro e w9 ⟨rfl, x, z⟩
                  have R9 := Lib.hid (And.intro (Run.mono x (Nat.le_succ i)) z)
                  clear x z f8
                  go_wp2_with fail
                  obtain ⟨p, q, mm, e1, e2, e3, _, e5⟩ := Run.ask R9.out.1 (by have := HI.out; omega)
                  have B9 := Lib.hid R9.out.2
                  have R9e := Lib.hid R9.out.1
                  have b9d : Below w9.heap.size w9 w9.drew := (Below.refl _ _).drew
                  cases mm with
                  | none =>
                    have S15 := Lib.hid (e5 rfl w9.drew b9d)
                    simp only [Option.map_none] at e3
                    clear e5 R9 b9d
                    go_region_held_law (fun y : World => y.cell? ⟨r, 1, none⟩ = some (.pointer (some ⟨p, 0, none⟩)) ∧ y.cell? ⟨r, 2, none⟩ = some (.pointer (some ⟨q, 0, none⟩)) ∧ y.cell? ⟨r, 3, none⟩ = some (.pointer none))
                      (first | exact ⟨e1, e2, e3⟩ | exact ⟨(World.cell?_of_block (b10.block r (cell_lt e1))).trans e1, (World.cell?_of_block (b10.block r (cell_lt e1))).trans e2, (World.cell?_of_block (b10.block r (cell_lt e1))).trans e3⟩)
                      (first | (go_simp; go_at_call 15; refine (S15.out).mono ?_; rintro e w10 ⟨rfl, b10⟩; have B10 := Lib.hid b10; dsimp only))
                    go_wp2_with fail
                    go_roundw
                    case rel => exact ⟨i + 1, by have := HI.out; omega, by go_num, Run.below R9e.out B10.out, B9.out.trans (B10.out.mono (Run.hi R9e.out))⟩
                    case measure => have := HI.out; simp [intOf]; omega
                  | some x =>
                    simp only [Option.map_some] at e3
                    clear e5 R9 b9d
                    go_quiet (fail)
                    go_wp2_with fail
                    go_roundw
                    case rel => exact ⟨i + 1, by have := HI.out; omega, by go_num, Run.below R9e.out ⟨rfl, rfl, rfl, Nat.le_refl _, fun _ _ => rfl⟩, B9.out.trans ⟨rfl, rfl, rfl, Nat.le_refl _, fun _ _ => rfl⟩⟩
                    case measure => have := HI.out; simp [intOf]; omega
              · have k4 : ((K : Int) == 4) = false := by simp; exact hK4
                by_cases hK5 : K = 5
                · subst hK5
                  obtain ⟨d, dn, d3⟩ := run_down RY.out.1
                  have c0a := c0'
                  rw [hy] at c0a
                  cases d with
                  | true =>
                    have DN : Hid (Calls Tryz.prog 12 #[.pointer (some ⟨g, 0, none⟩)] y fun e w' => e = .returned (.bool true) ∧ w' = y) := Lib.hid (dn y (Below.refl _ _))
                    rw [hy] at DN
                    clear dn d3 bY hK hK2 hK3 hK4
                    go_wp2_with fail
                    go_at_call 12
                    refine (DN.out).mono ?_
                    rintro e w8 ⟨rfl, rfl⟩
                    go_wp2_with fail
                    rw [← hy]
                    clear hy ho
                    have R9 := Lib.hid (And.intro (Run.mono RY.out.1 (Nat.le_succ i)) RY.out.2)
                    obtain ⟨w9, hw9⟩ : ∃ w9, w9 = y := ⟨_, rfl⟩
                    rw [← hw9] at R9 ⊢
                    clear hw9
                    obtain ⟨p, q, mm, e1, e2, e3, _, e5⟩ := Run.ask R9.out.1 (by have := HI.out; omega)
                    have B9 := Lib.hid R9.out.2
                    have R9e := Lib.hid R9.out.1
                    have b9d : Below w9.heap.size w9 w9.drew := (Below.refl _ _).drew
                    cases mm with
                    | none =>
                      have S15 := Lib.hid (e5 rfl w9.drew b9d)
                      simp only [Option.map_none] at e3
                      clear e5 R9 b9d
                      go_region_held_law (fun y : World => y.cell? ⟨r, 1, none⟩ = some (.pointer (some ⟨p, 0, none⟩)) ∧ y.cell? ⟨r, 2, none⟩ = some (.pointer (some ⟨q, 0, none⟩)) ∧ y.cell? ⟨r, 3, none⟩ = some (.pointer none))
                        (first | exact ⟨e1, e2, e3⟩ | exact ⟨(World.cell?_of_block (b10.block r (cell_lt e1))).trans e1, (World.cell?_of_block (b10.block r (cell_lt e1))).trans e2, (World.cell?_of_block (b10.block r (cell_lt e1))).trans e3⟩)
                        (first | (go_simp; go_at_call 15; refine (S15.out).mono ?_; rintro e w10 ⟨rfl, b10⟩; have B10 := Lib.hid b10; dsimp only))
                      go_wp2_with fail
                      go_roundw
                      case rel => exact ⟨i + 1, by have := HI.out; omega, by go_num, Run.below R9e.out B10.out, B9.out.trans (B10.out.mono (Run.hi R9e.out))⟩
                      case measure => have := HI.out; simp [intOf]; omega
                    | some x =>
                      simp only [Option.map_some] at e3
                      clear e5 R9 b9d
                      go_quiet (fail)
                      go_wp2_with fail
                      go_roundw
                      case rel => exact ⟨i + 1, by have := HI.out; omega, by go_num, Run.below R9e.out ⟨rfl, rfl, rfl, Nat.le_refl _, fun _ _ => rfl⟩, B9.out.trans ⟨rfl, rfl, rfl, Nat.le_refl _, fun _ _ => rfl⟩⟩
                      case measure => have := HI.out; simp [intOf]; omega
                  | false =>
                    have e3 := d3 rfl
                    have DN : Hid (Calls Tryz.prog 12 #[.pointer (some ⟨g, 0, none⟩)] y fun e w' => e = .returned (.bool false) ∧ w' = y) := Lib.hid (dn y (Below.refl _ _))
                    have OP : Hid (Calls Tryz.prog 8 #[.pointer (some ⟨r, 0, none⟩), .slice none 0 0] y fun e w' => e = .returned (.bool true) ∧ (Run w' B r g i ∧ w'.cell? ⟨r, 3, none⟩ = some (.pointer none)) ∧ Below B W w') := Lib.hid (OPN.out y r g i (by have := HI.out; omega) (run_pre RY.out.1 e3) RY.out.2)
                    rw [hy] at DN OP e3
                    clear dn d3 bY hK hK2 hK3 hK4
                    go_wp2_with fail
                    go_at_call 12
                    refine (DN.out).mono ?_
                    rintro e w8 ⟨rfl, rfl⟩
                    go_wp2_with fail
                    go_at_call 8
                    refine (OP.out).mono ?_
                    rintro e w9 ⟨rfl, x, z⟩
                    have R9 := Lib.hid (And.intro (Run.mono x.1 (Nat.le_succ i)) z)
                    clear x z hy ho c0a e3
                    go_wp2_with fail
                    obtain ⟨p, q, mm, e1, e2, e3, _, e5⟩ := Run.ask R9.out.1 (by have := HI.out; omega)
                    have B9 := Lib.hid R9.out.2
                    have R9e := Lib.hid R9.out.1
                    have b9d : Below w9.heap.size w9 w9.drew := (Below.refl _ _).drew
                    cases mm with
                    | none =>
                      have S15 := Lib.hid (e5 rfl w9.drew b9d)
                      simp only [Option.map_none] at e3
                      clear e5 R9 b9d
                      go_region_held_law (fun y : World => y.cell? ⟨r, 1, none⟩ = some (.pointer (some ⟨p, 0, none⟩)) ∧ y.cell? ⟨r, 2, none⟩ = some (.pointer (some ⟨q, 0, none⟩)) ∧ y.cell? ⟨r, 3, none⟩ = some (.pointer none))
                        (first | exact ⟨e1, e2, e3⟩ | exact ⟨(World.cell?_of_block (b10.block r (cell_lt e1))).trans e1, (World.cell?_of_block (b10.block r (cell_lt e1))).trans e2, (World.cell?_of_block (b10.block r (cell_lt e1))).trans e3⟩)
                        (first | (go_simp; go_at_call 15; refine (S15.out).mono ?_; rintro e w10 ⟨rfl, b10⟩; have B10 := Lib.hid b10; dsimp only))
                      go_wp2_with fail
                      go_roundw
                      case rel => exact ⟨i + 1, by have := HI.out; omega, by go_num, Run.below R9e.out B10.out, B9.out.trans (B10.out.mono (Run.hi R9e.out))⟩
                      case measure => have := HI.out; simp [intOf]; omega
                    | some x =>
                      simp only [Option.map_some] at e3
                      clear e5 R9 b9d
                      go_quiet (fail)
                      go_wp2_with fail
                      go_roundw
                      case rel => exact ⟨i + 1, by have := HI.out; omega, by go_num, Run.below R9e.out ⟨rfl, rfl, rfl, Nat.le_refl _, fun _ _ => rfl⟩, B9.out.trans ⟨rfl, rfl, rfl, Nat.le_refl _, fun _ _ => rfl⟩⟩
                      case measure => have := HI.out; simp [intOf]; omega
                · have k5 : ((K : Int) == 5) = false := by simp; exact hK5
                  by_cases hK6 : K = 6
                  · subst hK6
                    obtain ⟨u, hu⟩ : ∃ u, u = IntKind.u64.wrap N := ⟨_, rfl⟩
                    obtain ⟨z, hz⟩ : ∃ z, z = Int.tmod u 200 := ⟨_, rfl⟩
                    have hu0 : 0 ≤ u := by rw [hu, IntKind.wrap_u64]; omega
                    have hzb : 0 ≤ z ∧ z < 200 := by rw [hz, Int.tmod_eq_emod_of_nonneg hu0]; omega
                    have q1 : IntKind.u64.wrap N = u := hu.symm
                    have q2 : Int.tmod u 200 = z := hz.symm
                    have q3 : IntKind.u64.wrap z = z := by rw [IntKind.wrap_u64]; omega
                    have q4 : IntKind.i64.wrap z = z := by rw [IntKind.wrap_i64]; omega
                    obtain ⟨us, hus, US⟩ := run_used YD.out.1 (by have := HI.out; omega)
                    obtain ⟨t, ht⟩ : ∃ t, t = (us : Int) + z := ⟨_, rfl⟩
                    have q5 : IntKind.i64.wrap ((us : Int) + z) = t := by rw [IntKind.wrap_i64]; omega
                    have UN : Hid (∀ x, Below y.drew.heap.size y.drew x → Calls Tryz.prog 14 #[.pointer (some ⟨g, 0, none⟩)] x fun e w' => e = .returned (.int .i64 (us : Nat)) ∧ w' = x) := Lib.hid US
                    have FS : Hid (Calls Tryz.prog 13 #[.pointer (some ⟨g, 0, none⟩), .int .i64 t] y.drew fun e w' => e = .returned (.tuple #[]) ∧ Run w' B r g i ∧ Below B y.drew w' ∧ w'.cell? ⟨r, 0, none⟩ = some (.pointer (some ⟨g, 0, none⟩)) ∧ w'.cell? ⟨o, 1, none⟩ = some (.int .i64 N)) := Lib.hid (by
                      refine (run_room_fr wr y.drew B r g i RN.out.1 bY.drew t (by omega)).mono ?_
                      rintro e w' ⟨rfl, x, b', f⟩
                      exact ⟨rfl, x, b', Run.c0 x, (World.cell?_of_block (f o (by rw [ho]; exact Nat.le_refl _) (by have := cell_lt o1; exact this))).trans o1⟩)
                    clear bY hK hK2 hK3 hK4 hK5 hz hu hzb hu0 US ht hus
                    go_wp2_with fail
                    rw [← hy, ← ho]
                    clear hy ho
                    go_region_held_law (fun z : World => z.cell? ⟨r, 0, none⟩ = some (.pointer (some ⟨g, 0, none⟩)) ∧ z.cell? ⟨o, 1, none⟩ = some (.int .i64 N))
                      (first | exact ⟨c0', o1⟩ | exact X9)
                      (first | (go_simp; go_at_call 14; refine (UN.out _ (Below.refl _ _)).mono ?_; rintro e w8 ⟨rfl, rfl⟩; dsimp only) | (go_simp; go_at_call 13; refine (FS.out).mono ?_; rintro e w9 ⟨rfl, x, z9, X9⟩; have R9 := Lib.hid (And.intro (Run.mono x (Nat.le_succ i)) (YD.out.2.trans z9)); clear x z9; dsimp only))
                    clear X9
                    go_wp2_with fail
                    obtain ⟨p, q, mm, e1, e2, e3, _, e5⟩ := Run.ask R9.out.1 (by have := HI.out; omega)
                    have B9 := Lib.hid R9.out.2
                    have R9e := Lib.hid R9.out.1
                    have b9d : Below w9.heap.size w9 w9.drew := (Below.refl _ _).drew
                    cases mm with
                    | none =>
                      have S15 := Lib.hid (e5 rfl w9.drew b9d)
                      simp only [Option.map_none] at e3
                      clear e5 R9 b9d
                      go_region_held_law (fun y : World => y.cell? ⟨r, 1, none⟩ = some (.pointer (some ⟨p, 0, none⟩)) ∧ y.cell? ⟨r, 2, none⟩ = some (.pointer (some ⟨q, 0, none⟩)) ∧ y.cell? ⟨r, 3, none⟩ = some (.pointer none))
                        (first | exact ⟨e1, e2, e3⟩ | exact ⟨(World.cell?_of_block (b10.block r (cell_lt e1))).trans e1, (World.cell?_of_block (b10.block r (cell_lt e1))).trans e2, (World.cell?_of_block (b10.block r (cell_lt e1))).trans e3⟩)
                        (first | (go_simp; go_at_call 15; refine (S15.out).mono ?_; rintro e w10 ⟨rfl, b10⟩; have B10 := Lib.hid b10; dsimp only))
                      go_wp2_with fail
                      go_roundw
                      case rel => exact ⟨i + 1, by have := HI.out; omega, by go_num, Run.below R9e.out B10.out, B9.out.trans (B10.out.mono (Run.hi R9e.out))⟩
                      case measure => have := HI.out; simp [intOf]; omega
                    | some x =>
                      simp only [Option.map_some] at e3
                      clear e5 R9 b9d
                      go_quiet (fail)
                      go_wp2_with fail
                      go_roundw
                      case rel => exact ⟨i + 1, by have := HI.out; omega, by go_num, Run.below R9e.out ⟨rfl, rfl, rfl, Nat.le_refl _, fun _ _ => rfl⟩, B9.out.trans ⟨rfl, rfl, rfl, Nat.le_refl _, fun _ _ => rfl⟩⟩
                      case measure => have := HI.out; simp [intOf]; omega
                  · have k6 : ((K : Int) == 6) = false := by simp; exact hK6
                    clear bY hK hK2 hK3 hK4 hK5 hK6
                    go_wp2_with fail
                    rw [← hy]
                    clear hy ho
                    have R9 := Lib.hid (And.intro (Run.mono RY.out.1 (Nat.le_succ i)) RY.out.2)
                    obtain ⟨w9, hw9⟩ : ∃ w9, w9 = y := ⟨_, rfl⟩
                    rw [← hw9] at R9 ⊢
                    clear hw9
                    obtain ⟨p, q, mm, e1, e2, e3, _, e5⟩ := Run.ask R9.out.1 (by have := HI.out; omega)
                    have B9 := Lib.hid R9.out.2
                    have R9e := Lib.hid R9.out.1
                    have b9d : Below w9.heap.size w9 w9.drew := (Below.refl _ _).drew
                    cases mm with
                    | none =>
                      have S15 := Lib.hid (e5 rfl w9.drew b9d)
                      simp only [Option.map_none] at e3
                      clear e5 R9 b9d
                      go_region_held_law (fun y : World => y.cell? ⟨r, 1, none⟩ = some (.pointer (some ⟨p, 0, none⟩)) ∧ y.cell? ⟨r, 2, none⟩ = some (.pointer (some ⟨q, 0, none⟩)) ∧ y.cell? ⟨r, 3, none⟩ = some (.pointer none))
                        (first | exact ⟨e1, e2, e3⟩ | exact ⟨(World.cell?_of_block (b10.block r (cell_lt e1))).trans e1, (World.cell?_of_block (b10.block r (cell_lt e1))).trans e2, (World.cell?_of_block (b10.block r (cell_lt e1))).trans e3⟩)
                        (first | (go_simp; go_at_call 15; refine (S15.out).mono ?_; rintro e w10 ⟨rfl, b10⟩; have B10 := Lib.hid b10; dsimp only))
                      go_wp2_with fail
                      go_roundw
                      case rel => exact ⟨i + 1, by have := HI.out; omega, by go_num, Run.below R9e.out B10.out, B9.out.trans (B10.out.mono (Run.hi R9e.out))⟩
                      case measure => have := HI.out; simp [intOf]; omega
                    | some x =>
                      simp only [Option.map_some] at e3
                      clear e5 R9 b9d
                      go_quiet (fail)
                      go_wp2_with fail
                      go_roundw
                      case rel => exact ⟨i + 1, by have := HI.out; omega, by go_num, Run.below R9e.out ⟨rfl, rfl, rfl, Nat.le_refl _, fun _ _ => rfl⟩, B9.out.trans ⟨rfl, rfl, rfl, Nat.le_refl _, fun _ _ => rfl⟩⟩
                      case measure => have := HI.out; simp [intOf]; omega
      · obtain rfl : i = n := by omega
        have hin2 : ¬ (i : Int) < (i : Int) := by omega
        clear hin hi
        go_wp2_with fail
        go_ret
        exact ⟨rfl, RN.out.2⟩
end X17
end Go.Proofs.YtdaknlmnelfedaaGreatDoor
