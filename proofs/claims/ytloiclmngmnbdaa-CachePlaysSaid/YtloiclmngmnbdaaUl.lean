/- The law CachePlays: the walk. -/
import Derived.Test.YtloiclmngmnbdaaUj
import Derived.Test.YtloiclmngmnbdaaOb
namespace Go.Proofs.Ytloiclmngmnbdaa
open Go.RowKit Go.Maps Go.ChangeMaps Go.MapKept
namespace Ul
open Jb Ca Ck Ct Cd Cz Ln Cq Ce Dh Tb Ua Ub Uc Ud Ue Uf Ug Uh Uj Uk Li Sf Rd Re Rf Ob
open Ui (Dt)

/-- What is known of both at the round k. -/
def Kk (w wr : World) (g h k N : Nat) (V : Vw) : Prop := ∃ S S2 T, Two wr S S2 g h N V T ∧ Below w.heap.size w wr ∧ (∀ j, S j → w.heap.size ≤ j) ∧ (∀ j, S2 j → w.heap.size ≤ j) ∧ V.size ≤ k ∧ N ≤ k
theorem Kk.below {w wr y : World} {g h k N : Nat} {V : Vw} (K : Kk w wr g h k N V) (b : Below wr.heap.size wr y) : Kk w y g h k N V := by
  obtain ⟨S, S2, T, t, b0, a1, a2, a3, a4⟩ := K
  exact ⟨S, S2, T, ⟨t.dv.below b, t.dt.below b, t.of, t.ap⟩, b0.trans (b.mono b0.size), a1, a2, a3, a4⟩
theorem Kk.play {w wr wb : World} {g h k N : Nat} {V : Vw} (K : Kk w wr g h k N V) (bb : Below wr.heap.size wr wb) (hk : k ≤ 200) (o : Oc) (ho : Wo o) :
    Calls Try.prog 11 #[.pointer (some ⟨g, 0, none⟩), .pointer (some ⟨h, 0, none⟩), opa o] wb fun e w' => e = .returned (.bool true) ∧ Kk w w' g h (k + 1) (N + 1) (stp V o) ∧ wb.heap.size ≤ w'.heap.size ∧ ∀ j, wr.heap.size ≤ j → j < wb.heap.size → w'.heap[j]? = wb.heap[j]? := by
  obtain ⟨S, S2, T, t, b0, a1, a2, a3, a4⟩ := K
  have l1 := t.dv.lt
  have l2 := t.dt.lt
  refine (playT wb S S2 g h N V T ⟨t.dv.below bb, t.dt.below bb, t.of, t.ap⟩ o ho.1 ho.2 (by omega) (by omega)).mono ?_
  rintro e w' ⟨rfl, S', S2', T', t', x1, x2, c⟩
  have z := b0.size
  have zb := bb.size
  refine ⟨rfl, ⟨S', S2', T', t', (b0.trans (bb.mono z)).trans (c.below (fun j hj _ => ?_) (by omega)), fun j hj => ?_, fun j hj => ?_, ?_, by omega⟩, c.size, fun j h1 h2 => c.block j h2 (fun e => ?_)⟩
  · rcases hj with hj | hj
    · exact a1 j hj
    · exact a2 j hj
  · rcases x1 j hj with y | y
    · exact a1 j y
    · omega
  · rcases x2 j hj with y | y
    · exact a2 j y
    · omega
  · have := stp_size (V := V) o; omega
  · rcases e with y | y
    · have := l1 j y; omega
    · have := l2 j y; omega
theorem Kk.size {w wr : World} {g h k N : Nat} {V : Vw} (K : Kk w wr g h k N V) (hk : k ≤ 201) : (Calls Try.prog 12 #[.pointer (some ⟨g, 0, none⟩)] wr fun e w' => e = .returned (.int .i64 (V.size : Nat)) ∧ w' = wr) ∧ (Calls Try.prog 13 #[.pointer (some ⟨h, 0, none⟩)] wr fun e w' => e = .returned (.int .i64 (V.size : Nat)) ∧ w' = wr) := by
  obtain ⟨S, S2, T, t, b0, a1, a2, a3, a4⟩ := K
  exact ⟨sizeD wr S g N V t.dv, size13D wr S2 h V T t.dt t.of (by omega)⟩
theorem Kk.get {w wr : World} {g h k N : Nat} {V : Vw} (K : Kk w wr g h k N V) (hk : k ≤ 201) (s : Ky) (hs : ok s) (a b : Int) :
    (Calls Try.prog 15 #[.pointer (some ⟨g, 0, none⟩), .string s.1, .string s.2, .int .i64 a, .int .i64 b] wr fun e w' => ∃ r, e = .returned r ∧ Pi w' r (rng a b (V.P s)) ∧ Below wr.heap.size wr w') ∧
    (Calls Try.prog 16 #[.pointer (some ⟨h, 0, none⟩), .string s.1, .string s.2, .int .i64 a, .int .i64 b] wr fun e w' => ∃ r, e = .returned r ∧ Pi w' r (rng a b (V.P s)) ∧ Below wr.heap.size wr w') ∧ (rng a b (V.P s)).length ≤ 1000 := by
  obtain ⟨S, S2, T, t, b0, a1, a2, a3, a4⟩ := K
  have hl := t.of.le s
  have hw : ∀ x ∈ rng a b (V.P s), Wp x := fun x hx => t.dv.wp s x (List.mem_filter.1 hx).1
  refine ⟨(getD wr S g N V t.dv s hs a b (by omega)).mono ?_, (get16D wr S2 h V T t.dt t.of (by omega) s a b).mono ?_, ?_⟩
  · rintro e w' ⟨r, rfl, o, b⟩
    exact ⟨r, rfl, pi_own o hw, b⟩
  · rintro e w' ⟨r, rfl, o, b⟩
    exact ⟨r, rfl, pi_own o hw, b⟩
  · have : (rng a b (V.P s)).length ≤ (V.P s).length := List.length_filter_le _ _
    omega
/-- The end: all columns. -/
theorem Kk.cols {w wr : World} {g h k N : Nat} {V : Vw} (K : Kk w wr g h k N V) (hk : k ≤ 201) :
    ∃ u : Value, (∃ a n c, u = .slice a n c) ∧ (Calls Try.prog 18 #[.pointer (some ⟨g, 0, none⟩)] wr fun e w' => ∃ va vn vc, e = .returned (.slice va vn vc) ∧ Below wr.heap.size wr w' ∧ Hid (∀ y, Below w'.heap.size w' y → Calls Try.prog 17 #[.slice va vn vc, u] y fun e w' => e = .returned (.bool true) ∧ Below y.heap.size y w')) ∧ (∀ y, Below wr.heap.size wr y → y.cell? ⟨h, 0, none⟩ = some u) := by
  obtain ⟨S, S2, T, t, b0, a1, a2, a3, a4⟩ := K
  obtain ⟨v2, R, hT, r⟩ := t.dt
  have hN : N ≤ 140737488355 := by omega
  have hle := t.of.le
  have hsz : V.size ≤ 1000000 := by omega
  have hRn : R.length ≤ 1000000 := by have h1 := Ui.len_le t.of.ne; have h2 := t.of.sum; rw [← hT, tab_len] at h1; rw [← hT] at h2; omega
  refine ⟨v2, own_formsN r.tm.own, (columnsD wr S g N V t.dv hN (fun s => by have := hle s; omega)).mono ?_, fun y b => (World.cell?_of_block (b.block h (r.lt h r.sh))).trans r.c0⟩
  rintro e w' ⟨v, ys, rfl, ⟨p1, p2⟩, c, b⟩
  obtain ⟨va, vn, vc, rfl⟩ : ∃ va vn vc, v = .slice va vn vc := by obtain ⟨rs, _, o, _⟩ := c; exact own_formsN o
  refine ⟨va, vn, vc, rfl, b, Lib.hid fun y by' => ?_⟩
  have hys : ys = R.map (·.1) := by
    have e1 : R.map (·.1) = T.map (·.1) := by rw [← hT]; unfold tab; rw [List.map_map]; rfl
    rw [e1]
    exact rows_eq p1 (keys_srt t.of.srt) fun x => (p2 x).trans (by rw [t.of.get]; exact (mem_keys t.of.srt t.of.ne x).symm)
  have hP : ∀ c ∈ R, V.P c.1 = c.2.1 := fun c hc => by
    obtain ⟨i, hi, rfl⟩ := List.getElem_of_mem hc
    have e := tab_get R i
    rw [List.getD_eq_getElem?_getD (l := R), List.getElem?_eq_getElem hi] at e
    simp only [Option.getD_some] at e
    have q := tget_at (T := tab R) (by rw [hT]; exact t.of.srt) (i := i) (by rw [tab_len]; exact hi)
    rw [e] at q
    rw [t.of.get, ← hT]
    exact q
  have r' := (r.below b (Nat.le_refl _)).below by' (Nat.le_refl _)
  exact same17 y wr.heap.size _ ys V.P (c.below by') (by have := b.size; have := by'.size; omega) S2 v2 R r'.tm r.wp hys hP (fun c hc => by rw [← hP c hc]; have := hle c.1; omega) hRn
set_option maxRecDepth 100000
set_option maxHeartbeats 4000000 in
theorem plays3 (w : World) (m : Int) (v : Value) (O : List Oc) (hm : -9223372036854775808 ≤ m ∧ m ≤ 9223372036854775807) (hO : Oi w v O) :
    Calls Try.prog 3 #[.int .i64 m, v] w fun e w' => e = .returned (.bool true) ∧ Below w.heap.size w w' := by
  have AW := Lib.hid (awake8 w)
  have NW := Lib.hid (fun w => newD w m hm)
  have RN := Lib.hid (fun w => Uj.refnew10 w m hm)
  obtain ⟨a, c, hve⟩ := hO.forms
  rw [hve]
  obtain ⟨n, hn⟩ : ∃ n, n = O.length := ⟨_, rfl⟩
  rw [← hn]
  have HA := Lib.hid (show 0 < n → ∃ b off, a = some ⟨b, off, none⟩ ∧ n ≤ c ∧ b < w.heap.size ∧ ∀ i, i < n → OAt w b (off + i * 9) (O.getD i o0) ∧ Wo (O.getD i o0) from fun h0 => by
    rcases hO.2 with ⟨_, _, _, e⟩ | ⟨b, off, c2, e, h1, h2, h3⟩
    · rw [e] at hn; simp at hn; omega
    · rw [hve] at e
      cases e
      rw [← hn] at h1 h3
      exact ⟨b, off, rfl, h1, h2, fun i hi => ⟨h3 i hi, hO.1 _ (by rw [List.getD_eq_getElem?_getD, List.getElem?_eq_getElem (by omega)]; exact List.getElem_mem _)⟩⟩)
  clear hO hn hve hm
  go_enter Try.func3, Try.ntmps3
  go_wp2_with fail
  refine AW.out.mono ?_
  rintro e w1 ⟨rfl, b1⟩
  have B1 := Lib.hid b1
  clear b1
  go_wp2_with fail
  refine (NW.out _).mono ?_
  rintro e w2 ⟨rfl, d2, b2⟩
  have D2 := Lib.hid (show DV w2 (fun k => w1.heap.size ≤ k ∧ k < w2.heap.size) w1.heap.size 0 (V0 m.toNat) from d2)
  have B2 := Lib.hid (B1.out.trans (b2.mono B1.out.size))
  have S1 := Lib.hid (show w.heap.size ≤ w1.heap.size ∧ w1.heap.size ≤ w2.heap.size from ⟨B1.out.size, b2.size⟩)
  clear d2 b2
  go_wp2_with fail
  refine (RN.out _).mono ?_
  rintro e w3 ⟨rfl, d3, b3⟩
  have K0 := Lib.hid (show Kk w w3 w1.heap.size w2.heap.size 0 0 (V0 m.toNat) from ⟨_, _, [], ⟨D2.out.below b3, d3, Re.Of.zero _, fun k hk hk2 => by have := hk.2; have := hk2.1; omega⟩, B2.out.trans (b3.mono B2.out.size), fun j hj => by have := S1.out.1; have := hj.1; omega, fun j hj => by have := S1.out; have := hj.1; omega, Nat.le_refl _, Nat.le_refl _⟩)
  obtain ⟨g, hg⟩ : ∃ g, g = w1.heap.size := ⟨_, rfl⟩
  obtain ⟨h, hh⟩ : ∃ h, h = w2.heap.size := ⟨_, rfl⟩
  rw [← hg, ← hh] at K0 ⊢
  obtain ⟨ok0, hok0⟩ : ∃ x, x = V0 m.toNat := ⟨_, rfl⟩
  rw [← hok0] at K0
  clear d3 b3 D2 B2 S1 NW RN AW B1 hg hh hok0
  go_wp2_with fail
  go_loopw [17] (fun i wr => ∃ k V, i = .int .i64 (k : Nat) ∧ k ≤ n ∧ k ≤ 200 ∧ Hid (Kk w wr g h k k V)) (fun i _ => n - (intOf i).toNat)
  case atStart => exact ⟨0, ok0, rfl, Nat.zero_le _, by omega, K0⟩
  case round =>
    obtain ⟨k, V, rfl, hkn, hk2, HR⟩ := hrel
    by_cases hk : k < n
    case neg =>
      have KD := Lib.hid (HR.out.below (Below.refl _ wr).drew)
      obtain ⟨u9, ⟨ua, un, uc, rfl⟩, c18, ce⟩ := KD.out.cols (by omega)
      have C18 := Lib.hid c18
      have CE := Lib.hid ce
      have kX := ce wr.drew (Below.refl _ _)
      have BQ := Lib.hid (show Below w.heap.size w wr.drew from by obtain ⟨_, _, _, _, b, _⟩ := KD.out; exact b)
      clear c18 ce
      go_wp2_with fail
      go_region_held (fun y => y.cell? ⟨h, 0, none⟩ = some (.slice ua un uc))
        (first | exact kX | exact kY | exact kZ)
        (first | (go_at_call 18; refine C18.out.mono ?_; rintro e w4 ⟨va, vn, vc, rfl, b4, h17⟩; have S17 := Lib.hid (h17.out w4 (Below.refl _ _)); have kY := CE.out w4 b4; have B4 := Lib.hid b4; clear b4 h17) | (go_at_call 17; refine S17.out.mono ?_; rintro e w5 ⟨rfl, b5⟩; have B5 := Lib.hid (B4.out.trans (b5.mono B4.out.size)); have kZ := CE.out w5 B5.out; clear b5))
      all_goals
        go_wp2_with fail
        go_ret
        exact ⟨rfl, BQ.out.trans (B5.out.mono BQ.out.size)⟩
    obtain ⟨b, off, rfl, hnc, hb, hcell⟩ := HA.out (by omega)
    obtain ⟨o, ho⟩ : ∃ o, o = O.getD k o0 := ⟨_, rfl⟩
    obtain ⟨ho1, ho2⟩ := hcell k hk
    rw [← ho] at ho1 ho2
    have BV := Lib.hid (show Below w.heap.size w wr from by obtain ⟨_, _, _, _, b, _⟩ := HR.out; exact b)
    have hx := ho1.of_block (BV.out.block b hb)
    have x0 := hx 0 _ rfl
    have x1 := hx 1 _ rfl
    have x2 := hx 2 _ rfl
    have x3 := hx 3 _ rfl
    have x4 := hx 4 _ rfl
    have x5 := hx 5 _ rfl
    have x6 := hx 6 _ rfl
    have x7 := hx 7 _ rfl
    have x8 := hx 8 _ rfl
    have HO := Lib.hid ho2
    simp only [Nat.add_zero] at x0
    clear hcell ho ho1 ho2 hx
    obtain ⟨wb, hwb⟩ : ∃ wb, wb = wr.alloc (opO o) := ⟨_, rfl⟩
    have hbx : wb.heap[wr.heap.size]? = some (opO o) := by rw [hwb]; exact heap_alloc_new wr _
    have BB := Lib.hid (show Below wr.heap.size wr wb from by rw [hwb]; exact (Below.refl _ wr).alloc (Nat.le_refl _) _)
    have SB := Lib.hid (show wb.heap.size = wr.heap.size + 1 from by rw [hwb]; simp)
    have BXC := Lib.hid (show ∀ y : World, y.heap[wr.heap.size]? = wb.heap[wr.heap.size]? → (y.cell? ⟨wr.heap.size, 0, none⟩ = some (.int .i64 o.kind) ∧ y.cell? ⟨wr.heap.size, 1, none⟩ = some (.string o.s.1) ∧ y.cell? ⟨wr.heap.size, 2, none⟩ = some (.string o.s.2) ∧ (y.cell? ⟨wr.heap.size, 3, none⟩ = some (.int .i64 o.p.1) ∧ y.cell? ⟨wr.heap.size, 4, none⟩ = some (.int .i64 o.p.2.1) ∧ y.cell? ⟨wr.heap.size, 5, none⟩ = some (.int .u64 (o.p.2.2.1 : Nat)) ∧ y.cell? ⟨wr.heap.size, 6, none⟩ = some (.string (str o.p.2.2.2))) ∧ y.cell? ⟨wr.heap.size, 7, none⟩ = some (.int .i64 o.a) ∧ y.cell? ⟨wr.heap.size, 8, none⟩ = some (.int .i64 o.b)) from fun y hy => by
      have h := hy.trans hbx
      exact ⟨cell_at h 0, cell_at h 1, cell_at h 2, ⟨cell_at h 3, cell_at h 4, cell_at h 5, cell_at h 6⟩, cell_at h 7, cell_at h 8⟩)
    have PL := Lib.hid (HR.out.play (wb := wb.drew) BB.out.drew hk2 o HO.out)
    have KB := Lib.hid (HR.out.below BB.out)
    have GG := Lib.hid (show ∀ y V', Kk w y g h (k + 1) (k + 1) V' → _ from fun y V' K' => K'.get (by omega) o.s HO.out.1 o.a o.b)
    obtain ⟨V4, hV4⟩ : ∃ V4, V4 = stp V o := ⟨_, rfl⟩
    rw [← hV4] at PL
    clear hbx hV4 HO
    obtain ⟨kd, s, p, a', b'⟩ := o
    unfold opa at PL
    unfold opO at hwb
    simp only at PL GG BXC hwb x0 x1 x2 x3 x4 x5 x6 x7 x8
    go_upto_region 8 with (fail)
    rw [← hwb]
    clear hwb x0 x1 x2 x3 x4 x5 x6 x7 x8
    by_cases h200 : k = 200
    case pos =>
      subst h200
      go_upto_region 12 with (fail)
      have KD := Lib.hid (KB.out.below (Below.refl _ wb).drew)
      obtain ⟨u9, ⟨ua, un, uc, rfl⟩, c18, ce⟩ := KD.out.cols (by omega)
      have C18 := Lib.hid c18
      have CE := Lib.hid ce
      have kX := ce wb.drew (Below.refl _ _)
      have BQ := Lib.hid (show Below w.heap.size w wb.drew from by obtain ⟨_, _, _, _, b, _⟩ := KD.out; exact b)
      clear c18 ce
      go_wp2_with fail
      go_region_held (fun y => y.cell? ⟨h, 0, none⟩ = some (.slice ua un uc))
        (first | exact kX | exact kY | exact kZ)
        (first | (go_at_call 18; refine C18.out.mono ?_; rintro e w4 ⟨va, vn, vc, rfl, b4, h17⟩; have S17 := Lib.hid (h17.out w4 (Below.refl _ _)); have kY := CE.out w4 b4; have B4 := Lib.hid b4; clear b4 h17) | (go_at_call 17; refine S17.out.mono ?_; rintro e w5 ⟨rfl, b5⟩; have B5 := Lib.hid (B4.out.trans (b5.mono B4.out.size)); have kZ := CE.out w5 B5.out; clear b5))
      all_goals
        go_wp2_with fail
        go_ret
        exact ⟨rfl, BQ.out.trans (B5.out.mono BQ.out.size)⟩
    case neg =>
      have hk3 : k < 200 := by omega
      have hk4 : ¬ (200 : Int) ≤ (k : Int) := by omega
      have hk5 : decide ((k : Int) ≥ 200) = false := decide_eq_false (by omega)
      clear h200
      have kX := BXC.out wb.drew rfl
      have hq1 : ∀ z : Nat, ((z : Int) != (z : Int)) = false := fun z => by simp
      go_wp2_with fail
      go_region_held (fun y => y.cell? ⟨wr.heap.size, 0, none⟩ = some (.int .i64 kd) ∧ y.cell? ⟨wr.heap.size, 1, none⟩ = some (.string s.1) ∧ y.cell? ⟨wr.heap.size, 2, none⟩ = some (.string s.2) ∧ (y.cell? ⟨wr.heap.size, 3, none⟩ = some (.int .i64 p.1) ∧ y.cell? ⟨wr.heap.size, 4, none⟩ = some (.int .i64 p.2.1) ∧ y.cell? ⟨wr.heap.size, 5, none⟩ = some (.int .u64 (p.2.2.1 : Nat)) ∧ y.cell? ⟨wr.heap.size, 6, none⟩ = some (.string (str p.2.2.2))) ∧ y.cell? ⟨wr.heap.size, 7, none⟩ = some (.int .i64 a') ∧ y.cell? ⟨wr.heap.size, 8, none⟩ = some (.int .i64 b'))
        (first | exact kX | exact kY | exact kZ | exact kU | exact kV)
        (first | (go_at_call 11; refine PL.out.mono ?_; rintro e w4 ⟨rfl, k4, s4, h4⟩; have K4 := Lib.hid k4; have kY := BXC.out w4 (h4 wr.heap.size (Nat.le_refl _) (by have := SB.out; simp; omega)); have B4 := Lib.hid (show wr.heap.size + 1 ≤ w4.heap.size from by have := SB.out; simp at s4; omega); have E4 := Lib.hid (show w4.heap[wr.heap.size]? = wb.heap[wr.heap.size]? from h4 wr.heap.size (Nat.le_refl _) (by have := SB.out; simp; omega)); have Z4 := Lib.hid (k4.size (by omega)); have G4 := Lib.hid (GG.out w4 V4 k4); clear k4 s4 h4) | (go_at_call 12; refine Z4.out.1.mono ?_; rintro e w4 ⟨rfl, rfl⟩) | (go_at_call 13; refine Z4.out.2.mono ?_; rintro e w4 ⟨rfl, rfl⟩) | (go_at_call 15; refine G4.out.1.mono ?_; rintro e w5 ⟨r5, rfl, p5, b5⟩; have f5 := p5.forms; obtain ⟨r5a, r5c, rfl⟩ := f5; have K5 := Lib.hid (K4.out.below b5); have E5 := Lib.hid (show w5.heap[wr.heap.size]? = wb.heap[wr.heap.size]? from (b5.block _ (by have := B4.out; omega)).trans E4.out); have kZ := BXC.out w5 E5.out; have G5 := Lib.hid (GG.out w5 V4 K5.out); have P5 := Lib.hid p5; have B5 := Lib.hid (show wr.heap.size + 1 ≤ w5.heap.size from Nat.le_trans B4.out b5.size); clear p5 b5) | (go_at_call 16; refine G5.out.2.1.mono ?_; rintro e w6 ⟨r6, rfl, p6, b6⟩; have f6 := p6.forms; obtain ⟨r6a, r6c, rfl⟩ := f6; have K6 := Lib.hid (K5.out.below b6); have E6 := Lib.hid (show w6.heap[wr.heap.size]? = wb.heap[wr.heap.size]? from (b6.block _ (by have := B5.out; omega)).trans E5.out); have kU := BXC.out w6 E6.out; have S6 := Lib.hid (same18 w6 _ _ _ _ (P5.out.below b6) p6 (by have := G5.out.2.2; omega)); have B6 := Lib.hid (show wr.heap.size + 1 ≤ w6.heap.size from Nat.le_trans B5.out b6.size); clear p6 b6) | (go_at_call 14; refine S6.out.mono ?_; rintro e w7 ⟨rfl, b7⟩; have K7 := Lib.hid (K6.out.below b7); have kV := BXC.out w7 ((b7.block _ (by have := B6.out; omega)).trans E6.out); clear b7))
      clear kX kY kZ kU kV PL GG BXC
      go_wp2_with fail
      go_roundw
      case rel => exact ⟨k + 1, V4, by go_num, by omega, by omega, K7⟩
      case measure => simp [intOf]; omega
end Ul
end Go.Proofs.Ytloiclmngmnbdaa
