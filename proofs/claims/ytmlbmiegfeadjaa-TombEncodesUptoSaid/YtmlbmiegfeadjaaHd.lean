/- The graves of tombs. -/
import Derived.Test.YtmlbmiegfeadjaaHc
namespace Go.Proofs.Ytmlbmiegfeadjaa
open Go.RowKit
namespace Hd
open Jb Ca Cz Ga Gm Gn Gt Gw Gy Gz Ha Hb Hc

theorem info93 : (Try.prog.info? 93).map (fun i => (i.zero, i.size, i.bytes)) = some (some (.agg #[.string ⟨#[]⟩, .string ⟨#[]⟩, .slice none 0 0]), 3, 56) := by kernel_rfl
/-- The graves made of k tombs. -/
def Gk (w0 wr : World) (v : Value) (ys : List Tmb) (k : Nat) : Prop := ∃ R, GR wr w0.heap.size v R ∧ tabG R = build (ys.take k) ∧ R.length ≤ k ∧ (∀ c ∈ R, c.2.1.length ≤ k) ∧ Below w0.heap.size w0 wr
theorem Gk.lens {R : List Gc} {ys : List Tmb} {k : Nat} (e : tabG R = build (ys.take k)) (hk : k ≤ ys.length) : R.length ≤ k ∧ ∀ c ∈ R, c.2.1.length ≤ k := by
  obtain ⟨h1, h2⟩ := build_len (ys.take k)
  rw [← e, Gt.take_len ys hk] at h1 h2
  rw [tabG_len] at h1
  refine ⟨h1, fun c hc => h2 (c.1, c.2.1) ?_⟩
  unfold tabG
  exact List.mem_map.2 ⟨c, hc, rfl⟩
/-- What an append of a fresh grave leaves. -/
theorem fresh (w2 wa W : World) (xs xf : ByteArray) (x4 x5 : Int) (ys : List Tmb) (R : List Gc) (aa : Option Addr) (ac m k : Nat) (hm : m = R.length) (hW : W = wa.alloc (.cells #[.string xs, .string xf, .int .i64 x4, .int .i64 x5] 57)) (hG : GR wa w2.heap.size (.slice aa m ac) R) (hB : Below w2.heap.size w2 wa)
    (eT : build (ys.take (k + 1)) = tabG R ++ [((xs, xf), addS [] (x4, x5))]) (hk : k + 1 ≤ ys.length) :
    (∀ (v' : Value) (w6 : World), w6.ownsRow w2.heap.size 93 3 v' (m + 1) (gcl R ++ [.string xs, .string xf, .slice none 0 0]) → (W.alloc (.cells #[.string xs, .string xf, .slice none 0 0] 93)).grownBy w6 (Value.slice aa m ac).ownBlock → ∃ p cap', v' = .slice (some ⟨p, 0, none⟩) (m + 1) cap' ∧ m + 1 ≤ cap' ∧ (∀ y : World, y.heap[wa.heap.size]? = W.heap[wa.heap.size]? → y.cell? ⟨wa.heap.size, 2, none⟩ = some (.int .i64 x4) ∧ y.cell? ⟨wa.heap.size, 3, none⟩ = some (.int .i64 x5)) ∧ w6.drew.heap[wa.heap.size]? = W.heap[wa.heap.size]? ∧ Calls Try.prog 48 #[.pointer (some ⟨p, m * 3, none⟩), .agg #[.int .i64 x4, .int .i64 x5]] w6.drew fun e w' => e = .returned (.tuple #[]) ∧ w'.heap[wa.heap.size]? = W.heap[wa.heap.size]? ∧ Gk w2 w' (.slice (some ⟨p, 0, none⟩) (m + 1) cap') ys (k + 1)) ∧
    (∀ (j : Nat) (u : Value), [Value.string xs, .string xf, .slice none 0 0][j]? = some u → (W.alloc (.cells #[.string xs, .string xf, .slice none 0 0] 93)).cell? ((⟨W.heap.size, 0, none⟩ : Addr).add j) = some u) ∧
    (W.alloc (.cells #[.string xs, .string xf, .slice none 0 0] 93)).ownsRow w2.heap.size 93 3 (.slice aa m ac) m (gcl R) ∧ w2.heap.size ≤ (W.alloc (.cells #[.string xs, .string xf, .slice none 0 0] 93)).heap.size ∧ W.cell? ⟨wa.heap.size, 0, none⟩ = some (.string xs) ∧ W.cell? ⟨wa.heap.size, 1, none⟩ = some (.string xf) := by
  have ha := heap_alloc_new wa (.cells #[.string xs, .string xf, .int .i64 x4, .int .i64 x5] 57)
  have bA := (Below.refl wa.heap.size wa).alloc (Nat.le_refl _) (.cells #[.string xs, .string xf, .int .i64 x4, .int .i64 x5] 57)
  have zb := hB.size
  rw [← hW] at ha bA
  have hG1 := hG.below bA
  have hB1 := hB.trans (bA.mono zb)
  have hWs : W.heap.size = wa.heap.size + 1 := by rw [hW]; simp
  refine ⟨fun v' w6 ho hg => ?_, fun j u hj => ?_, ?_, by simp; omega, cell_at ha 0, cell_at ha 1⟩
  · have hG3 : GR (W.alloc (.cells #[.string xs, .string xf, .slice none 0 0] 93)) w2.heap.size (.slice aa m ac) R := hG1.below ((Below.refl _ _).alloc (Nat.le_refl _) _)
    have ho' : w6.ownsRow w2.heap.size 93 3 v' (R.length + 1) (gcl R ++ [.string xs, .string xf, .slice none 0 0]) := by rw [← hm]; exact ho
    have hG4 := (hG3.fresh (xs, xf) ho' hg)
    have hG5 : GR w6.drew w2.heap.size v' (R ++ [((xs, xf), [], .slice none 0 0)]) := ⟨hG4.own.drew, fun c hc => (hG4.rows c hc).drew, hG4.ap⟩
    obtain ⟨p, cap', rfl⟩ := Go.Joins.ownsRow_form ho (by omega)
    have hcap : m + 1 ≤ cap' := by
      rcases ho.2 with ⟨e, _⟩ | ⟨_, _, _, e, _, _, hc, _⟩
      · cases e
      · cases e; exact hc
    have bx : wa.heap.size < (W.alloc (.cells #[.string xs, .string xf, .slice none 0 0] 93)).heap.size := by simp; omega
    have b6 : Below w2.heap.size w2 w6 := (hB1.alloc (by omega) (.cells #[.string xs, .string xf, .slice none 0 0] 93)).grown hg (by simp; omega) (fun j ej => (Gt.own_lt hG3.own ej).1)
    have hnx : ∀ j, (Value.slice aa m ac).ownBlock = some j → j ≠ wa.heap.size := fun j ej => by
      have := (Gt.own_lt hG.own ej).2; omega
    have hbx : w6.heap[wa.heap.size]? = W.heap[wa.heap.size]? := by
      rw [hg.block wa.heap.size bx (fun e => hnx _ e.symm rfl)]
      exact Below.heap_alloc W _ _ (by omega)
    refine ⟨p, cap', rfl, hcap, fun y hy => ⟨?_, ?_⟩, hbx, ?_⟩
    · rw [World.cell?_of_block (a := ⟨wa.heap.size, 2, none⟩) hy]; exact cell_at ha 2
    · rw [World.cell?_of_block (a := ⟨wa.heap.size, 3, none⟩) hy]; exact cell_at ha 3
    · have CC := (hG5.add (x4, x5) (by simp) b6.size)
      rw [← hm] at CC
      refine CC.mono ?_
      rintro e w' ⟨rfl, ⟨sv', hG6⟩, _, hB6, hold⟩
      have hpn : wa.heap.size ≠ p := fun e => by
        subst e
        rcases ho.2 with ⟨e, _⟩ | ⟨_, _, _, e, _, hh, _⟩
        · cases e
        · cases e
          rw [hbx, ha] at hh
          injection hh with hh
          injection hh with _ hh
          exact absurd hh (by decide)
      refine ⟨rfl, (hold _ (by show wa.heap.size < w6.heap.size; have := hg.size; omega) hpn (by intro e; cases e)).trans hbx, ?_⟩
      have eT2 : tabG (R ++ [((xs, xf), addS [] (x4, x5), sv')]) = build (ys.take (k + 1)) := by rw [eT, tabG_snoc]
      exact ⟨_, hG6, eT2, (Gk.lens eT2 hk).1, (Gk.lens eT2 hk).2, b6.drew.trans hB6⟩
  · have hb := heap_alloc_new W (.cells #[.string xs, .string xf, .slice none 0 0] 93)
    match j, hj with
    | 0, hj => cases hj; exact cell_at hb 0
    | 1, hj => cases hj; exact cell_at hb 1
    | 2, hj => cases hj; exact cell_at hb 2
  · have := hG1.own.alloc (.cells #[.string xs, .string xf, .slice none 0 0] 93)
    rwa [← hm] at this
/-- The last grave's cells, in a world behind. -/
theorem lastc {wa W : World} {B p ac m : Nat} {R0 : List Gc} {c : Gc} (hm : m = R0.length) (hG : GR wa B (.slice (some ⟨p, 0, none⟩) (m + 1) ac) (R0 ++ [c])) (bA : Below wa.heap.size wa W) :
    W.cell? ⟨p, m * 3, none⟩ = some (.string c.1.1) ∧ W.cell? ⟨p, m * 3 + 1, none⟩ = some (.string c.1.2) ∧ m + 1 ≤ ac := by
  have o := hG.own
  have hl : (R0 ++ [c]).length = m + 1 := by rw [List.length_append, hm]; rfl
  rw [hl] at o
  have hp := (Gt.own_lt o rfl).2
  have g : ∀ j, j < 3 → (gcl (R0 ++ [c]))[m * 3 + j]? = [Value.string c.1.1, .string c.1.2, c.2.2][j]? := fun j hj => by
    have := gcl_get (R0 ++ [c]) m j hj (by omega)
    rw [this]
    have : (R0 ++ [c]).getD m gz = c := by rw [List.getD_eq_getElem?_getD, List.getElem?_append_right (by omega), hm]; simp
    rw [this]
  refine ⟨(bA.cell (p := ⟨p, m * 3, none⟩) hp).trans ((o.cellAt (m * 3) (by omega)).trans (g 0 (by decide))), (bA.cell (p := ⟨p, m * 3 + 1, none⟩) hp).trans ((o.cellAt (m * 3 + 1) (by omega)).trans (g 1 (by decide))), ?_⟩
  rcases o.2 with ⟨e, _⟩ | ⟨_, _, _, e, _, _, hc, _⟩
  · cases e
  · cases e; exact hc
/-- The last grave, a span more. -/
theorem again (w2 wa W : World) (xs xf : ByteArray) (x4 x5 : Int) (ys : List Tmb) (R0 : List Gc) (c : Gc) (p ac m k : Nat) (hm : m = R0.length) (hW : W = wa.alloc (.cells #[.string xs, .string xf, .int .i64 x4, .int .i64 x5] 57)) (hG : GR wa w2.heap.size (.slice (some ⟨p, 0, none⟩) (m + 1) ac) (R0 ++ [c])) (hB : Below w2.heap.size w2 wa)
    (eT : build (ys.take (k + 1)) = tabG R0 ++ [(c.1, addS c.2.1 (x4, x5))]) (hk : k + 1 ≤ ys.length) (hl : c.2.1.length ≤ 4000000000000) :
    (∀ y : World, y.heap[wa.heap.size]? = W.heap[wa.heap.size]? → y.cell? ⟨wa.heap.size, 2, none⟩ = some (.int .i64 x4) ∧ y.cell? ⟨wa.heap.size, 3, none⟩ = some (.int .i64 x5)) ∧
    (∀ q, Calls Try.prog 48 #[.pointer (some ⟨p, m * 3, none⟩), .agg #[.int .i64 x4, .int .i64 x5]] (W.drewN q) fun e w' => e = .returned (.tuple #[]) ∧ w'.heap[wa.heap.size]? = W.heap[wa.heap.size]? ∧ Gk w2 w' (.slice (some ⟨p, 0, none⟩) (m + 1) ac) ys (k + 1)) ∧
    W.cell? ⟨wa.heap.size, 0, none⟩ = some (.string xs) ∧ W.cell? ⟨wa.heap.size, 1, none⟩ = some (.string xf) := by
  have ha := heap_alloc_new wa (.cells #[.string xs, .string xf, .int .i64 x4, .int .i64 x5] 57)
  have bA := (Below.refl wa.heap.size wa).alloc (Nat.le_refl _) (.cells #[.string xs, .string xf, .int .i64 x4, .int .i64 x5] 57)
  have zb := hB.size
  rw [← hW] at ha bA
  have hG1 := hG.below bA
  have hB1 := hB.trans (bA.mono zb)
  have hWs : W.heap.size = wa.heap.size + 1 := by rw [hW]; simp
  refine ⟨fun y hy => ⟨?_, ?_⟩, fun q => ?_, cell_at ha 0, cell_at ha 1⟩
  · rw [World.cell?_of_block (a := ⟨wa.heap.size, 2, none⟩) hy]; exact cell_at ha 2
  · rw [World.cell?_of_block (a := ⟨wa.heap.size, 3, none⟩) hy]; exact cell_at ha 3
  · have hG5 : GR (W.drewN q) w2.heap.size (.slice (some ⟨p, 0, none⟩) (m + 1) ac) (R0 ++ [c]) := hG1.move fun _ _ _ => rfl
    have CC := hG5.add (x4, x5) hl hB1.size
    rw [← hm] at CC
    refine CC.mono ?_
    rintro e w' ⟨rfl, ⟨sv', hG6⟩, _, hB6, hold⟩
    have n1 : wa.heap.size ≠ p := fun e => by have := (Gt.own_lt hG.own rfl).2; simp only at this; omega
    have n2 : c.2.2.ownBlock ≠ some wa.heap.size := fun e => by have := (Gt.own_lt (hG.rows c (by simp)) e).2; omega
    refine ⟨rfl, hold _ (by show wa.heap.size < W.heap.size; omega) n1 n2, ?_⟩
    have eT2 : tabG (R0 ++ [(c.1, addS c.2.1 (x4, x5), sv')]) = build (ys.take (k + 1)) := by rw [eT, tabG_snoc]
    exact ⟨_, hG6, eT2, (Gk.lens eT2 hk).1, (Gk.lens eT2 hk).2, (bdn hB1 q).trans hB6⟩
set_option maxRecDepth 100000
set_option maxHeartbeats 8000000
theorem gravesOf30 (w : World) (B0 : Nat) (v : Value) (L : List Tmb) (ho : w.ownsRow B0 57 4 v L.length (tcs L)) (hw : ∀ x ∈ L, Wt x) (hn : L.length * 56 ≤ 140737488355328) :
    Calls Try.prog 30 #[v] w fun e w' => ∃ r ys R, e = .returned r ∧ ys.Perm L ∧ ys.Pairwise (fun a b => ltT b a = false) ∧ GR w' w.heap.size r R ∧ tabG R = build ys ∧ Below w.heap.size w w' := by
  obtain ⟨i0, hi, hz0, hz1, hz2⟩ := info_parts info93
  have C42 := Lib.hid (clone42 w B0 v L ho (by omega))
  have S43 := Lib.hid (fun (y : World) r (h : y.ownsRow w.heap.size 57 4 r L.length (tcs L)) (hb : w.heap.size ≤ y.heap.size) => sort43 y w.heap.size r L h hb (by omega))
  obtain ⟨n, hN⟩ : ∃ n, n = L.length := ⟨_, rfl⟩
  have HN := Lib.hid hN
  have HW := Lib.hid hw
  rw [← hN] at hn C42 S43
  clear ho hN hw
  go_enter Try.func30, Try.ntmps30
  go_wp2_with fail
  refine C42.out.mono ?_
  rintro e w1 ⟨r, rfl, o1, b1⟩
  have S1 := Lib.hid (S43.out w1 r o1 b1.size)
  have B1 := Lib.hid b1
  clear o1 b1 C42 S43
  go_wp2_with fail
  refine S1.out.mono ?_
  rintro e w2 ⟨rfl, ys, hp, hs, o2, b2⟩
  have B2 := Lib.hid (B1.out.trans b2)
  have hyl : ys.length = n := by rw [hp.length_eq, HN.out]
  have HP := Lib.hid (And.intro hp hs)
  have hT := ti_own o2 (fun x hx => HW.out x (hp.mem_iff.1 hx))
  obtain ⟨a, c, rfl, hg⟩ := hT.get
  rw [hyl] at hg ⊢
  have HG := Lib.hid hg
  have HY := Lib.hid hyl
  clear hT hg o2 hp hs b2 hyl S1
  go_wp2_with fail
  go_loopw [4, 14] (fun al i wr => ∃ k, k ≤ n ∧ i = .int .i64 (k : Nat) ∧ Hid (Gk w2 wr al ys k)) (fun _ i _ => n - (intOf i).toNat)
  case atStart => exact ⟨0, Nat.zero_le _, rfl, Lib.hid ⟨[], GR.nil _ _, rfl, Nat.le_refl _, (fun c hc => by cases hc), Below.refl _ _⟩⟩
  case round =>
    obtain ⟨k, hk, rfl, HK⟩ := hrel
    by_cases hkn : k < n
    case neg =>
      obtain rfl : k = n := by omega
      go_wp2_with fail
      go_ret
      obtain ⟨R, h1, h2, _, _, h3⟩ := HK.out
      rw [List.take_of_length_le (by rw [HY.out]; exact Nat.le_refl _)] at h2
      exact ⟨_, ys, R, rfl, HP.out.1, HP.out.2, ⟨Hc.own_base h1.own B2.out.size, fun c hc => Hc.own_base (h1.rows c hc) B2.out.size, h1.ap⟩, h2, B2.out.trans (h3.mono B2.out.size)⟩
    obtain ⟨b, off, rfl, hnc, hb, hTk⟩ := HG.out k hkn
    obtain ⟨R, hG, hR, hl1, hl2, hB⟩ := HK.out
    obtain ⟨wa, rfl⟩ : ∃ wa, wa = wr := ⟨_, rfl⟩
    obtain ⟨x0, x1, x2, x3⟩ := hTk wa hB
    have HBT := Lib.hid (show build (ys.take (k + 1)) = addG (tabG R) (ys.getD k t0) from by rw [build_take ys k (by rw [HY.out]; exact hkn), hR])
    generalize ys.getD k t0 = x at *
    obtain ⟨xs, xf, x4, x5⟩ := x
    simp only at x0 x1 x2 x3
    have zb := hB.size
    have hbz : b < wa.heap.size := by omega
    clear hTk HG HK
    obtain ⟨aa, ac, rfl⟩ := own_forms hG.own
    obtain ⟨W, hW⟩ : ∃ W, W = wa.alloc (.cells #[.string xs, .string xf, .int .i64 x4, .int .i64 x5] 57) := ⟨_, rfl⟩
    rcases snoc_or R with rfl | ⟨R0, c', hR0⟩
    · obtain ⟨fr, NEWC, own, hbw, y0, y1⟩ := fresh w2 wa W xs xf x4 x5 ys [] aa ac 0 k rfl hW hG hB (by rw [HBT]; rfl) (by rw [HY.out]; omega)
      have FR := Lib.hid fr
      have OWN := Lib.hid own
      clear fr own hG hR hl1 hl2 hB HBT
      go_upto_region 7 with (fail)
      rw [← hW]
      have HWW := Lib.hid hW
      clear hW
      go_wp2_with fail
      go_quiet (fail)
      go_wp2_with (at_builtin; refine wpList_append_own _ rfl (.tmp 43) (.tmp 49) 70 rfl w2.heap.size 93 i0 _ 3 56 Try.underlying70 hi hz0 hz1 hz2 rfl (by decide) (.slice aa 0 ac) 0 (gcl []) (by simp [Act.eval]) OWN.out ⟨W.heap.size, 0, none⟩ 1 1 [.string xs, .string xf, .slice none 0 0] rfl rfl NEWC ?c2 ?c3 ?c4 ?c5 ?_)
      case c2 => intro u hu; simp at hu; rcases hu with rfl | rfl | rfl <;> rfl
      case c3 => unfold maxLen; omega
      case c4 => omega
      case c5 => exact hbw
      intro v' w6 hown6 hgrow _
      obtain ⟨p, cap', rfl, hcap, hcl, hw6, CC⟩ := FR.out v' w6 hown6 ⟨hgrow.os, hgrow.tape, hgrow.output, hgrow.size, hgrow.block⟩
      have CL := Lib.hid hcl
      have C48 := Lib.hid CC
      have kX := hcl w6.drew hw6
      clear hown6 hgrow hcl CC hw6 OWN NEWC FR
      rw [Nat.zero_mul] at C48
      go_wp2_with fail
      go_region_held (fun y : World => y.cell? ⟨wa.heap.size, 2, none⟩ = some (.int .i64 x4) ∧ y.cell? ⟨wa.heap.size, 3, none⟩ = some (.int .i64 x5))
        (first | exact kX | exact kY)
        (first | (go_at_call 48; refine C48.out.mono ?_; rintro e wb ⟨rfl, hbx, hgk⟩; have kY := CL.out wb hbx; have HK2 := Lib.hid hgk; clear hgk))
      all_goals
        go_wp2_with fail
        go_roundw
      case rel => exact ⟨k + 1, by omega, by go_num, Lib.hid HK2.out⟩
      case measure => simp [intOf]; omega
    · subst hR0
      obtain ⟨m, hm⟩ : ∃ m, m = R0.length := ⟨_, rfl⟩
      have hRl : (R0 ++ [c']).length = m + 1 := by rw [List.length_append, hm]; rfl
      rw [hRl] at hG hl1 ⊢
      obtain ⟨p, rfl⟩ : ∃ p, aa = some ⟨p, 0, none⟩ := by
        have o := hG.own
        rw [hRl] at o
        obtain ⟨p, c, e⟩ := Go.Joins.ownsRow_form o (by omega)
        cases e
        exact ⟨p, rfl⟩
      have bA := (Below.refl wa.heap.size wa).alloc (Nat.le_refl _) (.cells #[.string xs, .string xf, .int .i64 x4, .int .i64 x5] 57)
      rw [← hW] at bA
      obtain ⟨z0, z1, hac⟩ := lastc hm hG bA
      have hi1 : (m : Int) < (m : Int) + 1 := by omega
      have hi3 : decide ((m : Int) < 0) = false := decide_eq_false (by omega)
      have hi2 : (m : Int) < ((m + 1 : Nat) : Int) := by omega
      have hcl9 := hl2 c' (by simp)
      have hAG := addG_snoc (tabG R0) (c'.1, c'.2.1) (xs, xf, x4, x5)
      rw [← tabG_snoc] at hAG
      obtain ⟨⟨ks, kf⟩, S0, sv0⟩ := c'
      simp only at z0 z1 hcl9
      by_cases hkey : ks = xs ∧ kf = xf
      case pos =>
        obtain ⟨rfl, rfl⟩ := hkey
        rw [if_pos (by rfl)] at hAG
        obtain ⟨hcl, C, y0, y1⟩ := again w2 wa W ks kf x4 x5 ys R0 ((ks, kf), S0, sv0) p ac m k hm hW hG hB (by rw [HBT, hAG]) (by rw [HY.out]; omega) (by simp only; omega)
        have CL := Lib.hid hcl
        have CF := Lib.hid C
        have q1 : (ks.toList == ks.toList) = true := by simp
        have q2 : (kf.toList == kf.toList) = true := by simp
        clear hcl C hG hR hl2 hB HBT hAG hm hRl bA
        go_upto_region 7 with (fail)
        rw [← hW]
        have HWW := Lib.hid hW
        clear hW
        go_wp2_with fail
        go_quiet (fail)
        go_upto_region 11 with (fail)
        have C48 := Lib.hid (CF.out (nq + 1))
        have kX := CL.out ((W.drewN nq).drew) rfl
        go_region_held (fun y : World => y.cell? ⟨wa.heap.size, 2, none⟩ = some (.int .i64 x4) ∧ y.cell? ⟨wa.heap.size, 3, none⟩ = some (.int .i64 x5))
          (first | exact kX | exact kY)
          (first | (go_at_call 48; refine C48.out.mono ?_; rintro e wb ⟨rfl, hbx, hgk⟩; have kY := CL.out wb hbx; have HK2 := Lib.hid hgk; clear hgk))
        all_goals
          go_wp2_with fail
          go_roundw
        case rel => exact ⟨k + 1, by omega, by go_num, Lib.hid HK2.out⟩
        case measure => simp [intOf]; omega
      rw [if_neg (fun e => hkey ⟨congrArg Prod.fst e, congrArg Prod.snd e⟩)] at hAG
      obtain ⟨fr, NEWC, own, hbw, y0, y1⟩ := fresh w2 wa W xs xf x4 x5 ys (R0 ++ [((ks, kf), S0, sv0)]) (some ⟨p, 0, none⟩) ac (m + 1) k hRl.symm hW hG hB (by rw [HBT, hAG]; rfl) (by rw [HY.out]; omega)
      have FR := Lib.hid fr
      have OWN := Lib.hid own
      have q : Hid ((ks.toList == xs.toList) = false ∨ (ks = xs ∧ (kf.toList == xf.toList) = false)) := Lib.hid (by
        by_cases e : ks = xs
        · exact .inr ⟨e, toList_ne (fun e2 => hkey ⟨e, e2⟩ : kf ≠ xf)⟩
        · exact .inl (toList_ne e))
      clear fr own hG hR hl2 hB HBT hAG hm hRl bA hkey
      rcases q.out with q1 | ⟨rfl, q2⟩
      · clear q
        go_upto_region 7 with (fail)
        rw [← hW]
        have HWW := Lib.hid hW
        clear hW
        go_wp2_with fail
        go_quiet (fail)
        go_wp2_with (at_builtin; refine wpList_append_own _ rfl (.tmp 43) (.tmp 49) 70 rfl w2.heap.size 93 i0 _ 3 56 Try.underlying70 hi hz0 hz1 hz2 rfl (by decide) (.slice (some ⟨p, 0, none⟩) (m + 1) ac) (m + 1) (gcl (R0 ++ [((ks, kf), S0, sv0)])) (by simp [Act.eval]) OWN.out ⟨W.heap.size, 0, none⟩ 1 1 [.string xs, .string xf, .slice none 0 0] rfl rfl NEWC ?c2 ?c3 ?c4 ?c5 ?_)
        case c2 => intro u hu; simp at hu; rcases hu with rfl | rfl | rfl <;> rfl
        case c3 => unfold maxLen; omega
        case c4 => omega
        case c5 => exact hbw
        intro v' w6 hown6 hgrow _
        obtain ⟨p', cap', rfl, hcap, hcl, hw6, CC⟩ := FR.out v' w6 hown6 ⟨hgrow.os, hgrow.tape, hgrow.output, hgrow.size, hgrow.block⟩
        have CL := Lib.hid hcl
        have C48 := Lib.hid CC
        have kX := hcl w6.drew hw6
        clear hown6 hgrow hcl CC hw6 OWN NEWC FR
        go_wp2_with fail
        go_region_held (fun y : World => y.cell? ⟨wa.heap.size, 2, none⟩ = some (.int .i64 x4) ∧ y.cell? ⟨wa.heap.size, 3, none⟩ = some (.int .i64 x5))
          (first | exact kX | exact kY)
          (first | (go_at_call 48; refine C48.out.mono ?_; rintro e wb ⟨rfl, hbx, hgk⟩; have kY := CL.out wb hbx; have HK2 := Lib.hid hgk; clear hgk))
        all_goals
          go_wp2_with fail
          go_roundw
        case rel => exact ⟨k + 1, by omega, by go_num, Lib.hid HK2.out⟩
        case measure => simp [intOf]; omega
      · clear q
        have q1 : (ks.toList == ks.toList) = true := by simp
        go_upto_region 7 with (fail)
        rw [← hW]
        have HWW := Lib.hid hW
        clear hW
        go_wp2_with fail
        go_quiet (fail)
        go_wp2_with (at_builtin; refine wpList_append_own _ rfl (.tmp 43) (.tmp 49) 70 rfl w2.heap.size 93 i0 _ 3 56 Try.underlying70 hi hz0 hz1 hz2 rfl (by decide) (.slice (some ⟨p, 0, none⟩) (m + 1) ac) (m + 1) (gcl (R0 ++ [((ks, kf), S0, sv0)])) (by simp [Act.eval]) OWN.out ⟨W.heap.size, 0, none⟩ 1 1 [.string ks, .string xf, .slice none 0 0] rfl rfl NEWC ?c2 ?c3 ?c4 ?c5 ?_)
        case c2 => intro u hu; simp at hu; rcases hu with rfl | rfl | rfl <;> rfl
        case c3 => unfold maxLen; omega
        case c4 => omega
        case c5 => exact hbw
        intro v' w6 hown6 hgrow _
        obtain ⟨p', cap', rfl, hcap, hcl, hw6, CC⟩ := FR.out v' w6 hown6 ⟨hgrow.os, hgrow.tape, hgrow.output, hgrow.size, hgrow.block⟩
        have CL := Lib.hid hcl
        have C48 := Lib.hid CC
        have kX := hcl w6.drew hw6
        clear hown6 hgrow hcl CC hw6 OWN NEWC FR
        go_wp2_with fail
        go_region_held (fun y : World => y.cell? ⟨wa.heap.size, 2, none⟩ = some (.int .i64 x4) ∧ y.cell? ⟨wa.heap.size, 3, none⟩ = some (.int .i64 x5))
          (first | exact kX | exact kY)
          (first | (go_at_call 48; refine C48.out.mono ?_; rintro e wb ⟨rfl, hbx, hgk⟩; have kY := CL.out wb hbx; have HK2 := Lib.hid hgk; clear hgk))
        all_goals
          go_wp2_with fail
          go_roundw
        case rel => exact ⟨k + 1, by omega, by go_num, Lib.hid HK2.out⟩
        case measure => simp [intOf]; omega
end Hd
end Go.Proofs.Ytmlbmiegfeadjaa
