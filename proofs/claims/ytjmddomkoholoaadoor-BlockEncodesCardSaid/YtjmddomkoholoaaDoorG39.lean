import Derived.Test.YtjmddomkoholoaaDoorG38
import Derived.Test.YtjmddomkoholoaaDoorG21
import Derived.Test.YtjmddomkoholoaaDoorG27

/- The document's Encode of points. -/
namespace Go.Proofs.YtjmddomkoholoaaDoor
open Go.RowKit
namespace Kr
open Cm Wr Bm Pk Zs Vs Fo Cv Fl Ld En Kd Kp Kt Kh Kg Ke

set_option maxRecDepth 100000 in
theorem four33 (w : World) (n : Nat) (hn : n < 4294967296) :
    Calls Tryd.prog 17 #[.int .i64 (n : Nat)] w fun e w' => ∃ g c, e = .returned (.slice (some ⟨g, 0, none⟩) 4 c) ∧ Rl.Pz w' (.slice (some ⟨g, 0, none⟩) 4 c) (four n) ∧ Below w.heap.size w w' := by
  have h1 : (n : Int) / 16777216 % 256 = ((n / 16777216 % 256 : Nat) : Int) := by omega
  have h1' : (n : Int) / 16777216 = ((n / 16777216 % 256 : Nat) : Int) := by omega
  have h2 : (n : Int) / 65536 % 256 = ((n / 65536 % 256 : Nat) : Int) := by omega
  have h3 : (n : Int) / 256 % 256 = ((n / 256 % 256 : Nat) : Int) := by omega
  have h4 : (n : Int) % 256 = ((n % 256 : Nat) : Int) := by omega
  have HT : Hid (u8s (four n) = [.int .u8 ((n / 16777216 % 256 : Nat) : Int), .int .u8 ((n / 65536 % 256 : Nat) : Int), .int .u8 ((n / 256 % 256 : Nat) : Int), .int .u8 ((n % 256 : Nat) : Int)]) := Lib.hid rfl
  obtain ⟨A, hA⟩ : ∃ A, A = n / 16777216 % 256 := ⟨_, rfl⟩
  obtain ⟨B, hB⟩ : ∃ B, B = n / 65536 % 256 := ⟨_, rfl⟩
  obtain ⟨C, hC⟩ : ∃ C, C = n / 256 % 256 := ⟨_, rfl⟩
  obtain ⟨D, hD⟩ : ∃ D, D = n % 256 := ⟨_, rfl⟩
  rw [← hA] at h1 h1' HT
  rw [← hB] at h2 HT
  rw [← hC] at h3 HT
  rw [← hD] at h4 HT
  clear hA hB hC hD
  go_enter Tryd.func17, Tryd.ntmps17
  go_wp2_with fail
  go_ret
  refine ⟨_, _, rfl, ⟨w.heap.size, 4, rfl, fun j u hj => ?_⟩, (Below.refl _ _).alloc (Nat.le_refl _) _⟩
  rw [HT.out] at hj
  rw [show (⟨w.heap.size, 0, none⟩ : Addr).add j = ⟨w.heap.size, j, none⟩ from by unfold Addr.add; split <;> simp_all, cell_of_row _ _ _ _ _ _ (heap_alloc_new _ _)]
  match j, hj with
  | 0, hj => exact hj
  | 1, hj => exact hj
  | 2, hj => exact hj
  | 3, hj => exact hj
theorem pz_one (w : World) (v : Value) (m : Nat) (h : v = .int .u8 (m : Nat)) : Rl.Pz (w.alloc (.cells #[v] 5)) (.slice (some ⟨w.heap.size, 0, none⟩) 1 1) [m] := by
  refine ⟨w.heap.size, 1, rfl, fun j u hj => ?_⟩
  rw [show (⟨w.heap.size, 0, none⟩ : Addr).add j = ⟨w.heap.size, j, none⟩ from by unfold Addr.add; split <;> simp_all]
  match j, hj with
  | 0, hj => simp [u8s] at hj; subst hj; exact Kg.new_cell _ _ _ 0 _ (by rw [h]; rfl)
theorem join4n (x : World) (bb : Nat) (hbb : x.heap.size = bb) (s1 s2 s3 s4 : Value) (p1 p2 p3 p4 : List Nat) (P1 : Rl.Pz x s1 p1) (P2 : Rl.Pz x s2 p2) (P3 : Rl.Pz x s3 p3) (P4 : Rl.Pz x s4 p4) (l1 : p1.length ≤ 1000000000) (l2 : p2.length ≤ 1000000000) (l3 : p3.length ≤ 1000000000) (l4 : p4.length ≤ 1000000000) :
    Calls Tryd.prog 16 #[.slice (some ⟨bb, 0, none⟩) 4 4] (x.alloc (.cells #[s1, s2, s3, s4] 24)) fun e w' => ∃ r, e = .returned r ∧ w'.ownsRow x.heap.size 5 1 r (p1 ++ (p2 ++ (p3 ++ p4))).length (u8s (p1 ++ (p2 ++ (p3 ++ p4)))) ∧ Below x.heap.size x w' := by
  subst hbb
  have b := (Below.refl x.heap.size x).alloc (Nat.le_refl _) (.cells #[s1, s2, s3, s4] 24)
  have h := Rl.join33 (x.alloc (.cells #[s1, s2, s3, s4] 24)) x.heap.size 4 [p1, p2, p3, p4] rfl (by decide) (by simp; omega) (by simp) (fun i hi => by
    match i, hi with
    | 0, _ => exact ⟨s1, Kg.new_cell _ _ _ 0 _ rfl, P1.below b⟩
    | 1, _ => exact ⟨s2, Kg.new_cell _ _ _ 1 _ rfl, P2.below b⟩
    | 2, _ => exact ⟨s3, Kg.new_cell _ _ _ 2 _ rfl, P3.below b⟩
    | 3, _ => exact ⟨s4, Kg.new_cell _ _ _ 3 _ rfl, P4.below b⟩)
  refine h.mono ?_
  rintro e w' ⟨r, rfl, ho, bl⟩
  refine ⟨r, rfl, ?_, b.trans (bl.mono b.size)⟩
  have := Go.Joins.ownsRow_le ho b.size
  simpa using this
theorem join2n (x : World) (bb : Nat) (hbb : x.heap.size = bb) (s1 s2 : Value) (p1 p2 : List Nat) (P1 : Rl.Pz x s1 p1) (P2 : Rl.Pz x s2 p2) (l1 : p1.length ≤ 1000000000) (l2 : p2.length ≤ 1000000000) :
    Calls Tryd.prog 16 #[.slice (some ⟨bb, 0, none⟩) 2 2] (x.alloc (.cells #[s1, s2] 24)) fun e w' => ∃ r, e = .returned r ∧ w'.ownsRow x.heap.size 5 1 r (p1 ++ p2).length (u8s (p1 ++ p2)) ∧ Below x.heap.size x w' := by
  subst hbb
  have b := (Below.refl x.heap.size x).alloc (Nat.le_refl _) (.cells #[s1, s2] 24)
  have h := Rl.join33 (x.alloc (.cells #[s1, s2] 24)) x.heap.size 2 [p1, p2] rfl (by decide) (by simp; omega) (by simp) (fun i hi => by
    match i, hi with
    | 0, _ => exact ⟨s1, Kg.new_cell _ _ _ 0 _ rfl, P1.below b⟩
    | 1, _ => exact ⟨s2, Kg.new_cell _ _ _ 1 _ rfl, P2.below b⟩)
  refine h.mono ?_
  rintro e w' ⟨r, rfl, ho, bl⟩
  refine ⟨r, rfl, ?_, b.trans (bl.mono b.size)⟩
  have := Go.Joins.ownsRow_le ho b.size
  simpa using this

/-- Rows of two element types share no block. -/
theorem apart {w : World} {B B' s s' n n' : Nat} {e e' : TypeId} {v v' : Value} {xs xs' : List Value} (h : w.ownsRow B e s v n xs) (h' : w.ownsRow B' e' s' v' n' xs') (he : e ≠ e') : v.ownBlock = none ∨ v.ownBlock ≠ v'.ownBlock := by
  obtain ⟨_, ⟨rfl, _⟩ | ⟨g, c, cur, rfl, _, hh, _⟩⟩ := h
  · exact .inl rfl
  · right
    obtain ⟨_, ⟨rfl, _⟩ | ⟨g', c', cur', rfl, _, hh', _⟩⟩ := h'
    · intro e; cases e
    · intro e
      cases e
      rw [hh] at hh'
      cases hh'
      exact he rfl

set_option maxRecDepth 100000 in
set_option maxHeartbeats 4000000 in
theorem refencode15 (w : World) (v : Value) (P : List Pnt) (h : Pi w v P) (hl : P.length ≤ 3518437208781) (_hT : Tab w) (_hD : Dt w) : Calls Tryd.prog 8 #[v] w fun e w' => BEnc w P e w' := by
  obtain ⟨i0, hi, hz0, hz1, hz2⟩ := info_parts Ti.info2
  obtain ⟨j0, hj, hy0, hy1, hy2⟩ := info_parts Vs.info35
  have hin := tms_in h.1
  have hwv := vls_wv h.1
  have HF2 : Hid (∀ x r B, Below w.heap.size w x → World.ownsRow x B 2 1 r P.length (Ti.i64s (tms P)) → Calls Tryd.prog 14 #[r] x fun e w' => TEn.Encoded x (tms P) e w') :=
    Lib.hid fun x r B hb ho => TEn.refencode9 x r (tms P) (Ti.ii_own (by rw [tms_len]; exact ho) hin)
  have HF4 : Hid (∀ x r B, Below w.heap.size w x → World.ownsRow x B 40 3 r P.length (vcs (vls P)) → Calls Tryd.prog 15 #[r] x fun e w' => Enc x (vls P) e w') :=
    Lib.hid fun x r B hb ho => Ren.refencode9 x r (vls P) (vi_own (by rw [vls_len]; exact ho) hwv)
  rcases h.cases with ⟨a, c, rfl, rfl⟩ | ⟨hP1, b, off, c, hv, hc, hb, hcell⟩
  · have hO : ¬ Tm.Ok (tms []) := fun h => by have := h.1; simp [tms] at this
    have F2 := Lib.hid (fun (x : World) (hb : Below w.heap.size w x) => (HF2.out x (.slice none 0 0) 0 hb (World.ownsRow_nil _ _ _ _)).mono fun e w' he => TEn.Encoded.bad he hO)
    have HE := Lib.hid (enc8_bad hO)
    clear h hl _hT _hD hin hwv HF2 HF4 hO
    go_enter Tryd.func8, Tryd.ntmps8
    go_wp2_with fail
    refine wp_loop_rounds 1 ?_
    rw [rounds_succ]
    go_wp2_with fail
    refine (F2.out _ (Below.refl _ _)).mono ?_
    rintro e w2 ⟨rfl, b2⟩
    have B2 := Lib.hid b2
    clear b2
    go_wp2_with fail
    go_ret2
    exact BEnc.of HE.out ⟨_, rfl, World.ownsRow_nil _ _ _ _, B2.out⟩
  rw [hv]
  obtain ⟨n, hn⟩ : ∃ n, n = P.length := ⟨_, rfl⟩
  have HTM := Lib.hid (fun k (hk : k < P.length) => tms_take P k hk)
  have HVL := Lib.hid (fun k (hk : k < P.length) => vls_take P k hk)
  rw [← hn] at hc hcell HTM HVL hl HF2 HF4 hP1 ⊢
  have HC := Lib.hid hcell
  have HN := Lib.hid hn
  have HWV := Lib.hid (And.intro hwv hin)
  clear hcell hv hn h _hT _hD hin hwv
  go_enter Tryd.func8, Tryd.ntmps8
  go_wp2_with fail
  go_loopw [4, 5, 6, 13] (fun t u _ i wr => ∃ k, k ≤ n ∧ i = .int .i64 (k : Nat) ∧ wr.ownsRow w.heap.size 2 1 t k (Ti.i64s (tms (P.take k))) ∧ wr.ownsRow w.heap.size 40 3 u k (vcs (vls (P.take k))) ∧ Below w.heap.size w wr) (fun _ _ _ i _ => n - (intOf i).toNat)
  case atStart => exact ⟨0, Nat.zero_le _, rfl, World.ownsRow_nil _ _ _ _, World.ownsRow_nil _ _ _ _, Below.refl _ _⟩
  case round =>
    obtain ⟨k, hk, rfl, ho, hu, hbl⟩ := hrel
    by_cases hkn : k < n
    · obtain ⟨e0, e1, e2, e3⟩ := (HC.out k hkn).of_block (hbl.block b hb)
      have HTk := Lib.hid (HTM.out k hkn)
      have HVk := Lib.hid (HVL.out k hkn)
      obtain ⟨p, hp⟩ : ∃ p, p = P.getD k p0 := ⟨_, rfl⟩
      rw [← hp] at e0 e1 e2 e3 HTk HVk
      have HPK := Lib.hid hp
      clear hp
      obtain ⟨t, q1, q2, q3⟩ := p
      simp only at e0 e1 e2 e3 HTk HVk
      have HB := Lib.hid hbl
      have HO := Lib.hid ho
      have HU := Lib.hid hu
      have hbs := hbl.size
      have hkn' : (k : Int) < (n : Int) := by omega
      clear ho hbl hu
      go_wp2_with fail
      have hsum : wr.heap.size < (wr.alloc (.cells #[.int .i64 t] 2)).heap.size := by simp
      have HA := Lib.hid (show Below w.heap.size w (wr.alloc (.cells #[.int .i64 t] 2)).drew from (HB.out.alloc hbs _).drew)
      have HSK := Lib.hid (fun (y : World) (hy : Below w.heap.size w y) => (show y.cell? ⟨b, off + k * 4, none⟩ = some (.int .i64 t) ∧ y.cell? ⟨b, off + k * 4 + 1, none⟩ = some (.int .i64 q1) ∧ y.cell? ⟨b, off + k * 4 + 2, none⟩ = some (.int .u64 (q2 : Nat)) ∧ y.cell? ⟨b, off + k * 4 + 3, none⟩ = some (.string (str q3)) from by
        obtain ⟨f0, f1, f2, f3⟩ := (HC.out k hkn).of_block (hy.block b hb)
        rw [← HPK.out] at f0 f1 f2 f3
        exact ⟨f0, f1, f2, f3⟩))
      have CT1 := Lib.hid (show ∀ j u, [Value.int .i64 t][j]? = some u → (wr.alloc (.cells #[.int .i64 t] 2)).drew.cell? ((⟨wr.heap.size, 0, none⟩ : Addr).add j) = some u from cell_one_new wr (.int .i64 t) 2)
      have ONE1 := Lib.hid (show ∀ u ∈ [Value.int .i64 t], u.oneCell' = true from by intro u hu; simp at hu; subst hu; rfl)
      have ONE2 := Lib.hid (show ∀ u ∈ [Value.int .i64 q1, Value.int .u64 (q2 : Nat), Value.string (str q3)], u.oneCell' = true from by intro u hu; simp at hu; rcases hu with rfl | rfl | rfl <;> rfl)
      have HA1 := HA.out.size
      have hAA : w.heap.size ≤ (wr.alloc (.cells #[.int .i64 t] 2)).heap.size := by simp; omega
      have HAB := Lib.hid (show Below w.heap.size w ((wr.alloc (.cells #[.int .i64 t] 2)).alloc (.cells #[.int .i64 q1, .int .u64 (q2 : Nat), .string (str q3)] 40)).drew from ((HB.out.alloc hbs _).alloc hAA _).drew)
      have HA2 := HAB.out.size
      have CT2 := Lib.hid (show ∀ j u, [Value.int .i64 t][j]? = some u → ((wr.alloc (.cells #[.int .i64 t] 2)).alloc (.cells #[.int .i64 q1, .int .u64 (q2 : Nat), .string (str q3)] 40)).drew.cell? ((⟨wr.heap.size, 0, none⟩ : Addr).add j) = some u from fun j u hj => by
        have h1 := cell_one_new wr (.int .i64 t) 2 j u hj
        have h2 := ((Below.refl (wr.alloc (.cells #[.int .i64 t] 2)).heap.size (wr.alloc (.cells #[.int .i64 t] 2))).alloc (Nat.le_refl _) (.cells #[.int .i64 q1, .int .u64 (q2 : Nat), .string (str q3)] 40)).cell (cell_lt h1)
        exact h2.trans h1)
      have CV2 := Lib.hid (fun (y : World) (row : Option Nat) (hg : ((wr.alloc (.cells #[.int .i64 t] 2)).alloc (.cells #[.int .i64 q1, .int .u64 (q2 : Nat), .string (str q3)] 40)).drew.grownBy y row) (hr : ∀ r, row = some r → r < wr.heap.size) => (show ∀ j u, [Value.int .i64 q1, Value.int .u64 (q2 : Nat), Value.string (str q3)][j]? = some u → y.cell? ((⟨wr.heap.size + 1, 0, none⟩ : Addr).add j) = some u from fun j u hj => by
        have h1 := Rw.cells3_new (wr.alloc (.cells #[.int .i64 t] 2)) (.int .i64 q1) (.int .u64 (q2 : Nat)) (.string (str q3)) 40 j u hj
        have hz : (wr.alloc (.cells #[.int .i64 t] 2)).heap.size = wr.heap.size + 1 := by simp
        rw [hz] at h1
        have hb1 : ((⟨wr.heap.size + 1, 0, none⟩ : Addr).add j).block = wr.heap.size + 1 := by unfold Addr.add; split <;> rfl
        exact (World.cell?_of_block (hg.block _ (by rw [hb1]; show wr.heap.size + 1 < ((wr.alloc (.cells #[.int .i64 t] 2)).alloc (.cells #[.int .i64 q1, .int .u64 (q2 : Nat), .string (str q3)] 40)).heap.size; simp) (by rw [hb1]; intro e; have := hr _ e.symm; omega))).trans h1))
      have hAV : w.heap.size ≤ (wr.alloc (.cells #[.int .i64 q1, .int .u64 (q2 : Nat), .string (str q3)] 40)).heap.size := by simp; omega
      have HV1 := Lib.hid (show Below w.heap.size w (wr.alloc (.cells #[.int .i64 q1, .int .u64 (q2 : Nat), .string (str q3)] 40)).drew from (HB.out.alloc hbs _).drew)
      have HBA := Lib.hid (show Below w.heap.size w ((wr.alloc (.cells #[.int .i64 q1, .int .u64 (q2 : Nat), .string (str q3)] 40)).alloc (.cells #[.int .i64 t] 2)).drew from ((HB.out.alloc hbs _).alloc hAV _).drew)
      have HA3 := HBA.out.size
      have CT3 := Lib.hid (show ∀ j u, [Value.int .i64 t][j]? = some u → ((wr.alloc (.cells #[.int .i64 q1, .int .u64 (q2 : Nat), .string (str q3)] 40)).alloc (.cells #[.int .i64 t] 2)).drew.cell? ((⟨wr.heap.size + 1, 0, none⟩ : Addr).add j) = some u from fun j u hj => by
        have h1 := cell_one_new (wr.alloc (.cells #[.int .i64 q1, .int .u64 (q2 : Nat), .string (str q3)] 40)) (.int .i64 t) 2 j u hj
        have hz : (wr.alloc (.cells #[.int .i64 q1, .int .u64 (q2 : Nat), .string (str q3)] 40)).heap.size = wr.heap.size + 1 := by simp
        rw [hz] at h1
        exact h1)
      have CV3 := Lib.hid (fun (y : World) (row : Option Nat) (hg : ((wr.alloc (.cells #[.int .i64 q1, .int .u64 (q2 : Nat), .string (str q3)] 40)).alloc (.cells #[.int .i64 t] 2)).drew.grownBy y row) (hr : ∀ r, row = some r → r < wr.heap.size) => (show ∀ j u, [Value.int .i64 q1, Value.int .u64 (q2 : Nat), Value.string (str q3)][j]? = some u → y.cell? ((⟨wr.heap.size, 0, none⟩ : Addr).add j) = some u from fun j u hj => by
        have h1 := Rw.cells3_new wr (.int .i64 q1) (.int .u64 (q2 : Nat)) (.string (str q3)) 40 j u hj
        have h2 := ((Below.refl (wr.alloc (.cells #[.int .i64 q1, .int .u64 (q2 : Nat), .string (str q3)] 40)).heap.size (wr.alloc (.cells #[.int .i64 q1, .int .u64 (q2 : Nat), .string (str q3)] 40))).alloc (Nat.le_refl _) (.cells #[.int .i64 t] 2)).cell (cell_lt h1)
        have hb1 : ((⟨wr.heap.size, 0, none⟩ : Addr).add j).block = wr.heap.size := by unfold Addr.add; split <;> rfl
        exact (World.cell?_of_block (hg.block _ (by rw [hb1]; show wr.heap.size < ((wr.alloc (.cells #[.int .i64 q1, .int .u64 (q2 : Nat), .string (str q3)] 40)).alloc (.cells #[.int .i64 t] 2)).heap.size; simp; omega) (by rw [hb1]; intro e; have := hr _ e.symm; omega))).trans (h2.trans h1)))
      go_region_held_law (fun y : World => y.cell? ⟨b, off + k * 4, none⟩ = some (.int .i64 t) ∧ y.cell? ⟨b, off + k * 4 + 1, none⟩ = some (.int .i64 q1) ∧ y.cell? ⟨b, off + k * 4 + 2, none⟩ = some (.int .u64 (q2 : Nat)) ∧ y.cell? ⟨b, off + k * 4 + 3, none⟩ = some (.string (str q3))) (first | exact ⟨e0, e1, e2, e3⟩ | exact HSK.out _ HA.out | exact HSK.out _ HAB.out | exact HSK.out _ HV1.out | exact HSK.out _ HBA.out | exact HSK.out _ B6.out | exact HSK.out _ (B6.out.alloc B6.out.size _) | exact HSK.out _ B7.out) (first
        | (refine Ry.step_append_own rfl (.tmp 16) (.tmp 22) 44 rfl w.heap.size 2 i0 (.int .i64 0) 1 8 Tryd.underlying44 hi hz0 hz1 hz2 rfl (by decide) u4 k (Ti.i64s (tms (P.take k))) (by simp [Act.eval]) (HO.out.alloc _).drew ⟨wr.heap.size, 0, none⟩ 1 1 [.int .i64 t] (by simp [Act.eval]) rfl CT1.out ONE1.out (by unfold maxLen; omega) (by omega) HA1 ?_; intro v6 w6 h6 g6; have O6 := Lib.hid h6; have B6 := Lib.hid (HA.out.grown g6 HA1 (fun r hr => (HO.out.lt r hr).1)); have U6 := Lib.hid ((HU.out.alloc (.cells #[.int .i64 t] 2)).drew.kept g6 (apart HU.out HO.out (by decide))); clear h6 g6)
        | (refine Ry.step_append_own rfl (.tmp 16) (.tmp 22) 44 rfl w.heap.size 2 i0 (.int .i64 0) 1 8 Tryd.underlying44 hi hz0 hz1 hz2 rfl (by decide) u4 k (Ti.i64s (tms (P.take k))) (by simp [Act.eval]) ((HO.out.alloc _).alloc _).drew ⟨wr.heap.size, 0, none⟩ 1 1 [.int .i64 t] (by simp [Act.eval]) rfl CT2.out ONE1.out (by unfold maxLen; omega) (by omega) HA2 ?_; intro v6 w6 h6 g6; have O6 := Lib.hid h6; have B6 := Lib.hid (HAB.out.grown g6 HA2 (fun r hr => (HO.out.lt r hr).1)); have U6 := Lib.hid (((HU.out.alloc (.cells #[.int .i64 t] 2)).alloc (.cells #[.int .i64 q1, .int .u64 (q2 : Nat), .string (str q3)] 40)).drew.kept g6 (apart HU.out HO.out (by decide))); have C6 := Lib.hid (CV2.out w6 _ g6 (fun r hr => (HO.out.lt r hr).2)); clear h6 g6)
        | (refine Ry.step_append_own rfl (.tmp 24) (.tmp 30) 45 rfl w.heap.size 40 j0 (.agg #[.int .i64 0, .int .u64 0, .string ⟨#[]⟩]) 3 32 Tryd.underlying45 hj hy0 hy1 hy2 rfl (by decide) u5 k (vcs (vls (P.take k))) (by simp [Act.eval, Act.put]) U6.out ⟨wr.heap.size + 1, 0, none⟩ 1 1 [.int .i64 q1, .int .u64 (q2 : Nat), .string (str q3)] (by simp [Act.eval, Act.put]) rfl C6.out ONE2.out (by unfold maxLen; omega) (by omega) B6.out.size ?_; intro v7 w7 h7 g7; have U7 := Lib.hid h7; have B7 := Lib.hid (B6.out.grown g7 B6.out.size (fun r hr => (U6.out.lt r hr).1)); have O7 := Lib.hid (O6.out.kept g7 (apart O6.out U6.out (by decide))); clear h7 g7)
        | (refine Ry.step_append_own rfl (.tmp 16) (.tmp 22) 44 rfl w.heap.size 2 i0 (.int .i64 0) 1 8 Tryd.underlying44 hi hz0 hz1 hz2 rfl (by decide) u4 k (Ti.i64s (tms (P.take k))) (by simp [Act.eval]) ((HO.out.alloc _).alloc _).drew ⟨wr.heap.size + 1, 0, none⟩ 1 1 [.int .i64 t] (by simp [Act.eval]) rfl CT3.out ONE1.out (by unfold maxLen; omega) (by omega) HA3 ?_; intro v6 w6 h6 g6; have O6 := Lib.hid h6; have B6 := Lib.hid (HBA.out.grown g6 HA3 (fun r hr => (HO.out.lt r hr).1)); have U6 := Lib.hid (((HU.out.alloc (.cells #[.int .i64 q1, .int .u64 (q2 : Nat), .string (str q3)] 40)).alloc (.cells #[.int .i64 t] 2)).drew.kept g6 (apart HU.out HO.out (by decide))); have C7 := Lib.hid (CV3.out w6 _ g6 (fun r hr => (HO.out.lt r hr).2)); clear h6 g6)
        | (refine Ry.step_append_own rfl (.tmp 24) (.tmp 30) 45 rfl w.heap.size 40 j0 (.agg #[.int .i64 0, .int .u64 0, .string ⟨#[]⟩]) 3 32 Tryd.underlying45 hj hy0 hy1 hy2 rfl (by decide) u5 k (vcs (vls (P.take k))) (by simp [Act.eval, Act.put]) U6.out ⟨wr.heap.size, 0, none⟩ 1 1 [.int .i64 q1, .int .u64 (q2 : Nat), .string (str q3)] (by simp [Act.eval, Act.put]) rfl C7.out ONE2.out (by unfold maxLen; omega) (by omega) B6.out.size ?_; intro v7 w7 h7 g7; have U7 := Lib.hid h7; have B7 := Lib.hid (B6.out.grown g7 B6.out.size (fun r hr => (U6.out.lt r hr).1)); have O7 := Lib.hid (O6.out.kept g7 (apart O6.out U6.out (by decide))); clear h7 g7)
        | (refine Ry.step_append_own rfl (.tmp 24) (.tmp 30) 45 rfl w.heap.size 40 j0 (.agg #[.int .i64 0, .int .u64 0, .string ⟨#[]⟩]) 3 32 Tryd.underlying45 hj hy0 hy1 hy2 rfl (by decide) u5 k (vcs (vls (P.take k))) (by simp [Act.eval]) (U6.out.alloc _) ⟨w6.heap.size, 0, none⟩ 1 1 [.int .i64 q1, .int .u64 (q2 : Nat), .string (str q3)] (by simp [Act.eval]) rfl (Rw.cells3_new _ _ _ _ _) ONE2.out (by unfold maxLen; omega) (by omega) (B6.out.alloc B6.out.size (.cells #[.int .i64 q1, .int .u64 (q2 : Nat), .string (str q3)] 40)).size ?_; intro v7 w7 h7 g7; have U7 := Lib.hid h7; have B7 := Lib.hid ((B6.out.alloc B6.out.size (.cells #[.int .i64 q1, .int .u64 (q2 : Nat), .string (str q3)] 40)).grown g7 (B6.out.alloc B6.out.size (.cells #[.int .i64 q1, .int .u64 (q2 : Nat), .string (str q3)] 40)).size (fun r hr => (U6.out.lt r hr).1)); have O7 := Lib.hid ((O6.out.alloc (.cells #[.int .i64 q1, .int .u64 (q2 : Nat), .string (str q3)] 40)).kept g7 (apart O6.out U6.out (by decide))); clear h7 g7))
      all_goals
        have HE := Lib.hid (And.intro O7.out (And.intro U7.out B7.out))
        clear O6 U6 B6 O7 U7 B7
        go_wp2_with fail
        go_roundw
        case rel => exact ⟨k + 1, by omega, by go_num, by rw [HTk.out, Ti.i64s_snoc]; exact HE.out.1, by rw [HVk.out, vcs_snoc]; exact HE.out.2.1, HE.out.2.2⟩
        case measure => simp [intOf]; omega
    · obtain rfl : k = n := by omega
      have htk : P.take k = P := List.take_of_length_le (by rw [← HN.out]; exact Nat.le_refl _)
      rw [htk] at ho hu
      have O1 := Lib.hid ho
      have B1 := Lib.hid hbl
      have HU := Lib.hid hu
      clear ho hbl hu htk
      by_cases hO : Tm.Ok (tms P)
      case neg =>
        have F2 := Lib.hid ((HF2.out wr _ _ B1.out O1.out).mono fun e w' he => TEn.Encoded.bad he hO)
        have HE := Lib.hid (enc8_bad hO)
        clear hO
        go_wp2_with fail
        refine F2.out.mono ?_
        rintro e w2 ⟨rfl, b2⟩
        have B2 := Lib.hid (B1.out.trans (b2.mono B1.out.size))
        clear b2
        go_wp2_with fail
        go_ret2
        exact BEnc.of HE.out ⟨_, rfl, World.ownsRow_nil _ _ _ _, B2.out⟩
      have F2 := Lib.hid ((HF2.out wr _ _ B1.out O1.out).mono fun e w' he => TEn.Encoded.ok he hO)
      by_cases he0 : (enc (vls P)).1 = 0
      case neg =>
        have HE := Lib.hid (enc8_err hO he0)
        unfold Enc at HF4
        obtain ⟨cc, hcc⟩ : ∃ cc, cc = (enc (vls P)).1 := ⟨_, rfl⟩
        rw [← hcc] at HF4 HE he0
        have hcz : ((cc : Int) != 0) = true := by simp; omega
        clear hO hcc
        go_wp2_with fail
        refine F2.out.mono ?_
        rintro e w2 ⟨r2, rfl, o2, b2⟩
        have B2 := Lib.hid (B1.out.trans (b2.mono B1.out.size))
        have F4 := Lib.hid (HF4.out w2 _ _ B2.out (HU.out.kept (row := none) ⟨b2.os, b2.tape, b2.output, b2.size, fun k hk _ => b2.block k hk⟩ (by
          by_cases e : u5.ownBlock = none
          · exact .inl e
          · exact .inr e)))
        clear b2 o2
        go_wp2_with fail
        refine F4.out.mono ?_
        rintro e w4 ⟨r4, rfl, o4, b4⟩
        have B4 := Lib.hid (B2.out.trans (b4.mono B2.out.size))
        clear o4 b4
        go_wp2_with fail
        go_ret2
        exact BEnc.of HE.out ⟨_, rfl, World.ownsRow_nil _ _ _ _, B4.out⟩
      have HE := Lib.hid (enc8_ok hO he0)
      have hsz := enc_size HWV.out.1 he0
      have hof := enc_of HWV.out.1 he0
      have hkk : ((vls P).getD 0 z0).1 = ((kd P : Nat) : Int) ∧ kd P < 256 := by
        have := hof.parts.2.2.2.2
        unfold kd
        omega
      have hbl := Tm.bytes_len (tms P) hO.2.1
      have htl : ∀ b ∈ Tm.bytesOf (tms P), b < 256 := Tm.bytes_lt _
      have hvl : ∀ b ∈ (enc (vls P)).2, b < 256 := De.enc_lt HWV.out.1
      obtain ⟨gv, cv, hu5⟩ := Go.Joins.ownsRow_form HU.out hP1
      subst hu5
      have hk0 := (show wr.cell? ⟨gv, 0, none⟩ = some (.int .i64 (kd P : Nat)) from by
        have := HU.out.cells rfl 0 (.int .i64 ((vls P).getD 0 z0).1) (by
          have h := vcs_get (vls P) 0 0 (by rw [vls_len, ← HN.out]; exact hP1) (by decide)
          rw [Nat.zero_mul, Nat.add_zero] at h
          rw [h]
          rfl)
        rw [hkk.1] at this
        simpa [Addr.add] using this)
      have hgv := (HU.out.lt gv rfl).2
      unfold Enc at HF4
      rw [he0] at HF4
      have HK0 := Lib.hid (fun (y : World) (hb : Below wr.heap.size wr y) => (hb.cell (p := ⟨gv, 0, none⟩) hgv).trans hk0)
      obtain ⟨tb, htb⟩ : ∃ tb, tb = Tm.bytesOf (tms P) := ⟨_, rfl⟩
      obtain ⟨vb, hvb⟩ : ∃ vb, vb = (enc (vls P)).2 := ⟨_, rfl⟩
      obtain ⟨kk, hkd⟩ : ∃ kk, kk = kd P := ⟨_, rfl⟩
      rw [← htb] at F2 HE hbl htl
      rw [← hvb] at HF4 HE hsz hvl
      rw [← hkd] at HE hkk HK0
      have hk256 := hkk.2
      have HB := Lib.hid (And.intro hbl hsz)
      have HX := Lib.hid (And.intro htl hvl)
      clear hO hkd hvb htb hk0 hof he0 hkk hsz hbl htl hvl hgv
      go_wp2_with fail
      refine F2.out.mono ?_
      rintro e w2 ⟨r2, rfl, o2, b2⟩
      have O2 := Lib.hid o2
      have B2 := Lib.hid (B1.out.trans (b2.mono B1.out.size))
      have F4 := Lib.hid (HF4.out w2 _ _ B2.out (HU.out.kept (row := none) ⟨b2.os, b2.tape, b2.output, b2.size, fun k hk _ => b2.block k hk⟩ (.inr (by intro e; cases e))))
      have HW2 := Lib.hid b2
      clear b2 o2
      obtain ⟨g2, c2, hr2⟩ := Go.Joins.ownsRow_form O2.out (by have := HB.out; omega)
      subst hr2
      go_wp2_with fail
      refine F4.out.mono ?_
      rintro e w4 ⟨r4, rfl, o4, b4⟩
      have O4 := Lib.hid o4
      have O2c := Lib.hid (Rp.own_below O2.out b4)
      have B4 := Lib.hid (B2.out.trans (b4.mono B2.out.size))
      have HW4 := Lib.hid (HW2.out.trans (b4.mono HW2.out.size))
      have e4 := HK0.out _ HW4.out
      clear o4 b4
      obtain ⟨g4, c4, hr4⟩ := Go.Joins.ownsRow_form O4.out (by have := HB.out; omega)
      subst hr4
      go_wp2_with fail
      have hk8 : IntKind.u8.wrap (kk : Int) = (kk : Int) := by rw [IntKind.wrap_u8]; omega
      have hb8011 := HB.out.1.2
      have F33 : Hid (∀ x, Calls Tryd.prog 17 #[.int .i64 (tb.length : Nat)] x fun e w' => ∃ g c, e = .returned (.slice (some ⟨g, 0, none⟩) 4 c) ∧ Rl.Pz w' (.slice (some ⟨g, 0, none⟩) 4 c) (four tb.length) ∧ Below x.heap.size x w') := Lib.hid fun x => four33 x tb.length (by omega)
      have PT := Lib.hid (show Rl.Pz w4 (.slice (some ⟨g2, 0, none⟩) tb.length c2) tb from pz_own O2c.out rfl (by have := HB.out; omega))
      have PV := Lib.hid (show Rl.Pz w4 (.slice (some ⟨g4, 0, none⟩) vb.length c4) vb from pz_own O4.out rfl (by have := HB.out; omega))
      have HSZ4 := Lib.hid (show wr.heap.size ≤ w4.heap.size from HW4.out.size)
      have BA := Lib.hid (show Below w4.heap.size w4 (w4.alloc (.cells #[.int .u8 (kk : Nat)] 5)).drew from ((Below.refl _ _).alloc (Nat.le_refl _) _).drew)
      have s1 := HK0.out _ (HW4.out.trans (BA.out.mono HSZ4.out))
      have PK := Lib.hid (show Rl.Pz (w4.alloc (.cells #[.int .u8 (kk : Nat)] 5)).drew (.slice (some ⟨w4.heap.size, 0, none⟩) 1 1) [kk] from pz_one w4 _ kk rfl)
      have HKB := Lib.hid (fun (y : World) (hy : Below w4.heap.size w4 y) => HK0.out y (HW4.out.trans (hy.mono HSZ4.out)))
      have HL9 := Lib.hid (show tb.length ≤ 1000000000 ∧ vb.length ≤ 1000000000 from ⟨by omega, by have := HB.out; omega⟩)
      go_region_held (fun y : World => y.cell? ⟨gv, 0, none⟩ = some (.int .i64 (kk : Nat))) (first | exact e4 | exact s1 | exact s2 | exact s3 | exact s4 | exact s5)
        (first
          | (go_at_call 17; refine (F33.out _).mono ?_; rintro e w5 ⟨g5, c5, rfl, p5, b5⟩; have P1 := Lib.hid (PK.out.below b5); have P2 := Lib.hid p5; have B5 := Lib.hid (BA.out.trans (b5.mono BA.out.size)); have P3 := Lib.hid (PT.out.below B5.out); have P4 := Lib.hid (PV.out.below B5.out); have s2 := HKB.out _ B5.out; have s3 := HKB.out _ (B5.out.alloc B5.out.size (.cells #[.slice (some ⟨w4.heap.size, 0, none⟩) 1 1, .slice (some ⟨g5, 0, none⟩) 4 c5, .slice (some ⟨g2, 0, none⟩) tb.length c2, .slice (some ⟨g4, 0, none⟩) vb.length c4] 24)); clear p5 b5)
          | (go_at_call 17; refine (F33.out _).mono ?_; rintro e w5 ⟨g5, c5, rfl, p5, b5⟩; have d5 := (Below.refl w4.heap.size w4).drew.trans b5; have BC := (Below.refl w5.heap.size w5).alloc (Nat.le_refl _) (.cells #[.int .u8 (kk : Nat)] 5); have P1 := Lib.hid (pz_one w5 _ kk rfl); have P2 := Lib.hid (p5.below BC); have B5 := Lib.hid (d5.trans (BC.mono d5.size)); have P3 := Lib.hid (PT.out.below B5.out); have P4 := Lib.hid (PV.out.below B5.out); have s2 := HKB.out _ d5; have s3 := HKB.out _ B5.out; have s4 := HKB.out _ (B5.out.alloc B5.out.size (.cells #[.slice (some ⟨w5.heap.size, 0, none⟩) 1 1, .slice (some ⟨g5, 0, none⟩) 4 c5, .slice (some ⟨g2, 0, none⟩) tb.length c2, .slice (some ⟨g4, 0, none⟩) vb.length c4] 24)); clear p5 b5 d5 BC)
          | (go_at_call 16; refine (join4n _ _ (by simp) _ _ _ _ _ _ _ _ P1.out P2.out P3.out P4.out (by simp) (by simp [four]) HL9.out.1 HL9.out.2).mono ?_; rintro e w6 ⟨r6, rfl, o6, b6⟩; have O6 := Lib.hid o6; have B6 := Lib.hid (B5.out.trans (b6.mono B5.out.size)); have HSZ := Lib.hid B5.out.size; have s5 := HKB.out _ B6.out; clear o6 b6))
      all_goals
        have hbd : [kk] ++ (four tb.length ++ (tb ++ vb)) = body kk tb vb := rfl
        have HO6 := Lib.hid (show w6.ownsRow w.heap.size 5 1 r6 (body kk tb vb).length (u8s (body kk tb vb)) from by
          rw [← hbd]
          exact Go.Joins.ownsRow_le O6.out (Nat.le_trans B1.out.size (Nat.le_trans HSZ4.out HSZ.out)))
        have HB6 := Lib.hid (show Below w.heap.size w w6 from B4.out.trans (B6.out.mono B4.out.size))
        have hbdl := body_len kk tb vb
        have hb6 : (body kk tb vb).length ≤ 1000000000 := by have := HB.out; omega
        have hlay : lay kk tb vb = body kk tb vb ++ four (Kc.sum (body kk tb vb)) := rfl
        have hZ1 : 1 ≤ (body kk tb vb).length := by omega
        have FS := Lib.hid (Ks.rsum20 w6 r6 (body kk tb vb) (pl_own HO6.out (by omega)) (body_lt hk256 HX.out.1 HX.out.2) (by omega))
        have hs := Kc.sum_lt (body kk tb vb)
        obtain ⟨S, hS⟩ : ∃ S, S = Kc.sum (body kk tb vb) := ⟨_, rfl⟩
        obtain ⟨bd, hbde⟩ : ∃ bd, bd = body kk tb vb := ⟨_, rfl⟩
        rw [← hS] at FS hlay hs
        rw [← hbde] at hlay HO6 hb6 hZ1
        obtain ⟨g6, c6, hr6⟩ := Go.Joins.ownsRow_form HO6.out hZ1
        subst hr6
        have F4S : Hid (∀ x, Calls Tryd.prog 17 #[.int .i64 (S : Nat)] x fun e w' => ∃ g c, e = .returned (.slice (some ⟨g, 0, none⟩) 4 c) ∧ Rl.Pz w' (.slice (some ⟨g, 0, none⟩) 4 c) (four S) ∧ Below x.heap.size x w') := Lib.hid fun x => four33 x S hs
        have HLY := Lib.hid hlay
        have PB := Lib.hid (show Rl.Pz w6 (.slice (some ⟨g6, 0, none⟩) bd.length c6) bd from pz_own HO6.out rfl (by omega))
        have HBL := Lib.hid hb6
        obtain ⟨Z, hZ⟩ : ∃ Z, Z = bd.length := ⟨_, rfl⟩
        rw [← hZ] at FS PB ⊢
        have HZ := Lib.hid hZ
        have hsw : (S : Int) < 4294967296 := by omega
        clear hbd hlay hS hbde hbdl hZ HO6 hb6 hZ1 O6 HSZ B6 s1 s2 s3 e4 P1 P2 P3 P4 B5 PT PV PK BA F33 HKB HSZ4 HK0 O4 O2c HW2 HW4
        go_wp2_with fail
        refine FS.out.mono ?_
        rintro e w7 ⟨rfl, h7⟩
        rw [h7]
        clear h7 w7
        go_wp2_with fail
        refine (F4S.out _).mono ?_
        rintro e w8 ⟨g8, c8, rfl, p8, b8⟩
        have HB8 := Lib.hid (HB6.out.trans (b8.mono HB6.out.size))
        have FJ := Lib.hid (join2n w8 w8.heap.size rfl _ _ _ _ (PB.out.below b8) p8 HBL.out (by simp [four]))
        clear p8 b8
        go_wp2_with fail
        refine FJ.out.mono ?_
        rintro e w9 ⟨r9, rfl, o9, b9⟩
        have O9 := Lib.hid (Go.Joins.ownsRow_le o9 HB8.out.size)
        have B9 := Lib.hid (HB8.out.trans (b9.mono HB8.out.size))
        clear o9 b9
        go_wp2_with fail
        go_ret2
        refine BEnc.of HE.out ⟨_, rfl, ?_, B9.out⟩
        rw [HLY.out]
        exact O9.out
end Kr
end Go.Proofs.YtjmddomkoholoaaDoor

/- The law BlockEncodes. -/
namespace Go.Proofs.YtjmddomkoholoaaDoor
open Go.RowKit
namespace Kv
open Cm Wr Bm Pk Zs Vs Fo Cv Fl Ld En De Kd Kp Ke Kw Kr

set_option maxRecDepth 100000 in
set_option maxHeartbeats 1000000 in
theorem encodes5 (w : World) (v : Value) (P : List Pnt) (h : Pi w v P) (hl : P.length ≤ 3518437208781) (hT : Tab w) (hD : Dt w) :
    Calls Tryd.prog 3 #[v] w fun e w' => e = .returned (.bool true) ∧ Below w.heap.size w w' := by
  have F8 := Lib.hid (awake14 w hT hD)
  obtain ⟨c, hc⟩ : ∃ c, c = (enc8 P).1 := ⟨_, rfl⟩
  obtain ⟨S, hSt⟩ : ∃ S, S = str (enc8 P).2 := ⟨_, rfl⟩
  have F9 : Hid (∀ x, Below w.heap.size w x → Calls Tryd.prog 8 #[v] x fun e w' => ∃ r, e = .returned (.tuple #[r, .int .i64 (c : Nat)]) ∧ w'.ownsRow x.heap.size 5 1 r (enc8 P).2.length (u8s (enc8 P).2) ∧ Below x.heap.size x w') :=
    Lib.hid fun x b => by rw [hc]; exact refencode15 x v P (h.below b) hl (hT.below b hT.1) (hD.below b (by have := hD.1; omega))
  have F10 : Hid (∀ x, Below w.heap.size w x → Calls Tryd.prog 9 #[v] x fun e w' => ∃ r, e = .returned (.tuple #[r, .int .i64 (c : Nat)]) ∧ w'.ownsRow x.heap.size 5 1 r (enc8 P).2.length (u8s (enc8 P).2) ∧ Below x.heap.size x w') :=
    Lib.hid fun x b => by rw [hc]; exact encode16 x v P (h.below b) hl (hT.below b hT.1) (hD.below b (by have := hD.1; omega))
  have FS : Hid (∀ x B r, World.ownsRow x B 5 1 r (enc8 P).2.length (u8s (enc8 P).2) → (convert 24 9 r).run Tryd.prog x = .ok (.string S) x) := Lib.hid fun x B r h => by rw [hSt]; exact conv_own h
  clear h hT hD hSt hc hl
  go_enter Tryd.func3, Tryd.ntmps3
  go_wp2_with (first
    | (go_at_call 7; refine F8.out.mono ?_; rintro e w1 ⟨rfl, b1⟩; have B1 := Lib.hid b1; clear b1)
    | (go_at_call 8; refine (F9.out _ B1.out).mono ?_; rintro e w2 ⟨r2, rfl, o2, b2⟩; have O2 := Lib.hid o2; have B2 := Lib.hid (B1.out.trans (b2.mono B1.out.size)); clear b2 o2)
    | (go_at_call 9; refine (F10.out _ B2.out).mono ?_; rintro e w3 ⟨r3, rfl, o3, b3⟩; have B3 := Lib.hid (B2.out.trans (b3.mono B2.out.size)); have q3 := FS.out _ _ _ o3; have q2 := FS.out _ _ _ (Rp.own_below O2.out b3); clear b3 o3))
  go_ret
  exact ⟨rfl, B3.out⟩
end Kv
end Go.Proofs.YtjmddomkoholoaaDoor
