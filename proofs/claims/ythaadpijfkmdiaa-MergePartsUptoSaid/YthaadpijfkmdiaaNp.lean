/- Merge. -/
import Derived.Test.YthaadpijfkmdiaaNo
import Derived.Test.YthaadpijfkmdiaaNhp
import Derived.Deep.RegionHeldLaw
namespace Go.Proofs.Ythaadpijfkmdiaa
open Go.RowKit
namespace Np
open Jb Ca Ga Nm Na Nj Nk Nl Nn Nq No

theorem infoC : (Try.prog.info? 42).map (fun i => (i.zero, i.size, i.bytes)) = some (some (.agg #[.string ⟨#[]⟩, .string ⟨#[]⟩, .slice none 0 0]), 3, 56) := by kernel_rfl
/-- The merged columns in memory. -/
structure Mg (w W : World) (r : Value) (Y : List Mc) : Prop where
  own : W.ownsRow w.heap.size 42 3 r Y.length (ccs (Y.map (·.1)))
  rows : ∀ p ∈ Y, W.ownsRow w.heap.size 65 4 p.1.2.2 p.2.length (c4s p.2) ∧ ∀ z ∈ p.2, Dt z ∧ One z
  bl : Below w.heap.size w W
theorem own_fr {w w' : World} {B n s : Nat} {e : TypeId} {v : Value} {xs : List Value} (h : w.ownsRow B e s v n xs) (b : Below w.heap.size w w') : w'.ownsRow B e s v n xs :=
  h.kept (row := none) ⟨b.os, b.tape, b.output, b.size, fun k hk _ => b.block k hk⟩ (by
    by_cases e : v.ownBlock = none
    · exact .inl e
    · exact .inr e)
theorem own_lo {w : World} {B B' n s : Nat} {e : TypeId} {v : Value} {xs : List Value} (h : w.ownsRow B e s v n xs) (hb : B' ≤ B) : w.ownsRow B' e s v n xs := by
  obtain ⟨h1, h2⟩ := h
  refine ⟨h1, h2.imp id ?_⟩
  rintro ⟨g, cap, cur, e1, e2, e3⟩
  exact ⟨g, cap, cur, e1, Nat.le_trans hb e2, e3⟩
theorem Mg.fr {w W W' : World} {r : Value} {Y : List Mc} (h : Mg w W r Y) (b : Below W.heap.size W W') : Mg w W' r Y :=
  ⟨own_fr h.own b, fun p hp => ⟨own_fr (h.rows p hp).1 b, (h.rows p hp).2⟩, h.bl.trans (b.mono h.bl.size)⟩
theorem Mg.snoc {w W W' : World} {r r' : Value} {Y : List Mc} (h : Mg w W r Y) (p : Mc) (hp : W.ownsRow w.heap.size 65 4 p.1.2.2 p.2.length (c4s p.2) ∧ ∀ z ∈ p.2, Dt z ∧ One z) (o : W'.ownsRow w.heap.size 42 3 r' (Y.length + 1) (ccs (Y.map (·.1)) ++ cc p.1)) (g : W.grownBy W' r.ownBlock) : Mg w W' r' (Y ++ [p]) := by
  refine ⟨?_, fun q hq => ?_, h.bl.grown g h.bl.size (fun j ej => (La.own_lt h.own ej).1)⟩
  · rw [List.map_append, List.length_append]
    simp only [List.map_cons, List.map_nil, ccs_snoc]
    exact o
  · have key : W.ownsRow w.heap.size 65 4 q.1.2.2 q.2.length (c4s q.2) ∧ ∀ z ∈ q.2, Dt z ∧ One z := by
      rcases List.mem_append.1 hq with hq | hq
      · exact h.rows q hq
      · obtain rfl := List.mem_singleton.1 hq; exact hp
    exact ⟨key.1.kept g (Nep.apart key.1 h.own (by decide)), key.2⟩
theorem parts_dp {CC : List (List C3)} (hu : ∀ C ∈ CC, ∀ c ∈ C, ∃ a n k, c.2.2 = .slice a n k) : ∀ i, ∀ z ∈ parts i CC, (∃ C ∈ CC, ∃ c ∈ C, ∃ j, z = tp j c) ∧ Dp z ∧ One z := by
  induction CC with
  | nil => intro i z hz; cases hz
  | cons C r ih =>
    intro i z hz
    simp only [parts] at hz
    rcases List.mem_append.1 hz with hz | hz
    · obtain ⟨c, hc, rfl⟩ := List.mem_map.1 hz
      obtain ⟨a, n, k, e⟩ := hu C (by simp) c hc
      refine ⟨⟨C, by simp, c, hc, i, rfl⟩, ⟨c.1, c.2.1, c.2.2, i, rfl, a, n, k, e⟩, fun u hu => ?_⟩
      simp only [c4, tp, List.mem_cons, List.not_mem_nil, or_false] at hu
      rcases hu with rfl | rfl | rfl | rfl
      · rfl
      · rfl
      · rw [e]; rfl
      · rfl
    · obtain ⟨⟨D, hD, c, hc, j, e⟩, h2⟩ := ih (fun C hC => hu C (by simp [hC])) (i + 1) z hz
      exact ⟨⟨D, by simp [hD], c, hc, j, e⟩, h2⟩
set_option maxRecDepth 100000
set_option maxHeartbeats 2000000
theorem merge7 (w : World) (v : Value) (CC : List (List C3)) (pr : Value → List V4) (h : Rc w v CC) (hu : ∀ C ∈ CC, ∀ c ∈ C, ∃ a n k, c.2.2 = .slice a n k) (hP : ∀ C ∈ CC, ∀ c ∈ C, Sl w c.2.2 (pr c.2.2) ∧ ∀ z ∈ pr c.2.2, Dt z ∧ One z)
    (hn : CC.length ≤ 1000000000) (ht : CC.flatten.length ≤ 1000000000) (htot : tot pr CC ≤ 1000000000) :
    Calls Try.prog 7 #[v] w fun e w' => ∃ r Y, e = .returned r ∧ Mg w w' r Y ∧ MS pr CC (Y.map pairOf) ∧ (Y.map fun p => p.2.length).sum ≤ tot pr CC ∧ Y.length ≤ tot pr CC := by
  obtain ⟨i0, hi, hz0, hz1, hz2⟩ := info_parts infoC
  have A14 := Lib.hid (parts14 w v CC h hu hn ht)
  have DPP := Lib.hid (parts_dp hu 0)
  have PL := parts_len 0 CC
  have HP := Lib.hid hP
  have HTO := htot
  obtain ⟨Q, hQ⟩ : ∃ Q, Q = parts 0 CC := ⟨_, rfl⟩
  rw [← hQ] at A14 DPP PL
  have HQ := Lib.hid hQ
  have hql : Q.length ≤ 1000000000 := by omega
  clear h hu hP hn ht hQ PL htot
  go_enter Try.func7, Try.ntmps7
  go_wp2_with fail
  refine A14.out.mono ?_
  rintro e w1 ⟨r1, rfl, o1, b1⟩
  obtain ⟨qa, qc, he⟩ := La.own_forms o1
  subst he
  have RR := Lib.hid (show Rr (w1.alloc (.cells #[.slice qa Q.length qc] 38)) (.slice (some ⟨w1.heap.size, 0, none⟩) 1 1) [Q] from rr_own (vals := [.slice qa Q.length qc]) (World.ownsRow_lit (base := 0) (e := 38) (size := 1) w1 #[.slice qa Q.length qc] 1 (Nat.zero_le _) (by decide) rfl) ⟨rfl, fun i hi => by
    obtain rfl : i = 0 := by simpa using hi
    exact (sl_own o1).below ((Below.refl _ w1).alloc (Nat.le_refl _) _) (Nat.le_refl _)⟩)
  have B1 := Lib.hid (b1.alloc b1.size (.cells #[.slice qa Q.length qc] 38))
  have A12 := Lib.hid (Nhp.rising12 kp ltp Dp ord_p lin_p _ _ [Q] RR.out (by simpa using fun x hx => (DPP.out x hx).2) (by simp) (by simpa using hql))
  clear o1 b1 A14
  go_wp2_with fail
  refine A12.out.mono ?_
  rintro e w2 ⟨r2, R, rfl, o2, p1, p2, p3, p4, b2⟩
  have B2 := Lib.hid (B1.out.trans (b2.mono B1.out.size))
  have SR := Lib.hid (sl_own o2)
  have RS := Lib.hid p1
  have RL := Lib.hid (show ∀ k, lk kp R k = lk kp (parts 0 CC) k from fun k => by rw [p2, ← HQ.out]; simp)
  have RM := Lib.hid (show ∀ z ∈ R, (∃ C ∈ CC, ∃ c ∈ C, ∃ j, z = tp j c) ∧ Dp z ∧ One z from fun z hz => DPP.out z (by simpa using p3 z hz))
  have hRl : R.length ≤ 1000000000 := by simp at p4; omega
  obtain ⟨ra, rc, he⟩ := La.own_forms o2
  subst he
  have PW := Lib.hid (show ∀ z ∈ R, Sl w z.2.2.1 (pr z.2.2.1) ∧ ∀ y ∈ pr z.2.2.1, Dt y ∧ One y from fun z hz => by
    obtain ⟨⟨C, hC, c, hc, j, rfl⟩, _⟩ := RM.out z hz
    exact HP.out C hC c hc)
  clear o2 p1 p2 p3 p4 b2 A12 RR B1 HP
  go_wp2_with fail
  go_loopw [3, 4, 5, 6] (fun o q _ _ wr => ∃ (k : Nat) (Y : List Mc), Hid (k ≤ R.length ∧ Sl w2 q (R.drop k)) ∧ Hid (Mg w2 wr o Y) ∧ Hid (Inv pr CC R k Y) ∧ Hid (Below w2.heap.size w2 wr)) (fun _ q _ _ _ => lenOf q)
  case atStart => exact ⟨0, [], Lib.hid ⟨Nat.zero_le _, by simpa using SR.out⟩, Lib.hid ⟨World.ownsRow_nil _ _ _ _, (fun p hp => (by cases hp)), Below.refl _ _⟩, Lib.hid (inv0 pr CC R), Lib.hid (Below.refl _ _)⟩
  case round =>
    obtain ⟨k, Y, HK, HM, HI, HB⟩ := hrel
    obtain ⟨wa, rfl⟩ : ∃ wa, wa = wr := ⟨_, rfl⟩
    obtain ⟨oa, oc, he⟩ := La.own_forms HM.out.own
    subst he
    have hk := HK.out.1
    by_cases hkR : k < R.length
    case neg =>
      obtain rfl : k = R.length := by omega
      obtain ⟨ea, ec, he⟩ := HK.out.2.forms
      rw [List.drop_length] at he
      simp only [List.length_nil] at he
      subst he
      have IT := Lib.hid (inv_tot HI.out)
      have MM := Lib.hid (inv_ms RL.out HI.out)
      go_wp2_with fail
      go_ret
      exact ⟨_, Y, rfl, ⟨own_lo HM.out.own B2.out.size, fun p hp => ⟨own_lo (HM.out.rows p hp).1 B2.out.size, (HM.out.rows p hp).2⟩, B2.out.trans (HM.out.bl.mono B2.out.size)⟩, MM.out, IT.out.1, IT.out.2⟩
    have hdl : (R.drop k).length = R.length - k := List.length_drop
    obtain ⟨b, off, c, rfl, hlc, hb, hat⟩ : ∃ b off c, u4 = .slice (some ⟨b, off, none⟩) (R.drop k).length c ∧ (R.drop k).length ≤ c ∧ b < w2.heap.size ∧ ∀ i, i < (R.drop k).length → At4 w2 b (off + i * 4) ((R.drop k).getD i d4) := by
      rcases HK.out.2 with ⟨_, _, _, h, _⟩ | h
      · rw [h] at hdl; simp at hdl; omega
      · exact h
    have SK := Lib.hid (HK.out.2)
    have BG := Lib.hid (beginning15 wa b off c (R.drop k) (SK.out.below HB.out (Nat.le_refl _)) (by omega) (fun x hx => (RM.out x (List.mem_of_mem_drop hx)).2.1) (by omega))
    have GO := Lib.hid (fun n h1 h2 h3 h4 => grp_of (R := R) (k := k) (n := n) RS.out h1 h2 hk h3 h4)
    have MEM := Lib.hid (show ∀ n, ∀ x ∈ (R.drop k).take n, x ∈ R from fun n x hx => List.mem_of_mem_drop (List.mem_of_mem_take hx))
    have HAT := Lib.hid hat
    obtain ⟨L, hL⟩ : ∃ L, L = R.drop k := ⟨_, rfl⟩
    rw [← hL] at SK BG GO MEM HAT hdl hlc ⊢
    obtain ⟨m, hm⟩ : ∃ m, m = L.length := ⟨_, rfl⟩
    rw [← hm] at SK BG GO HAT hdl hlc ⊢
    have HLL := Lib.hid hL
    have HMM := Lib.hid hm
    have hm1 : 1 ≤ m := by omega
    have hm9 : m ≤ 1000000000 := by omega
    have HDL := Lib.hid hdl
    clear hL hm hat HK hdl
    have d0 : decide ((m : Int) > 0) = true := decide_eq_true (by omega)
    go_wp2_with fail
    refine BG.out.mono ?_
    rintro e w3 ⟨n, rfl, n1, n2, _, n4, n5, b3⟩
    have G := Lib.hid (GO.out n n1 n2 n4 n5)
    have B3 := Lib.hid (HB.out.trans (b3.mono HB.out.size))
    have M3 := Lib.hid (HM.out.fr b3)
    have SP := Lib.hid (show Sl w2 (.slice (some ⟨b, off, none⟩) n c) (L.take n) by
      have := sl_piece (k := 0) (m := n) (c' := c) SK.out (Nat.zero_le _) (by rw [← HMM.out]; exact n2) (by omega)
      simpa using this)
    have PT := Lib.hid (fun W (hW : Below w2.heap.size w2 W) => points16 W (.slice (some ⟨b, off, none⟩) n c) (L.take n) pr (SP.out.below hW (Nat.le_refl _)) (fun x hx => (RM.out x (MEM.out n x hx)).2.1) (fun x hx => ⟨(PW.out x (MEM.out n x hx)).1.below (B2.out.trans (hW.mono B2.out.size)) (Nat.le_refl _), (PW.out x (MEM.out n x hx)).2⟩) (by rw [List.length_take]; omega))
    have GR := Lib.hid (show (rows pr (L.take n)).flatten = rowsOf pr CC (nameOf (L.getD 0 d4)) by
      rw [HLL.out] at G ⊢
      exact grp_rows RS.out RL.out HI.out G.out)
    have PT3 := Lib.hid (PT.out w3 B3.out (by rw [GR.out]; exact Nat.le_trans (rows_le pr CC _) HTO))
    clear n4 n5 b3 PT BG GO HM HB
    by_cases hnc : n = c
    · subst hnc
      obtain rfl : m = n := by omega
      have RE := Lib.hid (show k + m ≤ R.length ∧ Sl w2 (.slice (some ⟨b, off, none⟩) 0 0) (R.drop (k + m)) from ⟨by have := HDL.out; omega, by
        have := HDL.out
        rw [show k + m = R.length by omega, List.drop_length]
        exact .inl ⟨_, _, rfl, rfl, fun h => by cases h⟩⟩)
      go_wp2_with fail
      refine PT3.out.mono ?_
      rintro e w6 ⟨r6, P6, rfl, o6, q1, q2, q3, q4, b6⟩
      have B6 := Lib.hid (B3.out.trans (b6.mono B3.out.size))
      have M6 := Lib.hid (M3.out.fr b6)
      have O6 := Lib.hid (own_lo o6 B3.out.size)
      have Q2 := Lib.hid (show ∀ t, lk kt P6 t = lk kt (rowsOf pr CC (nameOf (L.getD 0 d4))) t from fun t => by rw [q2, GR.out])
      have Q1 := Lib.hid q1
      have Q4 := Lib.hid (show P6.length ≤ (rowsOf pr CC (nameOf (L.getD 0 d4))).length by rw [← GR.out]; exact q4)
      have Q3 := Lib.hid (show ∀ z ∈ P6, Dt z ∧ One z from fun z hz => by
        obtain ⟨l, hl, hzl⟩ := List.mem_flatten.1 (q3 z hz)
        obtain ⟨x, hx, rfl⟩ := List.mem_map.1 hl
        exact (PW.out x (MEM.out m x hx)).2 z hzl)
      obtain ⟨pa, pc, he⟩ := La.own_forms o6
      subst he
      have G9 := Lib.hid (show Grp R k m (nameOf (L.getD 0 d4)) by have := G.out; rw [HLL.out] at this ⊢; exact this)
      have z6 : w2.heap.size ≤ w6.heap.size := M6.out.bl.size
      clear o6 q1 q2 q3 q4 b6 PT3
      by_cases hP : P6 = []
      · subst hP
        have E9 := Lib.hid (show rowsOf pr CC (nameOf (L.getD 0 d4)) = [] from lk_nil_of fun t => by rw [← Q2.out t]; simp [lk])
        simp only [List.length_nil]
        go_wp2_with fail
        go_roundw
        case rel => exact ⟨k + m, Y, RE, M6, Lib.hid (inv_skip HI.out G9.out E9.out), B6⟩
        case measure => simp [lenOf]; omega
      · obtain ⟨s, f, u, l, e1, _⟩ := (RM.out _ (MEM.out 1 (L.getD 0 d4) (by
          have : 0 < L.length := by rw [← HMM.out]; omega
          rw [List.getD_eq_getElem?_getD, List.getElem?_eq_getElem this]
          cases L with
          | nil => simp at this
          | cons x r => simp))).2.1
        have x01 := HAT.out 0 (by omega)
        rw [e1] at x01 Q2 Q4 G9
        have hb6 : b < w6.heap.size := Nat.lt_of_lt_of_le hb B6.out.size
        have KK := Lib.hid (show ∀ y, Below w2.heap.size w2 y → y.cell? ⟨b, off, none⟩ = some (.string s) ∧ y.cell? ⟨b, off + 1, none⟩ = some (.string f) from fun y hy => by
          obtain ⟨x0, x1, _⟩ := x01.of_block (hy.block b hb)
          simp only [Nat.zero_mul, Nat.add_zero] at x0 x1
          exact ⟨x0, x1⟩)
        obtain ⟨pn, hpn⟩ : ∃ pn, pn = P6.length := ⟨_, rfl⟩
        have hpn1 : 1 ≤ pn := by
          rw [hpn]
          cases P6 with
          | nil => exact absurd rfl hP
          | cons x r => simp
        rw [← hpn] at O6 Q4 ⊢
        have HPN := Lib.hid hpn
        have OB := Lib.hid (show Below w6.heap.size w6 ((w6.alloc (.cells #[.string s, .string f, .slice pa pn pc] 42)).drew) from ((Below.refl _ w6).alloc (Nat.le_refl _) _).drew)
        have M7 := Lib.hid (M6.out.fr OB.out)
        have O7 := Lib.hid (own_fr O6.out OB.out)
        have OWN := M7.out.own
        have k0 := KK.out w6.drew B6.out.drew
        have k1 := KK.out ((w6.alloc (.cells #[.string s, .string f, .slice pa pn pc] 42)).drew) (B6.out.trans (OB.out.mono B6.out.size))
        have NEWC : ∀ j u, (cc (s, f, .slice pa pn pc))[j]? = some u → ((w6.alloc (.cells #[.string s, .string f, .slice pa pn pc] 42)).drew).cell? ((⟨w6.heap.size, 0, none⟩ : Addr).add j) = some u := fun j u hj => by
          have hb := heap_alloc_new w6 (.cells #[.string s, .string f, .slice pa pn pc] 42)
          match j, hj with
          | 0, hj => cases hj; exact La.cell_at hb 0
          | 1, hj => cases hj; exact La.cell_at hb 1
          | 2, hj => cases hj; exact La.cell_at hb 2
        have ONE : ∀ u ∈ cc (s, f, .slice pa pn pc), u.oneCell' = true := by
          intro u hu
          simp only [cc, List.mem_cons, List.not_mem_nil, or_false] at hu
          rcases hu with rfl | rfl | rfl <;> rfl
        have YL := (inv_tot HI.out).2
        have hY9 : Y.length ≤ 1000000000 := Nat.le_trans YL HTO
        have XB := Lib.hid (show ∀ v' w7, w7.ownsRow w2.heap.size 42 3 v' (Y.length + 1) (ccs (Y.map (·.1)) ++ cc (s, f, .slice pa pn pc)) → ((w6.alloc (.cells #[.string s, .string f, .slice pa pn pc] 42)).drew).grownBy w7 (Value.slice oa Y.length oc).ownBlock → Mg w2 w7 v' (Y ++ [((s, f, .slice pa pn pc), P6)]) ∧ Below w2.heap.size w2 w7 from fun v' w7 h1 h2 => ⟨M7.out.snoc ((s, f, .slice pa pn pc), P6) ⟨by rw [← HPN.out]; exact O7.out, Q3.out⟩ h1 h2, (M7.out.snoc ((s, f, .slice pa pn pc), P6) ⟨by rw [← HPN.out]; exact O7.out, Q3.out⟩ h1 h2).bl⟩)
        have NX := Lib.hid (inv_next HI.out G9.out (.slice pa pn pc) P6 hP Q1.out Q2.out (by rw [← HPN.out]; exact Q4.out))
        have KY := Lib.hid (show ∀ w7, Below w2.heap.size w2 w7 → w7.cell? ⟨b, off, none⟩ = some (.string s) ∧ w7.cell? ⟨b, off + 1, none⟩ = some (.string f) from KK.out)
        clear hpn x01 e1 YL hP
        go_upto_region 8 with (fail)
        go_region_held_law (fun y : World => y.cell? ⟨b, off, none⟩ = some (.string s) ∧ y.cell? ⟨b, off + 1, none⟩ = some (.string f))
          (first | exact k0 | exact k1 | exact kY)
          (first | (refine La.step_append_own rfl (.tmp 25) (.tmp 38) 25 rfl w2.heap.size 42 i0 _ 3 56 Try.underlying25 hi hz0 hz1 hz2 rfl (by decide) (.slice oa Y.length oc) Y.length (ccs (Y.map (·.1))) (by simp [Act.eval]) OWN ⟨w6.heap.size, 0, none⟩ 1 1 (cc (s, f, .slice pa pn pc)) (by simp [Act.eval]) rfl NEWC ONE (by unfold maxLen; omega) (by omega) (by simp; omega) ?_; intro v7 w7 o7 g7; have N7 := Lib.hid (XB.out v7 w7 o7 g7); have kY := KY.out w7 N7.out.2; clear o7 g7))
        all_goals
          simp only [List.getElem_toArray, List.getElem_cons_succ, List.getElem_cons_zero, List.setIfInBounds_toArray, List.set_cons_zero, List.set_cons_succ]
          go_wp2_with fail
          go_roundw
          case rel => exact ⟨k + m, _, RE, Lib.hid N7.out.1, NX, Lib.hid N7.out.2⟩
          case measure => simp [lenOf]; omega
    · have hnc2 : n < c := by omega
      have RE := Lib.hid (show k + n ≤ R.length ∧ Sl w2 (.slice (some ⟨b, off + n * 4, none⟩) (m - n) (c - n)) (R.drop (k + n)) from ⟨by have := HDL.out; omega, by
        have := sl_piece (k := n) (m := m) (c' := c - n) SK.out n2 (by rw [← HMM.out]; exact Nat.le_refl _) (by omega)
        rw [HMM.out, List.take_length, ← HMM.out, HLL.out, List.drop_drop] at this
        exact this⟩)
      go_wp2_with fail
      refine PT3.out.mono ?_
      rintro e w6 ⟨r6, P6, rfl, o6, q1, q2, q3, q4, b6⟩
      have B6 := Lib.hid (B3.out.trans (b6.mono B3.out.size))
      have M6 := Lib.hid (M3.out.fr b6)
      have O6 := Lib.hid (own_lo o6 B3.out.size)
      have Q2 := Lib.hid (show ∀ t, lk kt P6 t = lk kt (rowsOf pr CC (nameOf (L.getD 0 d4))) t from fun t => by rw [q2, GR.out])
      have Q1 := Lib.hid q1
      have Q4 := Lib.hid (show P6.length ≤ (rowsOf pr CC (nameOf (L.getD 0 d4))).length by rw [← GR.out]; exact q4)
      have Q3 := Lib.hid (show ∀ z ∈ P6, Dt z ∧ One z from fun z hz => by
        obtain ⟨l, hl, hzl⟩ := List.mem_flatten.1 (q3 z hz)
        obtain ⟨x, hx, rfl⟩ := List.mem_map.1 hl
        exact (PW.out x (MEM.out n x hx)).2 z hzl)
      obtain ⟨pa, pc, he⟩ := La.own_forms o6
      subst he
      have G9 := Lib.hid (show Grp R k n (nameOf (L.getD 0 d4)) by have := G.out; rw [HLL.out] at this ⊢; exact this)
      have z6 : w2.heap.size ≤ w6.heap.size := M6.out.bl.size
      clear o6 q1 q2 q3 q4 b6 PT3
      by_cases hP : P6 = []
      · subst hP
        have E9 := Lib.hid (show rowsOf pr CC (nameOf (L.getD 0 d4)) = [] from lk_nil_of fun t => by rw [← Q2.out t]; simp [lk])
        simp only [List.length_nil]
        go_wp2_with fail
        go_roundw
        case rel => exact ⟨k + n, Y, RE, M6, Lib.hid (inv_skip HI.out G9.out E9.out), B6⟩
        case measure => simp [lenOf]; omega
      · obtain ⟨s, f, u, l, e1, _⟩ := (RM.out _ (MEM.out 1 (L.getD 0 d4) (by
          have : 0 < L.length := by rw [← HMM.out]; omega
          rw [List.getD_eq_getElem?_getD, List.getElem?_eq_getElem this]
          cases L with
          | nil => simp at this
          | cons x r => simp))).2.1
        have x01 := HAT.out 0 (by omega)
        rw [e1] at x01 Q2 Q4 G9
        have hb6 : b < w6.heap.size := Nat.lt_of_lt_of_le hb B6.out.size
        have KK := Lib.hid (show ∀ y, Below w2.heap.size w2 y → y.cell? ⟨b, off, none⟩ = some (.string s) ∧ y.cell? ⟨b, off + 1, none⟩ = some (.string f) from fun y hy => by
          obtain ⟨x0, x1, _⟩ := x01.of_block (hy.block b hb)
          simp only [Nat.zero_mul, Nat.add_zero] at x0 x1
          exact ⟨x0, x1⟩)
        obtain ⟨pn, hpn⟩ : ∃ pn, pn = P6.length := ⟨_, rfl⟩
        have hpn1 : 1 ≤ pn := by
          rw [hpn]
          cases P6 with
          | nil => exact absurd rfl hP
          | cons x r => simp
        rw [← hpn] at O6 Q4 ⊢
        have HPN := Lib.hid hpn
        have OB := Lib.hid (show Below w6.heap.size w6 ((w6.alloc (.cells #[.string s, .string f, .slice pa pn pc] 42)).drew) from ((Below.refl _ w6).alloc (Nat.le_refl _) _).drew)
        have M7 := Lib.hid (M6.out.fr OB.out)
        have O7 := Lib.hid (own_fr O6.out OB.out)
        have OWN := M7.out.own
        have k0 := KK.out w6.drew B6.out.drew
        have k1 := KK.out ((w6.alloc (.cells #[.string s, .string f, .slice pa pn pc] 42)).drew) (B6.out.trans (OB.out.mono B6.out.size))
        have NEWC : ∀ j u, (cc (s, f, .slice pa pn pc))[j]? = some u → ((w6.alloc (.cells #[.string s, .string f, .slice pa pn pc] 42)).drew).cell? ((⟨w6.heap.size, 0, none⟩ : Addr).add j) = some u := fun j u hj => by
          have hb := heap_alloc_new w6 (.cells #[.string s, .string f, .slice pa pn pc] 42)
          match j, hj with
          | 0, hj => cases hj; exact La.cell_at hb 0
          | 1, hj => cases hj; exact La.cell_at hb 1
          | 2, hj => cases hj; exact La.cell_at hb 2
        have ONE : ∀ u ∈ cc (s, f, .slice pa pn pc), u.oneCell' = true := by
          intro u hu
          simp only [cc, List.mem_cons, List.not_mem_nil, or_false] at hu
          rcases hu with rfl | rfl | rfl <;> rfl
        have YL := (inv_tot HI.out).2
        have hY9 : Y.length ≤ 1000000000 := Nat.le_trans YL HTO
        have XB := Lib.hid (show ∀ v' w7, w7.ownsRow w2.heap.size 42 3 v' (Y.length + 1) (ccs (Y.map (·.1)) ++ cc (s, f, .slice pa pn pc)) → ((w6.alloc (.cells #[.string s, .string f, .slice pa pn pc] 42)).drew).grownBy w7 (Value.slice oa Y.length oc).ownBlock → Mg w2 w7 v' (Y ++ [((s, f, .slice pa pn pc), P6)]) ∧ Below w2.heap.size w2 w7 from fun v' w7 h1 h2 => ⟨M7.out.snoc ((s, f, .slice pa pn pc), P6) ⟨by rw [← HPN.out]; exact O7.out, Q3.out⟩ h1 h2, (M7.out.snoc ((s, f, .slice pa pn pc), P6) ⟨by rw [← HPN.out]; exact O7.out, Q3.out⟩ h1 h2).bl⟩)
        have NX := Lib.hid (inv_next HI.out G9.out (.slice pa pn pc) P6 hP Q1.out Q2.out (by rw [← HPN.out]; exact Q4.out))
        have KY := Lib.hid (show ∀ w7, Below w2.heap.size w2 w7 → w7.cell? ⟨b, off, none⟩ = some (.string s) ∧ w7.cell? ⟨b, off + 1, none⟩ = some (.string f) from KK.out)
        clear hpn x01 e1 YL hP
        go_upto_region 8 with (fail)
        go_region_held_law (fun y : World => y.cell? ⟨b, off, none⟩ = some (.string s) ∧ y.cell? ⟨b, off + 1, none⟩ = some (.string f))
          (first | exact k0 | exact k1 | exact kY)
          (first | (refine La.step_append_own rfl (.tmp 25) (.tmp 38) 25 rfl w2.heap.size 42 i0 _ 3 56 Try.underlying25 hi hz0 hz1 hz2 rfl (by decide) (.slice oa Y.length oc) Y.length (ccs (Y.map (·.1))) (by simp [Act.eval]) OWN ⟨w6.heap.size, 0, none⟩ 1 1 (cc (s, f, .slice pa pn pc)) (by simp [Act.eval]) rfl NEWC ONE (by unfold maxLen; omega) (by omega) (by simp; omega) ?_; intro v7 w7 o7 g7; have N7 := Lib.hid (XB.out v7 w7 o7 g7); have kY := KY.out w7 N7.out.2; clear o7 g7))
        all_goals
          simp only [List.getElem_toArray, List.getElem_cons_succ, List.getElem_cons_zero, List.setIfInBounds_toArray, List.set_cons_zero, List.set_cons_succ]
          go_wp2_with fail
          go_roundw
          case rel => exact ⟨k + n, _, RE, Lib.hid N7.out.1, NX, Lib.hid N7.out.2⟩
          case measure => simp [lenOf]; omega
end Np
end Go.Proofs.Ythaadpijfkmdiaa
