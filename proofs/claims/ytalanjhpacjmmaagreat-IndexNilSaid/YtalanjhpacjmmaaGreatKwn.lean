/- The law IndexNil, a series that is not formed. -/
import Derived.Test.YtalanjhpacjmmaaGreatKw
import Derived.Deep.RegionHeld
namespace Go.Proofs.YtalanjhpacjmmaaGreat
set_option maxRecDepth 100000
open Go.RowKit Go.Maps Go.ChangeMaps Go.MapKept Go.Sort Go.Shelf
namespace Kwn
open Jb Ka Kb Kc Kd Kf Kg Kh Ki Kj Kk Kl Km Kn Ko Kp Kq Kr Ks Kv Kw Sa Sb Sg Sp

set_option maxHeartbeats 8000000 in
theorem nil_no (w : World) (s : Sr) (v : Value) (h : In w s v) (hb : s.2.length * 32 ≤ 140737488355328) (field : Tx) (hf : field.size ≤ maxLen) (kind : Int) (hfm : fm s = false) :
    Calls Tryz.prog 5 #[.agg #[.string s.1, v], .string field, .int .i64 kind] w fun e w' => e = .returned (.bool true) ∧ Below w.heap.size w w' := by
  obtain ⟨n, L⟩ := s
  obtain ⟨a, c, rfl⟩ := h.ti.forms
  simp only at hb
  obtain ⟨m, hm⟩ : ∃ m, m = L.length := ⟨_, rfl⟩
  obtain ⟨W, hW⟩ : ∃ W, W = w.alloc (.cells #[.string n, .slice a m c] 30) := ⟨_, rfl⟩
  obtain ⟨y, hy⟩ : ∃ y, y = w.heap.size := ⟨_, rfl⟩
  have bW : Below w.heap.size w W := by rw [hW]; exact (Below.refl _ w).alloc (Nat.le_refl _) _
  have c0 : W.cell? ⟨y, 0, none⟩ = some (.string n) := by rw [hW, hy]; exact new_cell _ _ _ 0 _ rfl
  have c1 : W.cell? ⟨y, 1, none⟩ = some (.slice a m c) := by rw [hW, hy]; exact new_cell _ _ _ 1 _ rfl
  simp only
  rw [← hm] at h hb ⊢
  have SX := Lib.hid (show ∀ z, Below W.heap.size W z → (z.cell? ⟨y, 0, none⟩ = some (.string n) ∧ z.cell? ⟨y, 1, none⟩ = some (.slice a m c)) ∧ In z (n, L) (.slice a m c) from fun z b =>
    ⟨⟨(b.cell (p := ⟨y, 0, none⟩) (cell_lt c0)).trans c0, (b.cell (p := ⟨y, 1, none⟩) (cell_lt c1)).trans c1⟩, (h.below bW).below b⟩)
  have AW := Lib.hid (awake_i W)
  have AN := Lib.hid (fun z b => add_nil z (n, L) _ (SX.out z b).2)
  simp only at AN
  have KN := Lib.hid (fun z => kind_nil z n field)
  have NW := Lib.hid (fun z => new_i z)
  have BW := Lib.hid bW
  have HM := Lib.hid hm
  have HB := Lib.hid hb
  have HF := Lib.hid hf
  have HN := Lib.hid h.n
  have hm9 : m ≤ 9223372036854775807 := by omega
  have HFM := Lib.hid hfm
  clear h bW hb hf hm hfm
  go_enter Tryz.func5, Tryz.ntmps5
  go_upto_region 1 with (fail)
  rw [← hW, ← hy]
  clear hW hy
  go_upto_region 7 with (first
    | (go_at_call 6; refine AW.out.mono ?_; clear AW; rintro e w1 ⟨rfl, b1⟩; have B1 := Lib.hid b1; (obtain ⟨⟨p0, p1⟩, -⟩ := SX.out w1 b1); clear b1 c0 c1)
    | (go_at_call 11; refine (AN.out w1 B1.out).mono ?_; clear AN; rintro e w2 ⟨rfl, b2⟩; have B2 := Lib.hid (B1.out.trans (b2.mono B1.out.size)); (obtain ⟨⟨q0, q1⟩, -⟩ := SX.out w2 B2.out); clear b2 p0 p1)
    | (go_at_call 17; refine (KN.out w2).mono ?_; clear KN; rintro e w3 ⟨rfl, b3⟩; have B3 := Lib.hid (B2.out.trans (b3.mono B2.out.size)); clear b3 q0 q1)
    | (go_at_call 7; refine (NW.out w3).mono ?_; clear NW; rintro e w4 ⟨x, rfl, i4, b4⟩; have I4 := Lib.hid i4; have B34 := Lib.hid b4; have B4 := Lib.hid (B3.out.trans (b4.mono B3.out.size)); (obtain ⟨⟨r0, r1⟩, -⟩ := SX.out w4 B4.out); clear b4 i4))
  go_upto_region 8 with (fail)
  obtain ⟨W5, hW5⟩ : ∃ W5, W5 = w4.alloc (.cells #[.string n, .slice a m c] 30) := ⟨_, rfl⟩
  obtain ⟨z, hz⟩ : ∃ z, z = w4.heap.size := ⟨_, rfl⟩
  have b5 : Below w4.heap.size w4 W5 := by rw [hW5]; exact (Below.refl _ w4).alloc (Nat.le_refl _) _
  have d0 : W5.cell? ⟨z, 0, none⟩ = some (.string n) := by rw [hW5, hz]; exact new_cell _ _ _ 0 _ rfl
  have d1 : W5.cell? ⟨z, 1, none⟩ = some (.slice a m c) := by rw [hW5, hz]; exact new_cell _ _ _ 1 _ rfl
  have dz : ∀ k, W5.frozen? ⟨z, k, none⟩ = false := by rw [hW5, hz]; exact fun k => Lib.frozen_of_heap (heap_alloc_new _ _) k
  have BW5 := Lib.hid (B4.out.trans (b5.mono B4.out.size))
  obtain ⟨⟨x0, x1⟩, hin5⟩ := SX.out W5 BW5.out
  obtain ⟨a2, c2, w6, run6, own6, b6⟩ := app_tags W5 a c L (by have := hin5.ti; rw [HM.out] at this; exact this) (HM.out ▸ HB.out)
  rw [← HM.out] at run6 own6
  have yl : y < W5.heap.size := cell_lt x1
  have OWN := Lib.hid own6
  have ZL := Lib.hid (show z < W5.heap.size from cell_lt d1)
  have b56 := b6.mono b5.size
  have e0 : w6.cell? ⟨z, 0, none⟩ = some (.string n) := (b6.cell (p := ⟨z, 0, none⟩) (cell_lt d0)).trans d0
  have e1 : w6.cell? ⟨z, 1, none⟩ = some (.slice a m c) := (b6.cell (p := ⟨z, 1, none⟩) (cell_lt d1)).trans d1
  have ez : ∀ k, w6.frozen? ⟨z, k, none⟩ = false := fun k => (b6.frozen (p := ⟨z, k, none⟩) (show z < _ from cell_lt d1)).trans (dz k)
  obtain ⟨ez0, ez1⟩ : w6.frozen? ⟨z, 0, none⟩ = false ∧ w6.frozen? ⟨z, 1, none⟩ = false := ⟨ez 0, ez 1⟩
  have B46 := Lib.hid (b5.trans b56)
  rw [← hW5, ← hz]
  have HZ := Lib.hid hz
  clear hW5 b5 d0 dz r0 r1 own6 b6 b56 hin5 ez hz
  go_upto_region 9 with (at_builtin; refine wpList_app rfl (.tmp 39) (.tmp 41) 28 rfl _ _ _ _ rfl rfl run6 ?_)
  obtain ⟨w7, hw7⟩ : ∃ w7, w7 = w6.setCell ⟨z, 1, none⟩ (.slice a2 m c2) := ⟨_, rfl⟩
  have zl : w4.heap.size ≤ z ∧ z < W5.heap.size := ⟨by rw [HZ.out]; exact Nat.le_refl _, ZL.out⟩
  have B47 := Lib.hid (show Below w4.heap.size w4 w7 from by rw [hw7]; exact B46.out.setCell (p := ⟨z, 1, none⟩) zl.1 _)
  have f0 : w7.cell? ⟨z, 0, none⟩ = some (.string n) := by rw [hw7]; exact (cell_other (by simp)).trans e0
  have f1 : w7.cell? ⟨z, 1, none⟩ = some (.slice a2 m c2) := by rw [hw7]; exact cell_same e1
  have O7 := Lib.hid (show Ti w7 (.slice a2 m c2) L ∧ St w7 a2 m ∧ ∀ k, (Value.slice a2 m c2).ownBlock = some k → z < k from by
    have lt : ∀ k, (Value.slice a2 m c2).ownBlock = some k → z < k := fun k hk => Nat.lt_of_lt_of_le zl.2 (own_lt OWN.out hk).1
    have T6 : Ti w6 (.slice a2 m c2) L := by rw [HM.out]; exact ti_own (HM.out ▸ OWN.out)
    have T7 : Ti w7 (.slice a2 m c2) L := by
      refine Ti.move T6 (by rw [hw7]; simp) (fun k hk _ => by rw [hw7]; exact heap_setCell_ne (by have := lt k hk; omega))
    refine ⟨T7, fun i hi => ?_, lt⟩
    rcases T7 with ⟨a', c', e, rfl⟩ | ⟨b, off, c', e, l1, l2, l3⟩
    · have := HM.out; simp at this; omega
    · cases e
      have fz := own_fz OWN.out (j := b) rfl
      obtain ⟨t1, t2⟩ := l3 i (by rw [← HM.out]; exact hi)
      exact ⟨b, off, rfl, l2, ⟨_, t2⟩, fun k => (World.frozen?_of_block (by rw [hw7]; exact heap_setCell_ne (show b ≠ z from by have := lt b rfl; omega))).trans (fz.2 k)⟩)
  have I7 := Lib.hid (show IX w7 w3.heap.size 0 x 0 (fun k => w3.heap.size ≤ k ∧ k < w4.heap.size) (fun _ => False) (fun _ _ => none) from I4.out.below B47.out)
  have BW7 := Lib.hid (B4.out.trans (B47.out.mono B4.out.size))
  have AD := Lib.hid (add_i w7 w3.heap.size 0 x 0 _ _ _ I7.out (Nat.le_trans B34.out.size B47.out.size) (n, L) (.slice a2 m c2) ⟨O7.out.1, (SX.out w7 BW7.out).2.n, (SX.out w7 BW7.out).2.t, (SX.out w7 BW7.out).2.l⟩ (by unfold maxLen; omega) (fun b off l c' e hl hU => by
    have := O7.out.2.2 b (by rw [e]; rfl)
    have := zl.1
    omega))
  obtain ⟨r1, hr1⟩ : ∃ r1, r1 = aok (fun _ => False) (n, L) := ⟨_, rfl⟩
  obtain ⟨r2, hr2⟩ : ∃ r2, r2 = aerr (n, L) := ⟨_, rfl⟩
  rw [← hr1, ← hr2] at AD
  have HR2 := Lib.hid hr2
  simp only at AD
  rw [← hw7]
  clear hw7 run6 e0 e1 ez0 ez1 x0 x1 yl hr1 hr2 zl
  go_upto_region 10 with (go_at_call 11; refine AD.out.mono ?_; clear AD; rintro e w8 ⟨rfl, i8, c8⟩; have I8 := Lib.hid i8; have C8 := Lib.hid c8; clear i8 c8)
  have ZF := Lib.hid (show ∀ k, z ≤ k → k < w7.heap.size → w8.heap[k]? = w7.heap[k]? from fun k h1 h2 => C8.out.block k h2 (fun hU => by have := HZ.out; omega))
  have ZL7 := Lib.hid (show z < w7.heap.size from cell_lt f1)
  have g1 : w8.cell? ⟨z, 1, none⟩ = some (.slice a2 m c2) := (World.cell?_of_block (ZF.out z (Nat.le_refl _) ZL7.out)).trans f1
  have S8 := Lib.hid (show St w8 a2 m ∧ ∀ k off, a2 = some ⟨k, off, none⟩ → z < k from by
    have lt : ∀ k off, a2 = some ⟨k, off, none⟩ → z < k := fun k off e => O7.out.2.2 k (by rw [e]; rfl)
    refine ⟨fun i hi => ?_, lt⟩
    obtain ⟨q, off, e, hb, ⟨v, hv⟩, hf⟩ := O7.out.2.1 i hi
    have eb := ZF.out q (Nat.le_of_lt (lt q off e)) hb
    exact ⟨q, off, e, Nat.lt_of_lt_of_le hb C8.out.size, ⟨v, (World.cell?_of_block eb).trans hv⟩, fun k => (World.frozen?_of_block eb).trans (hf k)⟩)
  have BW8 := Lib.hid (show Below W.heap.size W w8 from BW7.out.trans (C8.out.below (fun k hk _ => Nat.le_trans B3.out.size hk.1) BW7.out.size))
  have G1 := Lib.hid g1
  have WZ := Lib.hid (show W.heap.size ≤ z from by rw [HZ.out]; exact B4.out.size)
  clear f0 f1
  go_wp2_with fail
  go_loopw [16, 53] (fun _ i wr => ∃ j : Nat, j ≤ m ∧ i = .int .i64 (j : Nat) ∧ Hid (Chg w8 wr (fun k => z < k ∧ k < w7.heap.size)) ∧ Hid (St wr a2 m)) (fun _ i _ => m - (intOf i).toNat)
  case atStart => exact ⟨0, Nat.zero_le _, rfl, Lib.hid (Chg.refl _ _), Lib.hid S8.out.1⟩
  case round =>
    obtain ⟨j, hj, rfl, CJ, SJ⟩ := hrel
    have g2 : wr.cell? ⟨z, 1, none⟩ = some (.slice a2 m c2) := (World.cell?_of_block (CJ.out.block z (Nat.lt_of_lt_of_le ZL7.out C8.out.size) (fun h => Nat.lt_irrefl _ h.1))).trans G1.out
    have hj0 : (0 : Int) ≤ (j : Int) := by omega
    by_cases hjm : j < m
    case pos =>
      obtain ⟨b, off, rfl, hb, ⟨u, hu⟩, hf⟩ := SJ.out j hjm
      have hf1 := hf (off + j * 2 + 1)
      have ZB := Lib.hid (S8.out.2 b off rfl)
      have LB := Lib.hid (show b < w7.heap.size from by
        obtain ⟨q, o, e, hq, _⟩ := O7.out.2.1 j hjm
        cases e; exact hq)
      clear hf hb
      go_wp2_with fail
      go_roundw
      case rel => exact ⟨j + 1, by omega, by go_num, Lib.hid (CJ.out.setCell ⟨ZB.out, LB.out⟩ _), Lib.hid (SJ.out.set _ _)⟩
      case measure => simp [intOf]; omega
    obtain rfl : j = m := by omega
    clear hjm g2
    have IR := Lib.hid (I8.out.chg CJ.out (fun k hU h => by
      have := HZ.out
      rcases hU with hU | hU
      · omega
      · omega))
    have BR := Lib.hid (show Below W.heap.size W wr from BW8.out.trans (CJ.out.below (fun k hk _ => by have := WZ.out; omega) BW8.out.size))
    have hns : n.size ≤ maxLen := by have := HN.out; unfold maxLen; omega
    obtain ⟨⟨x0, x1⟩, -⟩ := SX.out wr BR.out
    have AL := Lib.hid (all_x wr _ _ x _ _ _ _ IR.out n hns (by omega))
    have U8 := Lib.hid (show ∀ k, (New (fun k => w3.heap.size ≤ k ∧ k < w4.heap.size) w7 w8) k → k < wr.heap.size from fun k hk => by
      have := CJ.out.size
      have := C8.out.size
      have := B47.out.size
      rcases hk with hk | hk
      · omega
      · omega)
    obtain ⟨lo, hlo⟩ : ∃ lo, lo = wr.heap.size := ⟨_, rfl⟩
    rw [← hlo] at AL U8
    have LO := Lib.hid (show W.heap.size ≤ lo from by rw [hlo]; exact BR.out.size)
    have HLO := Lib.hid hlo
    clear G1 g1 hlo
    go_upto_region 16 with (go_at_call 18; refine AL.out.mono ?_; clear AL; rintro e w11 ⟨ns, v11, rfl, t11, le11, f11, b11⟩; have T11 := Lib.hid t11; have F11 := Lib.hid f11; have BW11 := Lib.hid (BR.out.trans (b11.mono LO.out)); have I11 := Lib.hid (IR.out.below (HLO.out ▸ b11)); (obtain ⟨va, vc, rfl⟩ := f11.sl.forms); clear t11 f11 b11)
    obtain ⟨rs, hrs⟩ : ∃ rs, rs = rsOf ns := ⟨_, rfl⟩
    have hR9 : (rsOf ns).length ≤ 9223372036854775807 := by rw [rsOf_len]; omega
    rw [← hrs] at F11 hR9 ⊢
    have FM := Lib.hid (show ∀ i, i < rs.length → (rs.getD i s0).2.length ≤ 8 from fun i hi => by
      rw [hrs, rsOf_len] at hi
      obtain ⟨s, ⟨hs, _⟩, _, e⟩ := rsOf_get T11.out hi
      rw [hrs, e]
      rcases hs with h | ⟨rfl, h⟩
      · exact h.elim
      · exact (fm_size h).2.2.1)
    obtain ⟨R, hR⟩ : ∃ R, R = rs.length := ⟨_, rfl⟩
    have Y11 := Lib.hid (Tf.yr F11.out)
    rw [← hR] at hR9 ⊢
    have HR := Lib.hid hR
    clear hrs hR le11 x0 x1
    go_wp2_with fail
    go_loopw [18, 19, 68] (fun _ _ i wx => ∃ j2 : Nat, j2 ≤ R ∧ i = .int .i64 (j2 : Nat) ∧ Hid (Chg w11 wx (fun k => lo ≤ k)) ∧ Hid (Yr wx va rs lo)) (fun _ _ i _ => R - (intOf i).toNat)
    case atStart => exact ⟨0, Nat.zero_le _, rfl, Lib.hid (Chg.refl _ _), Y11⟩
    case round =>
      obtain ⟨j2, hj2, rfl, C2, Y2⟩ := hrel
      have hj20 : (0 : Int) ≤ (j2 : Int) := by omega
      by_cases hjR : j2 < R
      case pos =>
        obtain ⟨q, rfl, hlq, hq, ta, tc, k1, -, -⟩ := Y2.out j2 (HR.out ▸ hjR)
        obtain ⟨l, hl⟩ : ∃ l, l = (rs.getD j2 s0).2.length := ⟨_, rfl⟩
        have hl9 : l ≤ 9223372036854775807 := by have := FM.out j2 (HR.out ▸ hjR); omega
        rw [← hl] at k1
        have LQ := Lib.hid hlq
        have HL := Lib.hid hl
        have HJ := Lib.hid (show j2 < rs.length from HR.out ▸ hjR)
        clear hlq hl hq
        go_wp2_with fail
        go_loopw [19, 77] (fun _ i wz => ∃ p : Nat, p ≤ l ∧ i = .int .i64 (p : Nat) ∧ Hid (Chg w11 wz (fun k => lo ≤ k)) ∧ Hid (Yr wz (some ⟨q, 0, none⟩) rs lo)) (fun _ i _ => l - (intOf i).toNat)
        case atStart => exact ⟨0, Nat.zero_le _, rfl, C2, Y2⟩
        case round =>
          obtain ⟨p, hp, rfl, C3, Y3⟩ := hrel
          have hp0 : (0 : Int) ≤ (p : Int) := by omega
          by_cases hpl : p < l
          case neg =>
            obtain rfl : p = l := by omega
            clear hpl
            go_wp2_with fail
            go_roundw
            case rel => exact ⟨j2 + 1, by omega, by go_num, C3, Y3⟩
            case measure => simp [intOf]; omega
          obtain ⟨q', e, _, hq', ta', tc', y1, y2, y3⟩ := Y3.out j2 HJ.out
          cases e
          rw [← HL.out] at y1 y2
          obtain ⟨b, off, rfl, hb, ⟨u, hu⟩, hf⟩ := y2 p hpl
          have hf1 := hf (off + p * 2 + 1)
          have QB := Lib.hid (y3 b off rfl (by rw [← HL.out]; omega))
          clear y2 y3 hf hb
          go_wp2_with fail
          go_roundw
          case rel => exact ⟨p + 1, by omega, by go_num, Lib.hid (C3.out.setCell (Nat.le_trans LQ.out (Nat.le_of_lt QB.out)) _), Lib.hid (Y3.out.set b _ (fun q2 e => by cases e; exact QB.out) _)⟩
          case measure => simp [intOf]; omega
      obtain rfl : j2 = R := by omega
      clear hjR
      have IZ := Lib.hid (I11.out.chg C2.out (fun k hU h => absurd (U8.out k hU) (by omega)))
      have BZ := Lib.hid (show Below W.heap.size W wr from BW11.out.trans (C2.out.below (fun k hk _ => Nat.le_trans LO.out hk) BW11.out.size))
      obtain ⟨⟨x0, x1⟩, -⟩ := SX.out wr BZ.out
      have AL := Lib.hid (all_x wr _ _ x _ _ _ _ IZ.out n hns (by omega))
      have DN := Lib.hid (fun z b => drop_nil z (n, L) _ (SX.out z b).2)
      simp only at DN
      have NN := Lib.hid (fun z => names_nil z)
      have A2 := Lib.hid (fun z => all_nil z n)
      have K2 := Lib.hid (fun z => keys_nil z n)
      have V2 := Lib.hid (fun z => values_nil z n field HF.out)
      have W2 := Lib.hid (fun z => with_nil z n field)
      have S2 := Lib.hid (fun z => setkind_nil z n field kind)
      have F2 := Lib.hid (fun z => fields_nil z n)
      have G2 := Lib.hid (fun z => forget_nil z n)
      have hfm := HFM.out
      clear HFM
      have e2 : r2 = 1 := by rw [HR2.out]; simp [aerr, hfm]
      subst e2
      clear hfm hns
      have CE := Lib.hid (show ∀ w12 w', Below W.heap.size W w' → Below w12.heap.size w12 w' → w'.cell? ⟨y, 0, none⟩ = some (.string n) ∧ w'.cell? ⟨y, 1, none⟩ = some (.slice a j c) from fun w12 w' b _ => (SX.out w' b).1)
      go_upto_region 26 with (go_at_call 18; refine AL.out.mono ?_; clear AL; rintro e w12 ⟨ns2, v12, rfl, -, le12, f12, b12⟩; have B12 := Lib.hid (BZ.out.trans (b12.mono BZ.out.size)); (obtain ⟨za, zc, rfl⟩ := f12.sl.forms); clear f12 b12 x0 x1 le12)
      have BD := Lib.hid (show Below W.heap.size W w12.drew from ⟨B12.out.os, B12.out.tape, B12.out.output, B12.out.size, B12.out.block⟩)
      have CD := Lib.hid (show Below w12.heap.size w12 w12.drew from ⟨rfl, rfl, rfl, Nat.le_refl _, fun _ _ => rfl⟩)
      have k12 := CE.out w12 w12.drew BD.out CD.out
      clear SX HB HM HN HF BZ IZ I11 FM HR Y2 C2 T11 F11 BW11 Y11 LO HLO U8 IR BR CJ SJ S8 O7 OWN d1 BW8 ZF ZL7 WZ C8 I8 BW7 I7 B47 HZ B46 ZL BW5 I4 B34 B4 B3 B2 B1 HR2 hm9 hj hj0 hj2 hj20 hR9
      dsimp only [List.append]
      refine wp_region_held_drew (S := (fun u => u.cell? ⟨y, 0, none⟩ = some (.string n) ∧ u.cell? ⟨y, 1, none⟩ = some (.slice a j c))) (by kernel_rfl) k12 (fun hHeld => ?_)
      refine wpAnyH_take (i := 0) (oi := { dst := some 94, op := Op.move (Operand.tmp 9), type := 39, pos := "law.go:150", after := #[], guard := none }) (v := ?v0) rfl (by kernel_rfl) (by kernel_rfl) (by kernel_rfl) (fun _ _ _ h => h) (Or.inl ⟨by rfl, ?y0⟩) (by assumption) ?q0
      case y0 => (intro w hSw; (try dsimp only at hSw); go_simp; try with_reducible rfl)
      try simp only [Act.put, List.setIfInBounds_toArray, List.set_cons_zero, List.set_cons_succ]
      refine wpAnyH_take (i := 1) (oi := { dst := some 95, op := Op.binOp BinOp.eql 39 (Operand.tmp 94) (Operand.const (Value.int IntKind.i64 1)) 39, type := 4, pos := "law.go:150", after := #[{ on := 0, ground := Ground.data }], guard := none }) (v := ?v1) rfl (by kernel_rfl) (by kernel_rfl) (by kernel_rfl) (fun _ _ _ h => h) (Or.inl ⟨by rfl, ?y1⟩) (by assumption) ?q1
      case y1 => (intro w hSw; (try dsimp only at hSw); go_simp; try with_reducible rfl)
      try simp only [Act.put, List.setIfInBounds_toArray, List.set_cons_zero, List.set_cons_succ]
      refine wpAnyH_take (i := 2) (oi := { dst := some 96, op := Op.move (Operand.tmp 95), type := 4, pos := "law.go:150", after := #[{ on := 1, ground := Ground.data }], guard := none }) (v := ?v2) rfl (by kernel_rfl) (by kernel_rfl) (by kernel_rfl) (fun _ _ _ h => h) (Or.inl ⟨by rfl, ?y2⟩) (by assumption) ?q2
      case y2 => (intro w hSw; (try dsimp only at hSw); go_simp; try with_reducible rfl)
      try simp only [Act.put, List.setIfInBounds_toArray, List.set_cons_zero, List.set_cons_succ]
      refine wpAnyH_take (i := 3) (oi := { dst := some 97, op := Op.move (Operand.tmp 7), type := 24, pos := "law.go:150", after := #[{ on := 2, ground := Ground.guard }], guard := some (2, true) }) (v := ?v3) rfl (by kernel_rfl) (by kernel_rfl) (by kernel_rfl) (fun _ _ _ h => h) (Or.inl ⟨by rfl, ?y3⟩) (by assumption) ?q3
      case y3 => (intro w hSw; (try dsimp only at hSw); go_simp; try with_reducible rfl)
      try simp only [Act.put, List.setIfInBounds_toArray, List.set_cons_zero, List.set_cons_succ]
      refine wpAnyH_take (i := 4) (oi := { dst := some 98, op := Op.load 30 (Operand.tmp 3), type := 30, pos := "law.go:150", after := #[{ on := 2, ground := Ground.guard }], guard := some (2, true) }) (v := ?v4) rfl (by kernel_rfl) (by kernel_rfl) (by kernel_rfl) (fun _ _ _ h => h) (Or.inl ⟨by rfl, ?y4⟩) (by assumption) ?q4
      case y4 => (intro w hSw; (try dsimp only at hSw); go_simp; try with_reducible rfl)
      try simp only [Act.put, List.setIfInBounds_toArray, List.set_cons_zero, List.set_cons_succ]
      refine wpAnyH_ready (rs := [5]) (by kernel_rfl) (by simp) ?_
      refine AllReadyH.cons rfl (fun K hK => ?_) AllReadyH.nil
      go_simp
      go_wp2_with (go_at_call 13; refine (DN.out w12.drew BD.out).mono ?_; clear DN; rintro e w13 ⟨rfl, b13⟩; have B13 := Lib.hid (BD.out.trans (b13.mono BD.out.size)); have C13 := Lib.hid (CD.out.trans (b13.mono CD.out.size)); have k13 := (CE.out w12 w13 B13.out C13.out); clear b13 k12)
      refine hK.out _ _ ?s5 (fun hH5 => ?r5)
      case s5 => first | exact k13 | (dsimp only; exact k13)
      case r5 =>
        clear hK K hHeld
        as_aux_lemma =>
          refine wpAnyH_take (i := 6) (oi := { dst := some 100, op := Op.unOp UnOp.not 4 (Operand.tmp 99), type := 4, pos := "law.go:150", after := #[{ on := 5, ground := Ground.data }, { on := 2, ground := Ground.guard }], guard := some (2, true) }) (v := ?v6) rfl (by kernel_rfl) (by kernel_rfl) (by kernel_rfl) (fun _ _ _ h => h) (Or.inl ⟨by rfl, ?y6⟩) (by assumption) ?q6
          case y6 => (intro w hSw; (try dsimp only at hSw); go_simp; try with_reducible rfl)
          try simp only [Act.put, List.setIfInBounds_toArray, List.set_cons_zero, List.set_cons_succ]
          refine wpAnyH_take (i := 7) (oi := { dst := some 101, op := Op.pick (Operand.tmp 96) (Operand.tmp 100) (Operand.const (Value.bool false)), type := 4, pos := "law.go:150", after := #[{ on := 2, ground := Ground.data }, { on := 6, ground := Ground.data }], guard := none }) (v := ?v7) rfl (by kernel_rfl) (by kernel_rfl) (by kernel_rfl) (fun _ _ _ h => h) (Or.inl ⟨by rfl, ?y7⟩) (by assumption) ?q7
          case y7 => (intro w hSw; (try dsimp only at hSw); go_simp; try with_reducible rfl)
          try simp only [Act.put, List.setIfInBounds_toArray, List.set_cons_zero, List.set_cons_succ]
          refine wpAnyH_take (i := 8) (oi := { dst := some 102, op := Op.move (Operand.tmp 101), type := 4, pos := "law.go:150", after := #[{ on := 7, ground := Ground.data }, { on := 5, ground := Ground.chain }], guard := none }) (v := ?v8) rfl (by kernel_rfl) (by kernel_rfl) (by kernel_rfl) (fun _ _ _ h => h) (Or.inl ⟨by rfl, ?y8⟩) (by assumption) ?q8
          case y8 => (intro w hSw; (try dsimp only at hSw); go_simp; try with_reducible rfl)
          try simp only [Act.put, List.setIfInBounds_toArray, List.set_cons_zero, List.set_cons_succ]
          refine wpAnyH_take (i := 9) (oi := { dst := some 103, op := Op.move (Operand.tmp 7), type := 24, pos := "law.go:150", after := #[{ on := 8, ground := Ground.guard }], guard := some (8, true) }) (v := ?v9) rfl (by kernel_rfl) (by kernel_rfl) (by kernel_rfl) (fun _ _ _ h => h) (Or.inl ⟨by rfl, ?y9⟩) (by assumption) ?q9
          case y9 => (intro w hSw; (try dsimp only at hSw); go_simp; try with_reducible rfl)
          try simp only [Act.put, List.setIfInBounds_toArray, List.set_cons_zero, List.set_cons_succ]
          refine wpAnyH_ready (rs := [10]) (by kernel_rfl) (by simp) ?_
          refine AllReadyH.cons rfl (fun K hK => ?_) AllReadyH.nil
          go_simp
          go_wp2_with (go_at_call 15; refine (NN.out w13).mono ?_; clear NN; rintro e w13 ⟨rfl, rfl⟩)
          refine hK.out _ _ ?s10 (fun hH10 => ?r10)
          case s10 => first | exact k13 | (dsimp only; exact k13)
          case r10 =>
            clear hK K hH5
            as_aux_lemma =>
              refine wpAnyH_take (i := 11) (oi := { dst := some 105, op := Op.call { callee := Callee.builtin Builtin.len, args := #[Operand.tmp 104], argTypes := #[44] }, type := 3, pos := "law.go:150", after := #[{ on := 10, ground := Ground.data }, { on := 8, ground := Ground.guard }], guard := some (8, true) }) (v := ?v11) rfl (by kernel_rfl) (by kernel_rfl) (by kernel_rfl) (fun _ _ _ h => h) (Or.inl ⟨by rfl, ?y11⟩) (by assumption) ?q11
              case y11 => (intro w hSw; (try dsimp only at hSw); go_simp; try with_reducible rfl)
              try simp only [Act.put, List.setIfInBounds_toArray, List.set_cons_zero, List.set_cons_succ]
              refine wpAnyH_take (i := 12) (oi := { dst := some 106, op := Op.binOp BinOp.eql 3 (Operand.tmp 105) (Operand.const (Value.int IntKind.i64 0)) 3, type := 4, pos := "law.go:150", after := #[{ on := 11, ground := Ground.data }, { on := 8, ground := Ground.guard }], guard := some (8, true) }) (v := ?v12) rfl (by kernel_rfl) (by kernel_rfl) (by kernel_rfl) (fun _ _ _ h => h) (Or.inl ⟨by rfl, ?y12⟩) (by assumption) ?q12
              case y12 => (intro w hSw; (try dsimp only at hSw); go_simp; try with_reducible rfl)
              try simp only [Act.put, List.setIfInBounds_toArray, List.set_cons_zero, List.set_cons_succ]
              refine wpAnyH_take (i := 13) (oi := { dst := some 107, op := Op.pick (Operand.tmp 102) (Operand.tmp 106) (Operand.const (Value.bool false)), type := 4, pos := "law.go:150", after := #[{ on := 8, ground := Ground.data }, { on := 12, ground := Ground.data }], guard := none }) (v := ?v13) rfl (by kernel_rfl) (by kernel_rfl) (by kernel_rfl) (fun _ _ _ h => h) (Or.inl ⟨by rfl, ?y13⟩) (by assumption) ?q13
              case y13 => (intro w hSw; (try dsimp only at hSw); go_simp; try with_reducible rfl)
              try simp only [Act.put, List.setIfInBounds_toArray, List.set_cons_zero, List.set_cons_succ]
              refine wpAnyH_take (i := 14) (oi := { dst := some 108, op := Op.move (Operand.tmp 107), type := 4, pos := "law.go:150", after := #[{ on := 13, ground := Ground.data }, { on := 10, ground := Ground.chain }], guard := none }) (v := ?v14) rfl (by kernel_rfl) (by kernel_rfl) (by kernel_rfl) (fun _ _ _ h => h) (Or.inl ⟨by rfl, ?y14⟩) (by assumption) ?q14
              case y14 => (intro w hSw; (try dsimp only at hSw); go_simp; try with_reducible rfl)
              try simp only [Act.put, List.setIfInBounds_toArray, List.set_cons_zero, List.set_cons_succ]
              refine wpAnyH_take (i := 15) (oi := { dst := some 109, op := Op.move (Operand.tmp 7), type := 24, pos := "law.go:150", after := #[{ on := 14, ground := Ground.guard }], guard := some (14, true) }) (v := ?v15) rfl (by kernel_rfl) (by kernel_rfl) (by kernel_rfl) (fun _ _ _ h => h) (Or.inl ⟨by rfl, ?y15⟩) (by assumption) ?q15
              case y15 => (intro w hSw; (try dsimp only at hSw); go_simp; try with_reducible rfl)
              try simp only [Act.put, List.setIfInBounds_toArray, List.set_cons_zero, List.set_cons_succ]
              refine wpAnyH_take (i := 16) (oi := { dst := some 110, op := Op.fieldAddr 30 (Operand.tmp 3) 0, type := 0, pos := "law.go:150", after := #[{ on := 14, ground := Ground.guard }], guard := some (14, true) }) (v := ?v16) rfl (by kernel_rfl) (by kernel_rfl) (by kernel_rfl) (fun _ _ _ h => h) (Or.inl ⟨by rfl, ?y16⟩) (by assumption) ?q16
              case y16 => (intro w hSw; (try dsimp only at hSw); go_simp; try with_reducible rfl)
              try simp only [Act.put, List.setIfInBounds_toArray, List.set_cons_zero, List.set_cons_succ]
              refine wpAnyH_take (i := 17) (oi := { dst := some 111, op := Op.load 9 (Operand.tmp 110), type := 9, pos := "law.go:150", after := #[{ on := 16, ground := Ground.data }, { on := 14, ground := Ground.guard }], guard := some (14, true) }) (v := ?v17) rfl (by kernel_rfl) (by kernel_rfl) (by kernel_rfl) (fun _ _ _ h => h) (Or.inl ⟨by rfl, ?y17⟩) (by assumption) ?q17
              case y17 => (intro w hSw; (try dsimp only at hSw); go_simp; try with_reducible rfl)
              try simp only [Act.put, List.setIfInBounds_toArray, List.set_cons_zero, List.set_cons_succ]
              refine wpAnyH_ready (rs := [18]) (by kernel_rfl) (by simp) ?_
              refine AllReadyH.cons rfl (fun K hK => ?_) AllReadyH.nil
              go_simp
              go_wp2_with (go_at_call 18; refine (A2.out w13).mono ?_; clear A2; rintro e w14 ⟨a14, c14, rfl, b14⟩; have B14 := Lib.hid (B13.out.trans (b14.mono B13.out.size)); have C14 := Lib.hid (C13.out.trans (b14.mono C13.out.size)); have k14 := (CE.out w12 w14 B14.out C14.out); clear b14 k13)
              refine hK.out _ _ ?s18 (fun hH18 => ?r18)
              case s18 => first | exact k14 | (dsimp only; exact k14)
              case r18 =>
                clear hK K hH10
                as_aux_lemma =>
                  refine wpAnyH_take (i := 19) (oi := { dst := some 113, op := Op.call { callee := Callee.builtin Builtin.len, args := #[Operand.tmp 112], argTypes := #[38] }, type := 3, pos := "law.go:150", after := #[{ on := 18, ground := Ground.data }, { on := 14, ground := Ground.guard }], guard := some (14, true) }) (v := ?v19) rfl (by kernel_rfl) (by kernel_rfl) (by kernel_rfl) (fun _ _ _ h => h) (Or.inl ⟨by rfl, ?y19⟩) (by assumption) ?q19
                  case y19 => (intro w hSw; (try dsimp only at hSw); go_simp; try with_reducible rfl)
                  try simp only [Act.put, List.setIfInBounds_toArray, List.set_cons_zero, List.set_cons_succ]
                  refine wpAnyH_take (i := 20) (oi := { dst := some 114, op := Op.binOp BinOp.eql 3 (Operand.tmp 113) (Operand.const (Value.int IntKind.i64 0)) 3, type := 4, pos := "law.go:150", after := #[{ on := 19, ground := Ground.data }, { on := 14, ground := Ground.guard }], guard := some (14, true) }) (v := ?v20) rfl (by kernel_rfl) (by kernel_rfl) (by kernel_rfl) (fun _ _ _ h => h) (Or.inl ⟨by rfl, ?y20⟩) (by assumption) ?q20
                  case y20 => (intro w hSw; (try dsimp only at hSw); go_simp; try with_reducible rfl)
                  try simp only [Act.put, List.setIfInBounds_toArray, List.set_cons_zero, List.set_cons_succ]
                  refine wpAnyH_take (i := 21) (oi := { dst := some 115, op := Op.pick (Operand.tmp 108) (Operand.tmp 114) (Operand.const (Value.bool false)), type := 4, pos := "law.go:150", after := #[{ on := 14, ground := Ground.data }, { on := 20, ground := Ground.data }], guard := none }) (v := ?v21) rfl (by kernel_rfl) (by kernel_rfl) (by kernel_rfl) (fun _ _ _ h => h) (Or.inl ⟨by rfl, ?y21⟩) (by assumption) ?q21
                  case y21 => (intro w hSw; (try dsimp only at hSw); go_simp; try with_reducible rfl)
                  try simp only [Act.put, List.setIfInBounds_toArray, List.set_cons_zero, List.set_cons_succ]
                  refine wpAnyH_take (i := 22) (oi := { dst := some 116, op := Op.move (Operand.tmp 115), type := 4, pos := "law.go:150", after := #[{ on := 21, ground := Ground.data }, { on := 18, ground := Ground.chain }], guard := none }) (v := ?v22) rfl (by kernel_rfl) (by kernel_rfl) (by kernel_rfl) (fun _ _ _ h => h) (Or.inl ⟨by rfl, ?y22⟩) (by assumption) ?q22
                  case y22 => (intro w hSw; (try dsimp only at hSw); go_simp; try with_reducible rfl)
                  try simp only [Act.put, List.setIfInBounds_toArray, List.set_cons_zero, List.set_cons_succ]
                  refine wpAnyH_take (i := 23) (oi := { dst := some 117, op := Op.move (Operand.tmp 7), type := 24, pos := "law.go:150", after := #[{ on := 22, ground := Ground.guard }], guard := some (22, true) }) (v := ?v23) rfl (by kernel_rfl) (by kernel_rfl) (by kernel_rfl) (fun _ _ _ h => h) (Or.inl ⟨by rfl, ?y23⟩) (by assumption) ?q23
                  case y23 => (intro w hSw; (try dsimp only at hSw); go_simp; try with_reducible rfl)
                  try simp only [Act.put, List.setIfInBounds_toArray, List.set_cons_zero, List.set_cons_succ]
                  refine wpAnyH_take (i := 24) (oi := { dst := some 118, op := Op.fieldAddr 30 (Operand.tmp 3) 0, type := 0, pos := "law.go:150", after := #[{ on := 22, ground := Ground.guard }], guard := some (22, true) }) (v := ?v24) rfl (by kernel_rfl) (by kernel_rfl) (by kernel_rfl) (fun _ _ _ h => h) (Or.inl ⟨by rfl, ?y24⟩) (by assumption) ?q24
                  case y24 => (intro w hSw; (try dsimp only at hSw); go_simp; try with_reducible rfl)
                  try simp only [Act.put, List.setIfInBounds_toArray, List.set_cons_zero, List.set_cons_succ]
                  refine wpAnyH_take (i := 25) (oi := { dst := some 119, op := Op.load 9 (Operand.tmp 118), type := 9, pos := "law.go:150", after := #[{ on := 24, ground := Ground.data }, { on := 22, ground := Ground.guard }], guard := some (22, true) }) (v := ?v25) rfl (by kernel_rfl) (by kernel_rfl) (by kernel_rfl) (fun _ _ _ h => h) (Or.inl ⟨by rfl, ?y25⟩) (by assumption) ?q25
                  case y25 => (intro w hSw; (try dsimp only at hSw); go_simp; try with_reducible rfl)
                  try simp only [Act.put, List.setIfInBounds_toArray, List.set_cons_zero, List.set_cons_succ]
                  refine wpAnyH_ready (rs := [26]) (by kernel_rfl) (by simp) ?_
                  refine AllReadyH.cons rfl (fun K hK => ?_) AllReadyH.nil
                  go_simp
                  go_wp2_with (go_at_call 19; refine (K2.out w14).mono ?_; clear K2; rintro e w15 ⟨a15, c15, rfl, b15⟩; have B15 := Lib.hid (B14.out.trans (b15.mono B14.out.size)); have C15 := Lib.hid (C14.out.trans (b15.mono C14.out.size)); have k15 := (CE.out w12 w15 B15.out C15.out); clear b15 k14)
                  refine hK.out _ _ ?s26 (fun hH26 => ?r26)
                  case s26 => first | exact k15 | (dsimp only; exact k15)
                  case r26 =>
                    clear hK K hH18
                    as_aux_lemma =>
                      refine wpAnyH_take (i := 27) (oi := { dst := some 121, op := Op.call { callee := Callee.builtin Builtin.len, args := #[Operand.tmp 120], argTypes := #[44] }, type := 3, pos := "law.go:150", after := #[{ on := 26, ground := Ground.data }, { on := 22, ground := Ground.guard }], guard := some (22, true) }) (v := ?v27) rfl (by kernel_rfl) (by kernel_rfl) (by kernel_rfl) (fun _ _ _ h => h) (Or.inl ⟨by rfl, ?y27⟩) (by assumption) ?q27
                      case y27 => (intro w hSw; (try dsimp only at hSw); go_simp; try with_reducible rfl)
                      try simp only [Act.put, List.setIfInBounds_toArray, List.set_cons_zero, List.set_cons_succ]
                      refine wpAnyH_take (i := 28) (oi := { dst := some 122, op := Op.binOp BinOp.eql 3 (Operand.tmp 121) (Operand.const (Value.int IntKind.i64 0)) 3, type := 4, pos := "law.go:150", after := #[{ on := 27, ground := Ground.data }, { on := 22, ground := Ground.guard }], guard := some (22, true) }) (v := ?v28) rfl (by kernel_rfl) (by kernel_rfl) (by kernel_rfl) (fun _ _ _ h => h) (Or.inl ⟨by rfl, ?y28⟩) (by assumption) ?q28
                      case y28 => (intro w hSw; (try dsimp only at hSw); go_simp; try with_reducible rfl)
                      try simp only [Act.put, List.setIfInBounds_toArray, List.set_cons_zero, List.set_cons_succ]
                      refine wpAnyH_take (i := 29) (oi := { dst := some 123, op := Op.pick (Operand.tmp 116) (Operand.tmp 122) (Operand.const (Value.bool false)), type := 4, pos := "law.go:150", after := #[{ on := 22, ground := Ground.data }, { on := 28, ground := Ground.data }], guard := none }) (v := ?v29) rfl (by kernel_rfl) (by kernel_rfl) (by kernel_rfl) (fun _ _ _ h => h) (Or.inl ⟨by rfl, ?y29⟩) (by assumption) ?q29
                      case y29 => (intro w hSw; (try dsimp only at hSw); go_simp; try with_reducible rfl)
                      try simp only [Act.put, List.setIfInBounds_toArray, List.set_cons_zero, List.set_cons_succ]
                      refine wpAnyH_take (i := 30) (oi := { dst := some 124, op := Op.move (Operand.tmp 123), type := 4, pos := "law.go:150", after := #[{ on := 29, ground := Ground.data }, { on := 26, ground := Ground.chain }], guard := none }) (v := ?v30) rfl (by kernel_rfl) (by kernel_rfl) (by kernel_rfl) (fun _ _ _ h => h) (Or.inl ⟨by rfl, ?y30⟩) (by assumption) ?q30
                      case y30 => (intro w hSw; (try dsimp only at hSw); go_simp; try with_reducible rfl)
                      try simp only [Act.put, List.setIfInBounds_toArray, List.set_cons_zero, List.set_cons_succ]
                      refine wpAnyH_take (i := 31) (oi := { dst := some 125, op := Op.move (Operand.tmp 7), type := 24, pos := "law.go:150", after := #[{ on := 30, ground := Ground.guard }], guard := some (30, true) }) (v := ?v31) rfl (by kernel_rfl) (by kernel_rfl) (by kernel_rfl) (fun _ _ _ h => h) (Or.inl ⟨by rfl, ?y31⟩) (by assumption) ?q31
                      case y31 => (intro w hSw; (try dsimp only at hSw); go_simp; try with_reducible rfl)
                      try simp only [Act.put, List.setIfInBounds_toArray, List.set_cons_zero, List.set_cons_succ]
                      refine wpAnyH_take (i := 32) (oi := { dst := some 126, op := Op.fieldAddr 30 (Operand.tmp 3) 0, type := 0, pos := "law.go:150", after := #[{ on := 30, ground := Ground.guard }], guard := some (30, true) }) (v := ?v32) rfl (by kernel_rfl) (by kernel_rfl) (by kernel_rfl) (fun _ _ _ h => h) (Or.inl ⟨by rfl, ?y32⟩) (by assumption) ?q32
                      case y32 => (intro w hSw; (try dsimp only at hSw); go_simp; try with_reducible rfl)
                      try simp only [Act.put, List.setIfInBounds_toArray, List.set_cons_zero, List.set_cons_succ]
                      refine wpAnyH_take (i := 33) (oi := { dst := some 127, op := Op.load 9 (Operand.tmp 126), type := 9, pos := "law.go:150", after := #[{ on := 32, ground := Ground.data }, { on := 30, ground := Ground.guard }], guard := some (30, true) }) (v := ?v33) rfl (by kernel_rfl) (by kernel_rfl) (by kernel_rfl) (fun _ _ _ h => h) (Or.inl ⟨by rfl, ?y33⟩) (by assumption) ?q33
                      case y33 => (intro w hSw; (try dsimp only at hSw); go_simp; try with_reducible rfl)
                      try simp only [Act.put, List.setIfInBounds_toArray, List.set_cons_zero, List.set_cons_succ]
                      refine wpAnyH_take (i := 34) (oi := { dst := some 128, op := Op.move (Operand.tmp 1), type := 9, pos := "law.go:150", after := #[{ on := 30, ground := Ground.guard }], guard := some (30, true) }) (v := ?v34) rfl (by kernel_rfl) (by kernel_rfl) (by kernel_rfl) (fun _ _ _ h => h) (Or.inl ⟨by rfl, ?y34⟩) (by assumption) ?q34
                      case y34 => (intro w hSw; (try dsimp only at hSw); go_simp; try with_reducible rfl)
                      try simp only [Act.put, List.setIfInBounds_toArray, List.set_cons_zero, List.set_cons_succ]
                      refine wpAnyH_ready (rs := [35]) (by kernel_rfl) (by simp) ?_
                      refine AllReadyH.cons rfl (fun K hK => ?_) AllReadyH.nil
                      go_simp
                      go_wp2_with (go_at_call 20; refine (V2.out w15).mono ?_; clear V2; rintro e w16 ⟨rfl, b16⟩; have B16 := Lib.hid (B15.out.trans (b16.mono B15.out.size)); have C16 := Lib.hid (C15.out.trans (b16.mono C15.out.size)); have k16 := (CE.out w12 w16 B16.out C16.out); clear b16 k15)
                      refine hK.out _ _ ?s35 (fun hH35 => ?r35)
                      case s35 => first | exact k16 | (dsimp only; exact k16)
                      case r35 =>
                        clear hK K hH26
                        as_aux_lemma =>
                          refine wpAnyH_take (i := 36) (oi := { dst := some 130, op := Op.call { callee := Callee.builtin Builtin.len, args := #[Operand.tmp 129], argTypes := #[44] }, type := 3, pos := "law.go:150", after := #[{ on := 35, ground := Ground.data }, { on := 30, ground := Ground.guard }], guard := some (30, true) }) (v := ?v36) rfl (by kernel_rfl) (by kernel_rfl) (by kernel_rfl) (fun _ _ _ h => h) (Or.inl ⟨by rfl, ?y36⟩) (by assumption) ?q36
                          case y36 => (intro w hSw; (try dsimp only at hSw); go_simp; try with_reducible rfl)
                          try simp only [Act.put, List.setIfInBounds_toArray, List.set_cons_zero, List.set_cons_succ]
                          refine wpAnyH_take (i := 37) (oi := { dst := some 131, op := Op.binOp BinOp.eql 3 (Operand.tmp 130) (Operand.const (Value.int IntKind.i64 0)) 3, type := 4, pos := "law.go:150", after := #[{ on := 36, ground := Ground.data }, { on := 30, ground := Ground.guard }], guard := some (30, true) }) (v := ?v37) rfl (by kernel_rfl) (by kernel_rfl) (by kernel_rfl) (fun _ _ _ h => h) (Or.inl ⟨by rfl, ?y37⟩) (by assumption) ?q37
                          case y37 => (intro w hSw; (try dsimp only at hSw); go_simp; try with_reducible rfl)
                          try simp only [Act.put, List.setIfInBounds_toArray, List.set_cons_zero, List.set_cons_succ]
                          refine wpAnyH_take (i := 38) (oi := { dst := some 132, op := Op.pick (Operand.tmp 124) (Operand.tmp 131) (Operand.const (Value.bool false)), type := 4, pos := "law.go:150", after := #[{ on := 30, ground := Ground.data }, { on := 37, ground := Ground.data }], guard := none }) (v := ?v38) rfl (by kernel_rfl) (by kernel_rfl) (by kernel_rfl) (fun _ _ _ h => h) (Or.inl ⟨by rfl, ?y38⟩) (by assumption) ?q38
                          case y38 => (intro w hSw; (try dsimp only at hSw); go_simp; try with_reducible rfl)
                          try simp only [Act.put, List.setIfInBounds_toArray, List.set_cons_zero, List.set_cons_succ]
                          refine wpAnyH_take (i := 39) (oi := { dst := some 133, op := Op.move (Operand.tmp 132), type := 4, pos := "law.go:150", after := #[{ on := 38, ground := Ground.data }, { on := 35, ground := Ground.chain }], guard := none }) (v := ?v39) rfl (by kernel_rfl) (by kernel_rfl) (by kernel_rfl) (fun _ _ _ h => h) (Or.inl ⟨by rfl, ?y39⟩) (by assumption) ?q39
                          case y39 => (intro w hSw; (try dsimp only at hSw); go_simp; try with_reducible rfl)
                          try simp only [Act.put, List.setIfInBounds_toArray, List.set_cons_zero, List.set_cons_succ]
                          refine wpAnyH_take (i := 40) (oi := { dst := some 134, op := Op.move (Operand.tmp 7), type := 24, pos := "law.go:150", after := #[{ on := 39, ground := Ground.guard }], guard := some (39, true) }) (v := ?v40) rfl (by kernel_rfl) (by kernel_rfl) (by kernel_rfl) (fun _ _ _ h => h) (Or.inl ⟨by rfl, ?y40⟩) (by assumption) ?q40
                          case y40 => (intro w hSw; (try dsimp only at hSw); go_simp; try with_reducible rfl)
                          try simp only [Act.put, List.setIfInBounds_toArray, List.set_cons_zero, List.set_cons_succ]
                          refine wpAnyH_take (i := 41) (oi := { dst := some 135, op := Op.fieldAddr 30 (Operand.tmp 3) 0, type := 0, pos := "law.go:150", after := #[{ on := 39, ground := Ground.guard }], guard := some (39, true) }) (v := ?v41) rfl (by kernel_rfl) (by kernel_rfl) (by kernel_rfl) (fun _ _ _ h => h) (Or.inl ⟨by rfl, ?y41⟩) (by assumption) ?q41
                          case y41 => (intro w hSw; (try dsimp only at hSw); go_simp; try with_reducible rfl)
                          try simp only [Act.put, List.setIfInBounds_toArray, List.set_cons_zero, List.set_cons_succ]
                          refine wpAnyH_take (i := 42) (oi := { dst := some 136, op := Op.load 9 (Operand.tmp 135), type := 9, pos := "law.go:150", after := #[{ on := 41, ground := Ground.data }, { on := 39, ground := Ground.guard }], guard := some (39, true) }) (v := ?v42) rfl (by kernel_rfl) (by kernel_rfl) (by kernel_rfl) (fun _ _ _ h => h) (Or.inl ⟨by rfl, ?y42⟩) (by assumption) ?q42
                          case y42 => (intro w hSw; (try dsimp only at hSw); go_simp; try with_reducible rfl)
                          try simp only [Act.put, List.setIfInBounds_toArray, List.set_cons_zero, List.set_cons_succ]
                          refine wpAnyH_take (i := 43) (oi := { dst := some 137, op := Op.move (Operand.tmp 1), type := 9, pos := "law.go:150", after := #[{ on := 39, ground := Ground.guard }], guard := some (39, true) }) (v := ?v43) rfl (by kernel_rfl) (by kernel_rfl) (by kernel_rfl) (fun _ _ _ h => h) (Or.inl ⟨by rfl, ?y43⟩) (by assumption) ?q43
                          case y43 => (intro w hSw; (try dsimp only at hSw); go_simp; try with_reducible rfl)
                          try simp only [Act.put, List.setIfInBounds_toArray, List.set_cons_zero, List.set_cons_succ]
                          refine wpAnyH_ready (rs := [44]) (by kernel_rfl) (by simp) ?_
                          refine AllReadyH.cons rfl (fun K hK => ?_) AllReadyH.nil
                          go_simp
                          go_wp2_with (go_at_call 21; refine (W2.out w16).mono ?_; clear W2; rintro e w17 ⟨a17, c17, rfl, b17⟩; have B17 := Lib.hid (B16.out.trans (b17.mono B16.out.size)); have C17 := Lib.hid (C16.out.trans (b17.mono C16.out.size)); have k17 := (CE.out w12 w17 B17.out C17.out); clear b17 k16)
                          refine hK.out _ _ ?s44 (fun hH44 => ?r44)
                          case s44 => first | exact k17 | (dsimp only; exact k17)
                          case r44 =>
                            clear hK K hH35
                            as_aux_lemma =>
                              refine wpAnyH_take (i := 45) (oi := { dst := some 139, op := Op.call { callee := Callee.builtin Builtin.len, args := #[Operand.tmp 138], argTypes := #[38] }, type := 3, pos := "law.go:150", after := #[{ on := 44, ground := Ground.data }, { on := 39, ground := Ground.guard }], guard := some (39, true) }) (v := ?v45) rfl (by kernel_rfl) (by kernel_rfl) (by kernel_rfl) (fun _ _ _ h => h) (Or.inl ⟨by rfl, ?y45⟩) (by assumption) ?q45
                              case y45 => (intro w hSw; (try dsimp only at hSw); go_simp; try with_reducible rfl)
                              try simp only [Act.put, List.setIfInBounds_toArray, List.set_cons_zero, List.set_cons_succ]
                              refine wpAnyH_take (i := 46) (oi := { dst := some 140, op := Op.binOp BinOp.eql 3 (Operand.tmp 139) (Operand.const (Value.int IntKind.i64 0)) 3, type := 4, pos := "law.go:150", after := #[{ on := 45, ground := Ground.data }, { on := 39, ground := Ground.guard }], guard := some (39, true) }) (v := ?v46) rfl (by kernel_rfl) (by kernel_rfl) (by kernel_rfl) (fun _ _ _ h => h) (Or.inl ⟨by rfl, ?y46⟩) (by assumption) ?q46
                              case y46 => (intro w hSw; (try dsimp only at hSw); go_simp; try with_reducible rfl)
                              try simp only [Act.put, List.setIfInBounds_toArray, List.set_cons_zero, List.set_cons_succ]
                              refine wpAnyH_take (i := 47) (oi := { dst := some 141, op := Op.pick (Operand.tmp 133) (Operand.tmp 140) (Operand.const (Value.bool false)), type := 4, pos := "law.go:150", after := #[{ on := 39, ground := Ground.data }, { on := 46, ground := Ground.data }], guard := none }) (v := ?v47) rfl (by kernel_rfl) (by kernel_rfl) (by kernel_rfl) (fun _ _ _ h => h) (Or.inl ⟨by rfl, ?y47⟩) (by assumption) ?q47
                              case y47 => (intro w hSw; (try dsimp only at hSw); go_simp; try with_reducible rfl)
                              try simp only [Act.put, List.setIfInBounds_toArray, List.set_cons_zero, List.set_cons_succ]
                              refine wpAnyH_take (i := 48) (oi := { dst := some 142, op := Op.move (Operand.tmp 141), type := 4, pos := "law.go:150", after := #[{ on := 47, ground := Ground.data }, { on := 44, ground := Ground.chain }], guard := none }) (v := ?v48) rfl (by kernel_rfl) (by kernel_rfl) (by kernel_rfl) (fun _ _ _ h => h) (Or.inl ⟨by rfl, ?y48⟩) (by assumption) ?q48
                              case y48 => (intro w hSw; (try dsimp only at hSw); go_simp; try with_reducible rfl)
                              try simp only [Act.put, List.setIfInBounds_toArray, List.set_cons_zero, List.set_cons_succ]
                              refine wpAnyH_take (i := 49) (oi := { dst := some 143, op := Op.move (Operand.tmp 7), type := 24, pos := "law.go:150", after := #[{ on := 48, ground := Ground.guard }], guard := some (48, true) }) (v := ?v49) rfl (by kernel_rfl) (by kernel_rfl) (by kernel_rfl) (fun _ _ _ h => h) (Or.inl ⟨by rfl, ?y49⟩) (by assumption) ?q49
                              case y49 => (intro w hSw; (try dsimp only at hSw); go_simp; try with_reducible rfl)
                              try simp only [Act.put, List.setIfInBounds_toArray, List.set_cons_zero, List.set_cons_succ]
                              refine wpAnyH_take (i := 50) (oi := { dst := some 144, op := Op.fieldAddr 30 (Operand.tmp 3) 0, type := 0, pos := "law.go:150", after := #[{ on := 48, ground := Ground.guard }], guard := some (48, true) }) (v := ?v50) rfl (by kernel_rfl) (by kernel_rfl) (by kernel_rfl) (fun _ _ _ h => h) (Or.inl ⟨by rfl, ?y50⟩) (by assumption) ?q50
                              case y50 => (intro w hSw; (try dsimp only at hSw); go_simp; try with_reducible rfl)
                              try simp only [Act.put, List.setIfInBounds_toArray, List.set_cons_zero, List.set_cons_succ]
                              refine wpAnyH_take (i := 51) (oi := { dst := some 145, op := Op.load 9 (Operand.tmp 144), type := 9, pos := "law.go:150", after := #[{ on := 50, ground := Ground.data }, { on := 48, ground := Ground.guard }], guard := some (48, true) }) (v := ?v51) rfl (by kernel_rfl) (by kernel_rfl) (by kernel_rfl) (fun _ _ _ h => h) (Or.inl ⟨by rfl, ?y51⟩) (by assumption) ?q51
                              case y51 => (intro w hSw; (try dsimp only at hSw); go_simp; try with_reducible rfl)
                              try simp only [Act.put, List.setIfInBounds_toArray, List.set_cons_zero, List.set_cons_succ]
                              refine wpAnyH_take (i := 52) (oi := { dst := some 146, op := Op.move (Operand.tmp 1), type := 9, pos := "law.go:150", after := #[{ on := 48, ground := Ground.guard }], guard := some (48, true) }) (v := ?v52) rfl (by kernel_rfl) (by kernel_rfl) (by kernel_rfl) (fun _ _ _ h => h) (Or.inl ⟨by rfl, ?y52⟩) (by assumption) ?q52
                              case y52 => (intro w hSw; (try dsimp only at hSw); go_simp; try with_reducible rfl)
                              try simp only [Act.put, List.setIfInBounds_toArray, List.set_cons_zero, List.set_cons_succ]
                              refine wpAnyH_take (i := 53) (oi := { dst := some 147, op := Op.move (Operand.tmp 2), type := 3, pos := "law.go:150", after := #[{ on := 48, ground := Ground.guard }], guard := some (48, true) }) (v := ?v53) rfl (by kernel_rfl) (by kernel_rfl) (by kernel_rfl) (fun _ _ _ h => h) (Or.inl ⟨by rfl, ?y53⟩) (by assumption) ?q53
                              case y53 => (intro w hSw; (try dsimp only at hSw); go_simp; try with_reducible rfl)
                              try simp only [Act.put, List.setIfInBounds_toArray, List.set_cons_zero, List.set_cons_succ]
                              refine wpAnyH_ready (rs := [54]) (by kernel_rfl) (by simp) ?_
                              refine AllReadyH.cons rfl (fun K hK => ?_) AllReadyH.nil
                              go_simp
                              go_wp2_with (go_at_call 22; refine (S2.out w17).mono ?_; clear S2; rintro e w17 ⟨rfl, rfl⟩)
                              refine hK.out _ _ ?s54 (fun hH54 => ?r54)
                              case s54 => first | exact k17 | (dsimp only; exact k17)
                              case r54 =>
                                clear hK K hH44
                                as_aux_lemma =>
                                  refine wpAnyH_take (i := 55) (oi := { dst := some 149, op := Op.binOp BinOp.eql 39 (Operand.tmp 148) (Operand.const (Value.int IntKind.i64 1)) 39, type := 4, pos := "law.go:150", after := #[{ on := 54, ground := Ground.data }, { on := 48, ground := Ground.guard }], guard := some (48, true) }) (v := ?v55) rfl (by kernel_rfl) (by kernel_rfl) (by kernel_rfl) (fun _ _ _ h => h) (Or.inl ⟨by rfl, ?y55⟩) (by assumption) ?q55
                                  case y55 => (intro w hSw; (try dsimp only at hSw); go_simp; try with_reducible rfl)
                                  try simp only [Act.put, List.setIfInBounds_toArray, List.set_cons_zero, List.set_cons_succ]
                                  refine wpAnyH_take (i := 56) (oi := { dst := some 150, op := Op.pick (Operand.tmp 142) (Operand.tmp 149) (Operand.const (Value.bool false)), type := 4, pos := "law.go:150", after := #[{ on := 48, ground := Ground.data }, { on := 55, ground := Ground.data }], guard := none }) (v := ?v56) rfl (by kernel_rfl) (by kernel_rfl) (by kernel_rfl) (fun _ _ _ h => h) (Or.inl ⟨by rfl, ?y56⟩) (by assumption) ?q56
                                  case y56 => (intro w hSw; (try dsimp only at hSw); go_simp; try with_reducible rfl)
                                  try simp only [Act.put, List.setIfInBounds_toArray, List.set_cons_zero, List.set_cons_succ]
                                  refine wpAnyH_take (i := 57) (oi := { dst := some 151, op := Op.move (Operand.tmp 150), type := 4, pos := "law.go:150", after := #[{ on := 56, ground := Ground.data }, { on := 54, ground := Ground.chain }], guard := none }) (v := ?v57) rfl (by kernel_rfl) (by kernel_rfl) (by kernel_rfl) (fun _ _ _ h => h) (Or.inl ⟨by rfl, ?y57⟩) (by assumption) ?q57
                                  case y57 => (intro w hSw; (try dsimp only at hSw); go_simp; try with_reducible rfl)
                                  try simp only [Act.put, List.setIfInBounds_toArray, List.set_cons_zero, List.set_cons_succ]
                                  refine wpAnyH_take (i := 58) (oi := { dst := some 152, op := Op.move (Operand.tmp 11), type := 4, pos := "law.go:150", after := #[{ on := 57, ground := Ground.guard }], guard := some (57, true) }) (v := ?v58) rfl (by kernel_rfl) (by kernel_rfl) (by kernel_rfl) (fun _ _ _ h => h) (Or.inl ⟨by rfl, ?y58⟩) (by assumption) ?q58
                                  case y58 => (intro w hSw; (try dsimp only at hSw); go_simp; try with_reducible rfl)
                                  try simp only [Act.put, List.setIfInBounds_toArray, List.set_cons_zero, List.set_cons_succ]
                                  refine wpAnyH_take (i := 59) (oi := { dst := some 153, op := Op.unOp UnOp.not 4 (Operand.tmp 152), type := 4, pos := "law.go:150", after := #[{ on := 58, ground := Ground.data }, { on := 57, ground := Ground.guard }], guard := some (57, true) }) (v := ?v59) rfl (by kernel_rfl) (by kernel_rfl) (by kernel_rfl) (fun _ _ _ h => h) (Or.inl ⟨by rfl, ?y59⟩) (by assumption) ?q59
                                  case y59 => (intro w hSw; (try dsimp only at hSw); go_simp; try with_reducible rfl)
                                  try simp only [Act.put, List.setIfInBounds_toArray, List.set_cons_zero, List.set_cons_succ]
                                  refine wpAnyH_take (i := 60) (oi := { dst := some 154, op := Op.pick (Operand.tmp 151) (Operand.tmp 153) (Operand.const (Value.bool false)), type := 4, pos := "law.go:150", after := #[{ on := 57, ground := Ground.data }, { on := 59, ground := Ground.data }], guard := none }) (v := ?v60) rfl (by kernel_rfl) (by kernel_rfl) (by kernel_rfl) (fun _ _ _ h => h) (Or.inl ⟨by rfl, ?y60⟩) (by assumption) ?q60
                                  case y60 => (intro w hSw; (try dsimp only at hSw); go_simp; try with_reducible rfl)
                                  try simp only [Act.put, List.setIfInBounds_toArray, List.set_cons_zero, List.set_cons_succ]
                                  refine wpAnyH_take (i := 61) (oi := { dst := some 155, op := Op.move (Operand.tmp 154), type := 4, pos := "law.go:150", after := #[{ on := 60, ground := Ground.data }, { on := 57, ground := Ground.chain }], guard := none }) (v := ?v61) rfl (by kernel_rfl) (by kernel_rfl) (by kernel_rfl) (fun _ _ _ h => h) (Or.inl ⟨by rfl, ?y61⟩) (by assumption) ?q61
                                  case y61 => (intro w hSw; (try dsimp only at hSw); go_simp; try with_reducible rfl)
                                  try simp only [Act.put, List.setIfInBounds_toArray, List.set_cons_zero, List.set_cons_succ]
                                  refine wpAnyH_take (i := 62) (oi := { dst := some 156, op := Op.move (Operand.tmp 7), type := 24, pos := "law.go:150", after := #[{ on := 61, ground := Ground.guard }], guard := some (61, true) }) (v := ?v62) rfl (by kernel_rfl) (by kernel_rfl) (by kernel_rfl) (fun _ _ _ h => h) (Or.inl ⟨by rfl, ?y62⟩) (by assumption) ?q62
                                  case y62 => (intro w hSw; (try dsimp only at hSw); go_simp; try with_reducible rfl)
                                  try simp only [Act.put, List.setIfInBounds_toArray, List.set_cons_zero, List.set_cons_succ]
                                  refine wpAnyH_take (i := 63) (oi := { dst := some 157, op := Op.fieldAddr 30 (Operand.tmp 3) 0, type := 0, pos := "law.go:150", after := #[{ on := 61, ground := Ground.guard }], guard := some (61, true) }) (v := ?v63) rfl (by kernel_rfl) (by kernel_rfl) (by kernel_rfl) (fun _ _ _ h => h) (Or.inl ⟨by rfl, ?y63⟩) (by assumption) ?q63
                                  case y63 => (intro w hSw; (try dsimp only at hSw); go_simp; try with_reducible rfl)
                                  try simp only [Act.put, List.setIfInBounds_toArray, List.set_cons_zero, List.set_cons_succ]
                                  refine wpAnyH_take (i := 64) (oi := { dst := some 158, op := Op.load 9 (Operand.tmp 157), type := 9, pos := "law.go:150", after := #[{ on := 63, ground := Ground.data }, { on := 61, ground := Ground.guard }], guard := some (61, true) }) (v := ?v64) rfl (by kernel_rfl) (by kernel_rfl) (by kernel_rfl) (fun _ _ _ h => h) (Or.inl ⟨by rfl, ?y64⟩) (by assumption) ?q64
                                  case y64 => (intro w hSw; (try dsimp only at hSw); go_simp; try with_reducible rfl)
                                  try simp only [Act.put, List.setIfInBounds_toArray, List.set_cons_zero, List.set_cons_succ]
                                  refine wpAnyH_ready (rs := [65]) (by kernel_rfl) (by simp) ?_
                                  refine AllReadyH.cons rfl (fun K hK => ?_) AllReadyH.nil
                                  go_simp
                                  go_wp2_with (go_at_call 23; refine (F2.out w17).mono ?_; clear F2; rintro e w17 ⟨rfl, rfl⟩)
                                  refine hK.out _ _ ?s65 (fun hH65 => ?r65)
                                  case s65 => first | exact k17 | (dsimp only; exact k17)
                                  case r65 =>
                                    clear hK K hH54
                                    as_aux_lemma =>
                                      refine wpAnyH_take (i := 66) (oi := { dst := some 160, op := Op.call { callee := Callee.builtin Builtin.len, args := #[Operand.tmp 159], argTypes := #[44] }, type := 3, pos := "law.go:150", after := #[{ on := 65, ground := Ground.data }, { on := 61, ground := Ground.guard }], guard := some (61, true) }) (v := ?v66) rfl (by kernel_rfl) (by kernel_rfl) (by kernel_rfl) (fun _ _ _ h => h) (Or.inl ⟨by rfl, ?y66⟩) (by assumption) ?q66
                                      case y66 => (intro w hSw; (try dsimp only at hSw); go_simp; try with_reducible rfl)
                                      try simp only [Act.put, List.setIfInBounds_toArray, List.set_cons_zero, List.set_cons_succ]
                                      refine wpAnyH_take (i := 67) (oi := { dst := some 161, op := Op.binOp BinOp.eql 3 (Operand.tmp 160) (Operand.const (Value.int IntKind.i64 0)) 3, type := 4, pos := "law.go:150", after := #[{ on := 66, ground := Ground.data }, { on := 61, ground := Ground.guard }], guard := some (61, true) }) (v := ?v67) rfl (by kernel_rfl) (by kernel_rfl) (by kernel_rfl) (fun _ _ _ h => h) (Or.inl ⟨by rfl, ?y67⟩) (by assumption) ?q67
                                      case y67 => (intro w hSw; (try dsimp only at hSw); go_simp; try with_reducible rfl)
                                      try simp only [Act.put, List.setIfInBounds_toArray, List.set_cons_zero, List.set_cons_succ]
                                      refine wpAnyH_take (i := 68) (oi := { dst := some 162, op := Op.pick (Operand.tmp 155) (Operand.tmp 161) (Operand.const (Value.bool false)), type := 4, pos := "law.go:150", after := #[{ on := 61, ground := Ground.data }, { on := 67, ground := Ground.data }], guard := none }) (v := ?v68) rfl (by kernel_rfl) (by kernel_rfl) (by kernel_rfl) (fun _ _ _ h => h) (Or.inl ⟨by rfl, ?y68⟩) (by assumption) ?q68
                                      case y68 => (intro w hSw; (try dsimp only at hSw); go_simp; try with_reducible rfl)
                                      try simp only [Act.put, List.setIfInBounds_toArray, List.set_cons_zero, List.set_cons_succ]
                                      refine wpAnyH_take (i := 69) (oi := { dst := some 163, op := Op.move (Operand.tmp 162), type := 4, pos := "law.go:150", after := #[{ on := 68, ground := Ground.data }, { on := 65, ground := Ground.chain }], guard := none }) (v := ?v69) rfl (by kernel_rfl) (by kernel_rfl) (by kernel_rfl) (fun _ _ _ h => h) (Or.inl ⟨by rfl, ?y69⟩) (by assumption) ?q69
                                      case y69 => (intro w hSw; (try dsimp only at hSw); go_simp; try with_reducible rfl)
                                      try simp only [Act.put, List.setIfInBounds_toArray, List.set_cons_zero, List.set_cons_succ]
                                      refine wpAnyH_take (i := 70) (oi := { dst := some 164, op := Op.move (Operand.tmp 7), type := 24, pos := "law.go:150", after := #[{ on := 69, ground := Ground.guard }], guard := some (69, true) }) (v := ?v70) rfl (by kernel_rfl) (by kernel_rfl) (by kernel_rfl) (fun _ _ _ h => h) (Or.inl ⟨by rfl, ?y70⟩) (by assumption) ?q70
                                      case y70 => (intro w hSw; (try dsimp only at hSw); go_simp; try with_reducible rfl)
                                      try simp only [Act.put, List.setIfInBounds_toArray, List.set_cons_zero, List.set_cons_succ]
                                      refine wpAnyH_take (i := 71) (oi := { dst := some 165, op := Op.fieldAddr 30 (Operand.tmp 3) 0, type := 0, pos := "law.go:150", after := #[{ on := 69, ground := Ground.guard }], guard := some (69, true) }) (v := ?v71) rfl (by kernel_rfl) (by kernel_rfl) (by kernel_rfl) (fun _ _ _ h => h) (Or.inl ⟨by rfl, ?y71⟩) (by assumption) ?q71
                                      case y71 => (intro w hSw; (try dsimp only at hSw); go_simp; try with_reducible rfl)
                                      try simp only [Act.put, List.setIfInBounds_toArray, List.set_cons_zero, List.set_cons_succ]
                                      refine wpAnyH_take (i := 72) (oi := { dst := some 166, op := Op.load 9 (Operand.tmp 165), type := 9, pos := "law.go:150", after := #[{ on := 71, ground := Ground.data }, { on := 69, ground := Ground.guard }], guard := some (69, true) }) (v := ?v72) rfl (by kernel_rfl) (by kernel_rfl) (by kernel_rfl) (fun _ _ _ h => h) (Or.inl ⟨by rfl, ?y72⟩) (by assumption) ?q72
                                      case y72 => (intro w hSw; (try dsimp only at hSw); go_simp; try with_reducible rfl)
                                      try simp only [Act.put, List.setIfInBounds_toArray, List.set_cons_zero, List.set_cons_succ]
                                      refine wpAnyH_ready (rs := [73]) (by kernel_rfl) (by simp) ?_
                                      refine AllReadyH.cons rfl (fun K hK => ?_) AllReadyH.nil
                                      go_simp
                                      go_wp2_with (go_at_call 24; refine (G2.out w17).mono ?_; clear G2; rintro e w17 ⟨rfl, rfl⟩)
                                      refine hK.out _ _ ?s73 (fun hH73 => ?r73)
                                      case s73 => first | exact k17 | (dsimp only; exact k17)
                                      case r73 =>
                                        clear hK K hH65
                                        as_aux_lemma =>
                                          refine wpAnyH_take (i := 74) (oi := { dst := some 168, op := Op.binOp BinOp.eql 3 (Operand.tmp 167) (Operand.const (Value.int IntKind.i64 0)) 3, type := 4, pos := "law.go:150", after := #[{ on := 73, ground := Ground.data }, { on := 69, ground := Ground.guard }], guard := some (69, true) }) (v := ?v74) rfl (by kernel_rfl) (by kernel_rfl) (by kernel_rfl) (fun _ _ _ h => h) (Or.inl ⟨by rfl, ?y74⟩) (by assumption) ?q74
                                          case y74 => (intro w hSw; (try dsimp only at hSw); go_simp; try with_reducible rfl)
                                          try simp only [Act.put, List.setIfInBounds_toArray, List.set_cons_zero, List.set_cons_succ]
                                          refine wpAnyH_take (i := 75) (oi := { dst := some 169, op := Op.pick (Operand.tmp 163) (Operand.tmp 168) (Operand.const (Value.bool false)), type := 4, pos := "law.go:150", after := #[{ on := 69, ground := Ground.data }, { on := 74, ground := Ground.data }], guard := none }) (v := ?v75) rfl (by kernel_rfl) (by kernel_rfl) (by kernel_rfl) (fun _ _ _ h => h) (Or.inl ⟨by rfl, ?y75⟩) (by assumption) ?q75
                                          case y75 => (intro w hSw; (try dsimp only at hSw); go_simp; try with_reducible rfl)
                                          try simp only [Act.put, List.setIfInBounds_toArray, List.set_cons_zero, List.set_cons_succ]
                                          refine wpAnyH_take (i := 76) (oi := { dst := some 170, op := Op.move (Operand.tmp 169), type := 4, pos := "law.go:150", after := #[{ on := 75, ground := Ground.data }, { on := 73, ground := Ground.chain }], guard := none }) (v := ?v76) rfl (by kernel_rfl) (by kernel_rfl) (by kernel_rfl) (fun _ _ _ h => h) (Or.inl ⟨by rfl, ?y76⟩) (by assumption) ?q76
                                          case y76 => (intro w hSw; (try dsimp only at hSw); go_simp; try with_reducible rfl)
                                          try simp only [Act.put, List.setIfInBounds_toArray, List.set_cons_zero, List.set_cons_succ]
                                          refine wpAnyH_take (i := 77) (oi := { dst := some 171, op := Op.move (Operand.tmp 15), type := 39, pos := "law.go:150", after := #[{ on := 76, ground := Ground.guard }], guard := some (76, true) }) (v := ?v77) rfl (by kernel_rfl) (by kernel_rfl) (by kernel_rfl) (fun _ _ _ h => h) (Or.inl ⟨by rfl, ?y77⟩) (by assumption) ?q77
                                          case y77 => (intro w hSw; (try dsimp only at hSw); go_simp; try with_reducible rfl)
                                          try simp only [Act.put, List.setIfInBounds_toArray, List.set_cons_zero, List.set_cons_succ]
                                          refine wpAnyH_take (i := 78) (oi := { dst := some 172, op := Op.binOp BinOp.neq 39 (Operand.tmp 171) (Operand.const (Value.int IntKind.i64 0)) 39, type := 4, pos := "law.go:150", after := #[{ on := 77, ground := Ground.data }, { on := 76, ground := Ground.guard }], guard := some (76, true) }) (v := ?v78) rfl (by kernel_rfl) (by kernel_rfl) (by kernel_rfl) (fun _ _ _ h => h) (Or.inl ⟨by rfl, ?y78⟩) (by assumption) ?q78
                                          case y78 => (intro w hSw; (try dsimp only at hSw); go_simp; try with_reducible rfl)
                                          try simp only [Act.put, List.setIfInBounds_toArray, List.set_cons_zero, List.set_cons_succ]
                                          refine wpAnyH_take (i := 79) (oi := { dst := some 173, op := Op.move (Operand.tmp 172), type := 4, pos := "law.go:150", after := #[{ on := 78, ground := Ground.data }, { on := 76, ground := Ground.chain }, { on := 76, ground := Ground.guard }], guard := some (76, true) }) (v := ?v79) rfl (by kernel_rfl) (by kernel_rfl) (by kernel_rfl) (fun _ _ _ h => h) (Or.inl ⟨by rfl, ?y79⟩) (by assumption) ?q79
                                          case y79 => (intro w hSw; (try dsimp only at hSw); go_simp; try with_reducible rfl)
                                          try simp only [Act.put, List.setIfInBounds_toArray, List.set_cons_zero, List.set_cons_succ]
                                          refine wpAnyH_take (i := 80) (oi := { dst := some 174, op := Op.move (Operand.tmp 20), type := 38, pos := "law.go:150", after := #[{ on := 79, ground := Ground.guard }], guard := some (79, false) }) (v := undef) rfl (by kernel_rfl) (by kernel_rfl) (by kernel_rfl) (fun _ _ _ h => h) (Or.inr ⟨by rfl, rfl⟩) (by assumption) ?_
                                          try simp only [Act.put, List.setIfInBounds_toArray, List.set_cons_zero, List.set_cons_succ]
                                          refine wpAnyH_take (i := 81) (oi := { dst := some 175, op := Op.call { callee := Callee.builtin Builtin.len, args := #[Operand.tmp 174], argTypes := #[38] }, type := 3, pos := "law.go:150", after := #[{ on := 80, ground := Ground.data }, { on := 79, ground := Ground.guard }], guard := some (79, false) }) (v := undef) rfl (by kernel_rfl) (by kernel_rfl) (by kernel_rfl) (fun _ _ _ h => h) (Or.inr ⟨by rfl, rfl⟩) (by assumption) ?_
                                          try simp only [Act.put, List.setIfInBounds_toArray, List.set_cons_zero, List.set_cons_succ]
                                          refine wpAnyH_take (i := 82) (oi := { dst := some 176, op := Op.binOp BinOp.eql 3 (Operand.tmp 175) (Operand.const (Value.int IntKind.i64 1)) 3, type := 4, pos := "law.go:150", after := #[{ on := 81, ground := Ground.data }, { on := 79, ground := Ground.guard }], guard := some (79, false) }) (v := undef) rfl (by kernel_rfl) (by kernel_rfl) (by kernel_rfl) (fun _ _ _ h => h) (Or.inr ⟨by rfl, rfl⟩) (by assumption) ?_
                                          try simp only [Act.put, List.setIfInBounds_toArray, List.set_cons_zero, List.set_cons_succ]
                                          refine wpAnyH_take (i := 83) (oi := { dst := some 177, op := Op.move (Operand.tmp 176), type := 4, pos := "law.go:150", after := #[{ on := 82, ground := Ground.data }, { on := 79, ground := Ground.chain }, { on := 79, ground := Ground.guard }], guard := some (79, false) }) (v := undef) rfl (by kernel_rfl) (by kernel_rfl) (by kernel_rfl) (fun _ _ _ h => h) (Or.inr ⟨by rfl, rfl⟩) (by assumption) ?_
                                          try simp only [Act.put, List.setIfInBounds_toArray, List.set_cons_zero, List.set_cons_succ]
                                          refine wpAnyH_take (i := 84) (oi := { dst := some 178, op := Op.move (Operand.tmp 20), type := 38, pos := "law.go:150", after := #[{ on := 83, ground := Ground.guard }], guard := some (83, true) }) (v := undef) rfl (by kernel_rfl) (by kernel_rfl) (by kernel_rfl) (fun _ _ _ h => h) (Or.inr ⟨by rfl, rfl⟩) (by assumption) ?_
                                          try simp only [Act.put, List.setIfInBounds_toArray, List.set_cons_zero, List.set_cons_succ]
                                          refine wpAnyH_take (i := 85) (oi := { dst := some 179, op := Op.indexAddr 38 (Operand.tmp 178) (Operand.const (Value.int IntKind.i64 0)), type := 0, pos := "law.go:150", after := #[{ on := 84, ground := Ground.data }, { on := 83, ground := Ground.guard }], guard := some (83, true) }) (v := undef) rfl (by kernel_rfl) (by kernel_rfl) (by kernel_rfl) (fun _ _ _ h => h) (Or.inr ⟨by rfl, rfl⟩) (by assumption) ?_
                                          try simp only [Act.put, List.setIfInBounds_toArray, List.set_cons_zero, List.set_cons_succ]
                                          refine wpAnyH_take (i := 86) (oi := { dst := some 180, op := Op.load 30 (Operand.tmp 179), type := 30, pos := "law.go:150", after := #[{ on := 85, ground := Ground.data }, { on := 83, ground := Ground.guard }], guard := some (83, true) }) (v := undef) rfl (by kernel_rfl) (by kernel_rfl) (by kernel_rfl) (fun _ _ _ h => h) (Or.inr ⟨by rfl, rfl⟩) (by assumption) ?_
                                          try simp only [Act.put, List.setIfInBounds_toArray, List.set_cons_zero, List.set_cons_succ]
                                          refine wpAnyH_take (i := 87) (oi := { dst := some 181, op := Op.load 30 (Operand.tmp 3), type := 30, pos := "law.go:150", after := #[{ on := 83, ground := Ground.guard }], guard := some (83, true) }) (v := undef) rfl (by kernel_rfl) (by kernel_rfl) (by kernel_rfl) (fun _ _ _ h => h) (Or.inr ⟨by rfl, rfl⟩) (by assumption) ?_
                                          try simp only [Act.put, List.setIfInBounds_toArray, List.set_cons_zero, List.set_cons_succ]
                                          refine wpAnyH_take (i := 88) (oi := { dst := some 182, op := Op.call { callee := Callee.value (Operand.func 25), args := #[Operand.tmp 180, Operand.tmp 181], argTypes := #[30, 30] }, type := 4, pos := "law.go:150", after := #[{ on := 86, ground := Ground.data }, { on := 87, ground := Ground.data }, { on := 83, ground := Ground.chain }, { on := 83, ground := Ground.guard }], guard := some (83, true) }) (v := undef) rfl (by kernel_rfl) (by kernel_rfl) (by kernel_rfl) (fun _ _ _ h => h) (Or.inr ⟨by rfl, rfl⟩) (by assumption) ?_
                                          try simp only [Act.put, List.setIfInBounds_toArray, List.set_cons_zero, List.set_cons_succ]
                                          refine wpAnyH_take (i := 89) (oi := { dst := some 183, op := Op.pick (Operand.tmp 177) (Operand.tmp 182) (Operand.const (Value.bool false)), type := 4, pos := "law.go:150", after := #[{ on := 83, ground := Ground.data }, { on := 88, ground := Ground.data }, { on := 79, ground := Ground.guard }], guard := some (79, false) }) (v := undef) rfl (by kernel_rfl) (by kernel_rfl) (by kernel_rfl) (fun _ _ _ h => h) (Or.inr ⟨by rfl, rfl⟩) (by assumption) ?_
                                          try simp only [Act.put, List.setIfInBounds_toArray, List.set_cons_zero, List.set_cons_succ]
                                          refine wpAnyH_take (i := 90) (oi := { dst := some 184, op := Op.pick (Operand.tmp 173) (Operand.const (Value.bool true)) (Operand.tmp 183), type := 4, pos := "law.go:150", after := #[{ on := 79, ground := Ground.data }, { on := 89, ground := Ground.data }, { on := 76, ground := Ground.guard }], guard := some (76, true) }) (v := ?v90) rfl (by kernel_rfl) (by kernel_rfl) (by kernel_rfl) (fun _ _ _ h => h) (Or.inl ⟨by rfl, ?y90⟩) (by assumption) ?q90
                                          case y90 => (intro w hSw; (try dsimp only at hSw); go_simp; try with_reducible rfl)
                                          try simp only [Act.put, List.setIfInBounds_toArray, List.set_cons_zero, List.set_cons_succ]
                                          refine wpAnyH_take (i := 91) (oi := { dst := some 185, op := Op.pick (Operand.tmp 170) (Operand.tmp 184) (Operand.const (Value.bool false)), type := 4, pos := "law.go:150", after := #[{ on := 76, ground := Ground.data }, { on := 90, ground := Ground.data }], guard := none }) (v := ?v91) rfl (by kernel_rfl) (by kernel_rfl) (by kernel_rfl) (fun _ _ _ h => h) (Or.inl ⟨by rfl, ?y91⟩) (by assumption) ?q91
                                          case y91 => (intro w hSw; (try dsimp only at hSw); go_simp; try with_reducible rfl)
                                          try simp only [Act.put, List.setIfInBounds_toArray, List.set_cons_zero, List.set_cons_succ]
                                          refine wpAnyH_take (i := 92) (oi := { dst := some 6, op := Op.assign (Operand.tmp 185), type := 4, pos := "law.go:150", after := #[{ on := 91, ground := Ground.data }, { on := 88, ground := Ground.chain }, { on := 0, ground := Ground.phase }, { on := 1, ground := Ground.phase }, { on := 2, ground := Ground.phase }, { on := 3, ground := Ground.phase }, { on := 4, ground := Ground.phase }, { on := 5, ground := Ground.phase }, { on := 6, ground := Ground.phase }, { on := 7, ground := Ground.phase }, { on := 8, ground := Ground.phase }, { on := 9, ground := Ground.phase }, { on := 10, ground := Ground.phase }, { on := 11, ground := Ground.phase }, { on := 12, ground := Ground.phase }, { on := 13, ground := Ground.phase }, { on := 14, ground := Ground.phase }, { on := 15, ground := Ground.phase }, { on := 16, ground := Ground.phase }, { on := 17, ground := Ground.phase }, { on := 18, ground := Ground.phase }, { on := 19, ground := Ground.phase }, { on := 20, ground := Ground.phase }, { on := 21, ground := Ground.phase }, { on := 22, ground := Ground.phase }, { on := 23, ground := Ground.phase }, { on := 24, ground := Ground.phase }, { on := 25, ground := Ground.phase }, { on := 26, ground := Ground.phase }, { on := 27, ground := Ground.phase }, { on := 28, ground := Ground.phase }, { on := 29, ground := Ground.phase }, { on := 30, ground := Ground.phase }, { on := 31, ground := Ground.phase }, { on := 32, ground := Ground.phase }, { on := 33, ground := Ground.phase }, { on := 34, ground := Ground.phase }, { on := 35, ground := Ground.phase }, { on := 36, ground := Ground.phase }, { on := 37, ground := Ground.phase }, { on := 38, ground := Ground.phase }, { on := 39, ground := Ground.phase }, { on := 40, ground := Ground.phase }, { on := 41, ground := Ground.phase }, { on := 42, ground := Ground.phase }, { on := 43, ground := Ground.phase }, { on := 44, ground := Ground.phase }, { on := 45, ground := Ground.phase }, { on := 46, ground := Ground.phase }, { on := 47, ground := Ground.phase }, { on := 48, ground := Ground.phase }, { on := 49, ground := Ground.phase }, { on := 50, ground := Ground.phase }, { on := 51, ground := Ground.phase }, { on := 52, ground := Ground.phase }, { on := 53, ground := Ground.phase }, { on := 54, ground := Ground.phase }, { on := 55, ground := Ground.phase }, { on := 56, ground := Ground.phase }, { on := 57, ground := Ground.phase }, { on := 58, ground := Ground.phase }, { on := 59, ground := Ground.phase }, { on := 60, ground := Ground.phase }, { on := 61, ground := Ground.phase }, { on := 62, ground := Ground.phase }, { on := 63, ground := Ground.phase }, { on := 64, ground := Ground.phase }, { on := 65, ground := Ground.phase }, { on := 66, ground := Ground.phase }, { on := 67, ground := Ground.phase }, { on := 68, ground := Ground.phase }, { on := 69, ground := Ground.phase }, { on := 70, ground := Ground.phase }, { on := 71, ground := Ground.phase }, { on := 72, ground := Ground.phase }, { on := 73, ground := Ground.phase }, { on := 74, ground := Ground.phase }, { on := 75, ground := Ground.phase }, { on := 76, ground := Ground.phase }, { on := 77, ground := Ground.phase }, { on := 78, ground := Ground.phase }, { on := 79, ground := Ground.phase }, { on := 80, ground := Ground.phase }, { on := 81, ground := Ground.phase }, { on := 82, ground := Ground.phase }, { on := 83, ground := Ground.phase }, { on := 84, ground := Ground.phase }, { on := 85, ground := Ground.phase }, { on := 86, ground := Ground.phase }, { on := 87, ground := Ground.phase }, { on := 88, ground := Ground.phase }, { on := 89, ground := Ground.phase }, { on := 90, ground := Ground.phase }, { on := 91, ground := Ground.phase }], guard := none }) (v := ?v92) rfl (by kernel_rfl) (by kernel_rfl) (by kernel_rfl) (fun _ _ _ h => h) (Or.inl ⟨by rfl, ?y92⟩) (by assumption) ?q92
                                          case y92 => (intro w hSw; (try dsimp only at hSw); go_simp; try with_reducible rfl)
                                          try simp only [Act.put, List.setIfInBounds_toArray, List.set_cons_zero, List.set_cons_succ]
                                          refine wpAnyH_done (by kernel_rfl) ?_ _
                                          go_wp2_with fail
                                          go_ret
                                          exact ⟨rfl, BW.out.trans (B17.out.mono BW.out.size)⟩
end Kwn
end Go.Proofs.YtalanjhpacjmmaaGreat
