/- The law of nil ones and new memory. -/
import Derived.Test.YtbpkoneenihfcaaLr
namespace Go.Proofs.Ytbpkoneenihfcaa
open Go.RowKit
namespace Ln
open Bm Wr Rf Sr Rd Ro Lw Lr

theorem wt_congr {w : World} {g m : Nat} {s : Value} {β γ : Nat → Bool} (h : Wt w g s m β) (e : ∀ i, i < m → β i = γ i) (hz : ∀ i, m ≤ i → γ i = false) : Wt w g s m γ := by
  obtain ⟨bs, f, h1, h2, h3, h4, h5⟩ := h
  refine ⟨bs, f, h1, h2.congr fun i _ => ?_, h3, h4, hz⟩
  by_cases hi : i < m
  · exact e i hi
  · rw [h5 i (by omega), hz i (by omega)]
theorem cut_put (bs : List Nat) (k i : Nat) (hi : i < 8 * k + 8) : put (cut (bb bs) (8 * k)) (8 * k) (bs.getD k 0) 8 0 i = cut (bb bs) (8 * (k + 1)) i := by
  unfold put cut
  by_cases h : i < 8 * k
  · rw [if_pos h, if_pos h, if_pos (by omega)]
  · rw [if_neg h, if_pos (by omega), if_pos (by omega)]
    unfold bb
    rw [show i / 8 = k from by omega, show 8 - 1 - (i - 8 * k) = 7 - i % 8 from by omega]

theorem conv_pl {w : World} {s : Value} {bs : List Nat} (h : Pl w s bs) : (convert 26 9 s).run Try.prog w = .ok (.string (str bs)) w := by
  rcases h with ⟨rfl, a, c, rfl⟩ | ⟨h0, b, off, c, rfl, hl, hc⟩
  · cases a with
    | none => exact run_convert_bytes_nil w 26 5 Try.underlying26 Try.underlying5 0 c 9 Try.underlying9
    | some a =>
      rw [run_convert_bytes_string w 26 9 5 _ 0 c Try.underlying26 Try.underlying5 Try.underlying9]
      rw [run_bytesToString w a 0 c [] (by simpa using run_loadCells_list (P := Try.prog) w a [] (by simp))]
      rfl
  · exact conv_cells w 26 Try.underlying26 b off c bs hc

/-- What the law's last line finds in the writer. -/
theorem last_bytes {w : World} {g : Nat} {s : Value} {bs : List Nat} {v : Nat} (h : Wt w g s (8 * bs.length + 8) (put (cut (bb bs) (8 * bs.length)) (8 * bs.length) v 8 0)) (hb : ∀ x ∈ bs, x < 256) (hl : bs.length ≤ 140737488351232) :
    Calls Try.prog 14 #[.pointer (some ⟨g, 0, none⟩)] w fun e w' => ∃ q c, e = .returned (.slice (some ⟨q, 0, none⟩) (bs.length + 1) c) ∧ bs.length + 1 ≤ c ∧ (convert 26 9 (.slice (some ⟨q, 0, none⟩) bs.length c)).run Try.prog w' = .ok (.string (str bs)) w' ∧ Below w.heap.size w w' := by
  refine (bytes_wt w g s _ _ h (by omega)).mono ?_
  rintro e w' ⟨v', cs, f, rfl, ho, bl, hh, hlen, hf⟩
  have hcl : cs.length = bs.length + 1 := by omega
  obtain ⟨q, c, rfl, hc⟩ := lit_is _ _ _ _ ho (by omega)
  have hcc : cs.length ≤ c := by
    obtain ⟨_, ⟨_, h⟩ | ⟨_, _, _, e, _, _, h, _⟩⟩ := ho
    · omega
    · simp only [Value.slice.injEq, true_and] at e
      omega
  refine ⟨q, c, by rw [hcl], by omega, conv_cells w' 26 Try.underlying26 q 0 c bs fun i hi => ?_, bl⟩
  rw [Nat.zero_add, hc i (by omega)]
  congr 3
  refine byte_ext (getD_lt hh.1 i) (getD_lt hb i) fun k hk => ?_
  rw [hh.2 i k (by omega) hk, (has_bb hb).2 i k hi hk]
  unfold put cut
  rw [if_pos (by omega), if_pos (by omega)]

set_option maxRecDepth 100000 in
set_option maxHeartbeats 2000000 in
theorem nil8 (W : World) (s0 : Value) (bs : List Nat) (hs : Pl W s0 bs) (hb : ∀ x ∈ bs, x < 256) (hl : bs.length ≤ 140737488351232) (n : Int) :
    Calls Try.prog 8 #[s0, .int .i64 n] W fun e w' => e = .returned (.bool true) ∧ Below W.heap.size W w' := by
  obtain ⟨i0, hi, hz0, hz1, hz2⟩ := info_parts info5
  have hform : ∃ a c, s0 = .slice a bs.length c := by
    rcases hs with ⟨rfl, a, c, rfl⟩ | ⟨h0, b, off, c, rfl, hl, hc⟩
    · exact ⟨a, c, rfl⟩
    · exact ⟨_, c, rfl⟩
  obtain ⟨a, c, rfl⟩ := hform
  obtain ⟨L, hL⟩ : ∃ L, L = bs.length := ⟨_, rfl⟩
  have HP := Lib.hid hs
  have HB := Lib.hid hb
  rw [← hL] at hl HP ⊢
  have HL := Lib.hid hL
  clear hs hb hL
  go_enter Try.func8, Try.ntmps8
  go_wp2_with (first
    | (go_at_call 9; refine (awake9 _).mono ?_; rintro e w1 ⟨rfl, b1⟩)
    | (go_at_call 11; refine (nil_put _ _ _).mono ?_; rintro e w1' ⟨rfl, rfl⟩))
  refine (new_wt _).mono ?_
  rintro e w2 ⟨rfl, hw2, b2⟩
  obtain ⟨g, hg⟩ : ∃ g, g = w1'.heap.size := ⟨_, rfl⟩
  have hgW : W.heap.size ≤ g := by rw [hg]; exact b1.size
  have HB2 := Lib.hid (b1.trans (b2.mono b1.size))
  rw [← hg] at hw2 ⊢
  have HW2 : Hid (Wt w2 g (.slice none 0 0) (8 * 0) (cut (bb bs) (8 * 0))) := Lib.hid (wt_congr hw2 (fun i hi => by omega) (fun i _ => by unfold cut; rw [if_neg (by omega)]))
  clear hw2 b1 b2 hg
  go_wp2_with fail
  go_loopw [19] (fun i wr => ∃ k sw, k ≤ L ∧ i = .int .i64 (k : Nat) ∧ Wt wr g sw (8 * k) (cut (bb bs) (8 * k)) ∧ Below W.heap.size W wr) (fun i _ => L - (intOf i).toNat)
  case atStart => exact ⟨0, _, Nat.zero_le _, rfl, HW2.out, HB2.out⟩
  case round =>
    obtain ⟨k, sw, hk, rfl, hwt, hbl⟩ := hrel
    clear HW2 HB2
    by_cases hkl : k < L
    · rcases HP.out with ⟨hnil, _⟩ | ⟨_, b, off, c', e', _, hcell⟩
      · have := HL.out; rw [hnil] at this; simp at this; omega
      simp only [Value.slice.injEq] at e'
      obtain ⟨rfl, -, rfl⟩ := e'
      have e1 := hcell k (by rw [← HL.out]; exact hkl)
      have hbW := cell_lt e1
      rw [← hbl.cell (by exact hbW)] at e1
      have hX := getD_lt HB.out k
      have HPUT0 := put_wt wr g sw (8 * k) (cut (bb bs) (8 * k)) (bs.getD k 0) 8 8 hwt (by omega) (by omega) (by omega) (by omega) (by omega)
      obtain ⟨X, hXe⟩ : ∃ X, X = bs.getD k 0 := ⟨_, rfl⟩
      rw [← hXe] at e1 hX HPUT0
      have HX := Lib.hid hXe
      have HPUT := Lib.hid HPUT0
      have HWT := Lib.hid hwt
      have HBL := Lib.hid hbl
      clear HPUT0 hwt hbl hcell hXe
      go_wp2_with (go_at_call 11; refine HPUT.out.mono ?_; rintro e w5 ⟨rfl, s5, h5, m5, o5⟩)
      have H5 : Hid (Wt w5 g s5 (8 * (k + 1)) (cut (bb bs) (8 * (k + 1)))) := by
        rw [HX.out] at h5
        exact Lib.hid (wt_congr h5 (fun i hi => cut_put bs k i hi) (fun i hi => by unfold cut; rw [if_neg (by omega)]))
      have B5 := Lib.hid (HBL.out.trans (m5.below hgW (fun q e => by have := Wt.own HWT.out q e; omega) (Wt.lt HWT.out)))
      clear h5 m5 o5 HPUT HWT HBL
      go_roundw
      case rel => exact ⟨k + 1, s5, by omega, by go_num, H5.out, B5.out⟩
      case measure => simp [intOf]; omega
    · obtain rfl : k = L := by omega
      have HWT := Lib.hid hwt
      clear hkl hwt
      go_wp2_with (go_at_call 14; refine (bytes_wt _ _ _ _ _ HWT.out (by omega)).mono ?_; rintro e w6 ⟨v6, cs, f, rfl, ow6, b6, has6, len6, hf6⟩; obtain ⟨a6, c6, rfl⟩ := slice_of ow6; have HO6 := Lib.hid ow6; clear ow6)
      have hM : cs.length = k := by omega
      have HN6 : Hid (Wt w6 g sw (8 * k) (cut (bb bs) (8 * k))) := Lib.hid (HWT.out.below b6)
      have HB6 := Lib.hid (hbl.trans (b6.mono hbl.size))
      have hg0 : g < wr.heap.size := Wt.lt HWT.out
      have hsw : ∀ q, sw.ownBlock = some q → q < wr.heap.size := fun q e => (Wt.own HWT.out q e).2
      have HSW := Lib.hid hsw
      have HCS := Lib.hid has6.1
      have hBW : W.heap.size ≤ wr.heap.size := hbl.size
      have hB6 : wr.heap.size ≤ w6.heap.size := b6.size
      obtain ⟨B, hBe⟩ : ∃ B, B = wr.heap.size := ⟨_, rfl⟩
      rw [← hBe] at HO6 hg0 HSW hBW hB6
      rw [hM] at HO6 ⊢
      clear hsw b6 hbl HWT has6 len6 hf6 hBe
      have HV6 : Hid (∀ i, (Value.slice a6 k c6).ownBlock = some i → B ≤ i) := Lib.hid fun i e => (HO6.out.lt i e).1
      go_loopw [34] (fun i wr => ∃ j ys, j ≤ k ∧ i = .int .i64 (j : Nat) ∧ ys.length = k ∧ (∀ y ∈ ys, y < 256) ∧ wr.ownsRow B 5 1 (.slice a6 k c6) k (u8s ys) ∧ w6.grownBy wr (Value.slice a6 k c6).ownBlock) (fun i _ => k - (intOf i).toNat)
      case atStart => exact ⟨0, cs, Nat.zero_le _, rfl, hM, HCS.out, HO6.out, World.grownBy.refl _ _⟩
      case round =>
        obtain ⟨j, ys, hj, rfl, hyl, hy, hown, hgr⟩ := hrel
        clear HO6 HCS
        by_cases hjk : j < k
        · obtain ⟨q, c', e'⟩ := Go.Joins.ownsRow_form hown (by omega)
          simp only [Value.slice.injEq, true_and] at e'
          obtain ⟨rfl, rfl⟩ := e'
          have e1 : wr.cell? ⟨q, j, none⟩ = some (.int .u8 (ys.getD j 0 : Nat)) := by
            rw [hown.cellAt j (by omega)]
            exact u8s_get _ _ (by omega)
          have e0 : wr.frozen? ⟨q, j, none⟩ = false := hown.frozenAt j
          have hY := getD_lt hy j
          obtain ⟨Y, hYe⟩ : ∃ Y, Y = ys.getD j 0 := ⟨_, rfl⟩
          rw [← hYe] at e1 hY
          have HO := Lib.hid hown
          have HY := Lib.hid hy
          have HG := Lib.hid hgr
          clear hown hy hgr hYe
          go_wp2_with fail
          go_roundw
          case rel =>
            have hst := HO.out.stored j (Value.int .u8 (((Y + 1) % 256 : Nat) : Int))
            refine ⟨j + 1, ys.set j ((Y + 1) % 256), by omega, by go_num, by rw [List.length_set]; exact hyl, fun y hm => ?_, ?_, ?_⟩
            · rcases List.mem_or_eq_of_mem_set hm with hm | rfl
              · exact HY.out y hm
              · omega
            · rw [u8s_set, show ((Y : Int) + 1) % 256 = (((Y + 1) % 256 : Nat) : Int) from by omega]
              exact hst.1
            · rw [show ((Y : Int) + 1) % 256 = (((Y + 1) % 256 : Nat) : Int) from by omega]
              exact ⟨hst.2.os.trans HG.out.os, hst.2.tape.trans HG.out.tape, hst.2.output.trans HG.out.output, Nat.le_trans HG.out.size hst.2.size, fun i hi hne => (hst.2.block i (Nat.lt_of_lt_of_le hi HG.out.size) hne).trans (HG.out.block i hi hne)⟩
          case measure => simp [intOf]; omega
        · obtain rfl : j = k := by omega
          have HO3 := Lib.hid hown
          have HM3 : Hid (Mv w6 wr w6.heap.size (.slice a6 j c6)) := Lib.hid ⟨hgr.os, hgr.tape, hgr.output, hgr.size, fun i hi _ hne => hgr.block i hi (fun e => hne e.symm)⟩
          clear hown hgr hy hjk
          go_wp2_with fail
          go_loopw [9, 44] (fun x i wr => ∃ r zs, r ≤ 9 ∧ i = .int .i64 (r : Nat) ∧ wr.ownsRow B 5 1 x (j + r) (u8s zs) ∧ Mv w6 wr w6.heap.size (.slice a6 j c6) ∧ Own w6 (.slice a6 j c6) x) (fun _ i _ => 9 - (intOf i).toNat)
          case atStart => exact ⟨0, ys, by omega, rfl, HO3.out, HM3.out, Own.refl _ _⟩
          case round =>
            obtain ⟨r, zs, hr, rfl, hown, hmv, ho⟩ := hrel
            clear HO3 HM3
            have hsz := hmv.size
            have HO := Lib.hid ho
            clear ho
            by_cases hr9 : r < 9
            · go_wp2_with (at_builtin; refine wpList_append_own_at _ rfl (.tmp 46) (.tmp 47) 26 rfl B 5 i0 (.int .u8 0) 1 1 Try.underlying26 hi hz0 hz1 hz2 rfl (by decide) _ _ _ rfl (hown.alloc _) ⟨wr.heap.size, 0, none⟩ 1 1 [.int .u8 1] rfl rfl ?c1 ?c2 ?c3 ?c4 ?c5 ?_)
              case c1 =>
                intro i u hj
                match i, hj with
                | 0, hj => simp at hj; subst hj; simp [Addr.add]
              case c2 => intro u hu; simp at hu; subst hu; rfl
              case c3 => unfold maxLen; omega
              case c4 => omega
              case c5 => simp; omega
              intro v' w7 hown' hgrow _ hat
              have ho2 : Own wr u9 v' := hat.elim .inl fun e => .inr ⟨_, e, by simp⟩
              have hmv2 : Mv wr w7 w6.heap.size u9 := ⟨hgrow.os, hgrow.tape, hgrow.output, Nat.le_trans (by simp) hgrow.size, fun i hi _ hs => (hgrow.block i (by simp; omega) (fun e => hs e.symm)).trans (Below.heap_alloc wr _ i hi)⟩
              have HOW : Hid (w7.ownsRow B 5 1 v' (j + (r + 1)) (u8s (zs ++ [1]))) := Lib.hid (by rw [u8s_snoc]; exact hown')
              have HM := Lib.hid (hmv.trans HO.out hmv2)
              have HO2 := Lib.hid (HO.out.trans ho2 hsz)
              clear hgrow hown hown' hmv hmv2 ho2 hat HO
              go_wp2
              go_roundw
              case rel => exact ⟨r + 1, zs ++ [1], by omega, by go_num, HOW.out, HM.out, HO2.out⟩
              case measure => simp [intOf]; omega
            · obtain rfl : r = 9 := by omega
              have hv6 := HV6.out
              have HW3 : Hid (Wt wr g sw (8 * j) (cut (bb bs) (8 * j))) := Lib.hid (wt_mv HN6.out hmv (by omega) (fun e => by have := hv6 g e; omega) (fun e => by have := HSW.out _ e; omega) (fun i e e' => by have := HSW.out i e; have := hv6 i e'; omega))
              have HB7 : Hid (Below W.heap.size W wr) := Lib.hid (HB6.out.trans (mv_below hmv HB6.out.size (fun i e => by have := hv6 i e; omega) HB6.out.size))
              clear hown hmv HO HN6 HB6 hr9
              go_wp2_with (go_at_call 11; refine (put_wt wr g sw (8 * j) _ 1 8 8 HW3.out (by omega) (by omega) (by omega) (by omega) (by omega)).mono ?_; rintro e w8 ⟨rfl, s8, h8, m8, o8⟩)
              have B8 : Below W.heap.size W w8 := HB7.out.trans (m8.below hgW (fun i e => by have := Wt.own HW3.out i e; omega) (Wt.lt HW3.out))
              rw [HL.out] at h8
              have HLB := Lib.hid (last_bytes (wt_drew h8) HB.out (by rw [← HL.out]; exact hl))
              clear h8 m8 o8 HW3 HB7
              rw [← HL.out] at HLB
              have HCV : Hid (∀ W', Below W.heap.size W W' → (convert 26 9 (.slice a j c)).run Try.prog W' = .ok (.string (str bs)) W') := Lib.hid fun W' h => conv_pl (HP.out.below h)
              obtain ⟨S, hS⟩ : ∃ S, S = str bs := ⟨_, rfl⟩
              rw [← hS] at HLB HCV
              have q0 := HCV.out w8.drew B8.drew
              clear hS HV6 HSW hg0 hBW hB6
              go_region_held (fun w' => (convert 26 9 (.slice a j c)).run Try.prog w' = .ok (.string S) w') (first | exact q0 | exact q1)
                (first
                  | (go_at_call 13; refine (nil_len _).mono ?_; rintro e u1 ⟨rfl, rfl⟩)
                  | (go_at_call 14; refine (nil_bytes _).mono ?_; rintro e u2 ⟨rfl, rfl⟩)
                  | (go_at_call 19; refine (nil_get _ _).mono ?_; rintro e u3 ⟨rfl, rfl⟩)
                  | (go_at_call 21; refine (nil_left _).mono ?_; rintro e u4 ⟨rfl, rfl⟩)
                  | (go_at_call 20; refine (nil_bad _).mono ?_; rintro e u5 ⟨rfl, rfl⟩)
                  | (go_at_call 14; refine HLB.out.mono ?_; rintro e w9 ⟨q9, c9, rfl, hc9, q2, b9⟩; have q1 := HCV.out w9 (B8.drew.trans (b9.mono (by have := B8.size; exact this))); have hc1 : (j : Int) ≤ (c9 : Int) := (by omega); have hc0 : ¬ c9 = 0 := (by omega)))
              go_wp2_with fail
              go_ret
              exact ⟨rfl, B8.drew.trans (b9.mono (by have := B8.size; exact this))⟩
end Ln
end Go.Proofs.Ytbpkoneenihfcaa
