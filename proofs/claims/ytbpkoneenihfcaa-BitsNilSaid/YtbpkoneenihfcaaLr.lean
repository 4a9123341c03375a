/- The law of reading bits. -/
import Derived.Test.YtbpkoneenihfcaaRo
import Derived.Test.YtbpkoneenihfcaaRg
import Derived.Test.YtbpkoneenihfcaaLs
namespace Go.Proofs.Ytbpkoneenihfcaa
open Go.RowKit
namespace Lr
open Bm Wr Rf Sr Rd Ro

/-- A slice of sizes. -/
def Is64 (w : World) (a : Option Addr) (len : Nat) (Z : Nat → Int) : Prop :=
  (∀ i, -9223372036854775808 ≤ Z i ∧ Z i ≤ 9223372036854775807) ∧
  (len = 0 ∨ ∃ b off, a = some ⟨b, off, none⟩ ∧ b < w.heap.size ∧ ∀ i, i < len → w.cell? ⟨b, off + i, none⟩ = some (.int .i64 (Z i)))

/-- What is left of the document's bits behind p of T, at block q. -/
def Rest (q T p : Nat) (x : Value) : Prop := (T = p ∧ ∃ a c, x = .slice a 0 c) ∨ (p < T ∧ ∃ c, x = .slice (some ⟨q, p, none⟩) (T - p) c ∧ T - p ≤ c)
/-- What the law holds at the head of a round. -/
def St (w0 wr : World) (g q T : Nat) (s : Value) (bs : List Nat) (x y : Value) : Prop :=
  Only w0 wr g ∧
  ((y = .bool false ∧ ∃ p, p ≤ T ∧ Rh wr g s bs p false ∧ Rest q T p x) ∨ (y = .bool true ∧ Rh wr g (.slice none 0 0) [] 0 true ∧ ∃ a l c, x = .slice a l c))

theorem pl_is {w : World} {s : Value} {bs : List Nat} (h : Pl w s bs) (hx : s = .slice none 0 0 ∨ ∃ ad c, s = .slice (some ad) bs.length c) : Is w s bs := by
  rcases h with ⟨rfl, a, c, rfl⟩ | ⟨h0, b, off, c, rfl, hl, hc⟩
  · rcases hx with h | ⟨ad, c', h⟩
    · exact .inl ⟨h, rfl⟩
    · exact .inr ⟨ad, c', h, fun j u hj => by simp [u8s] at hj⟩
  · refine .inr ⟨⟨b, off, none⟩, c, rfl, fun j u hj => ?_⟩
    have hjl : j < bs.length := by
      by_cases hjl : j < bs.length
      · exact hjl
      · rw [List.getElem?_eq_none (by rw [u8s_len]; omega)] at hj; cases hj
    rw [u8s_get bs j hjl] at hj
    cases hj
    rw [show (⟨b, off, none⟩ : Addr).add j = ⟨b, off + j, none⟩ from by unfold Addr.add; split <;> simp_all]
    exact hc j hjl

theorem left_bad (w : World) (g : Nat) (h : Rh w g (.slice none 0 0) [] 0 true) : Calls Try.prog 21 #[.pointer (some ⟨g, 0, none⟩)] w fun e w' => e = .returned (.int .i64 0) ∧ ∃ n, w' = w.drewN n := left21 w g _ [] 0 true h (Nat.zero_le _) (by decide)
theorem left_rest {w : World} {g T p n lf : Nat} {s : Value} {bs : List Nat} (h : Rh w g s bs (p + n) false) (hT : T = 8 * bs.length) (hl : lf = T - p) (hp : p ≤ T) (hn : n ≤ lf) (hb : T ≤ 8388608) :
    Calls Try.prog 21 #[.pointer (some ⟨g, 0, none⟩)] w fun e w' => e = .returned (.int .i64 ((lf - n : Nat) : Int)) ∧ ∃ n, w' = w.drewN n := by
  have := left21 w g s bs (p + n) false h (by omega) (by omega)
  rwa [show 8 * bs.length - (p + n) = lf - n from by omega] at this

set_option maxRecDepth 100000 in
set_option maxHeartbeats 1000000 in
theorem reads4 (W : World) (s0 : Value) (bs : List Nat) (hs : Pl W s0 bs) (hx : s0 = .slice none 0 0 ∨ ∃ ad c, s0 = .slice (some ad) bs.length c) (hb : ∀ x ∈ bs, x < 256) (hl : bs.length ≤ 1048576)
    (a : Option Addr) (len cap : Nat) (Z : Nat → Int) (h : Is64 W a len Z) (hl2 : len ≤ 1048576) :
    Calls Try.prog 4 #[s0, .slice a len cap] W fun e w' => e = .returned (.bool true) ∧ Below W.heap.size W w' := by
  obtain ⟨hZ, hcell⟩ := h
  have HZ := Lib.hid hZ
  have HC := Lib.hid hcell
  clear hZ hcell
  go_enter Try.func4, Try.ntmps4
  go_wp2_with (go_at_call 9; refine (awake9 _).mono ?_; rintro e w1 ⟨rfl, b1⟩)
  refine (new16 w1 s0 bs (pl_is (hs.below b1) hx) (by omega)).mono ?_
  rintro e w2 ⟨g, s, rfl, hR, hg, ho, b2⟩
  have B2 := b1.trans (b2.mono b1.size)
  have hgW : W.heap.size ≤ g := Nat.le_trans b1.size hg
  have HR2 := Lib.hid hR
  have hg2 := hR.lt
  have P2 := Lib.hid (hs.below B2)
  clear hR hg ho b1 b2 hs
  go_wp2_with fail
  refine (of17 w2 s0 bs P2.out hb hl).mono ?_
  rintro e w3 ⟨x3, rfl, ho3, b3⟩
  have hsl : ∃ q a3 c3, x3 = .slice a3 (8 * bs.length) c3 ∧ Rest q (8 * bs.length) 0 x3 ∧ (0 < 8 * bs.length → q ≠ g ∧ q < w3.heap.size) ∧ ∀ i, i < 8 * bs.length → w3.cell? ⟨q, i, none⟩ = some (.int .u8 (b2n (bb bs i) : Nat)) := by
    by_cases h0 : 8 * bs.length = 0
    · rcases Go.Joins.ownsRow_forms ho3 with ⟨rfl, _⟩ | ⟨q, c, rfl⟩
      · exact ⟨0, _, _, by rw [h0], .inl ⟨h0, _, _, rfl⟩, fun h => by omega, fun i hi => by omega⟩
      · exact ⟨0, _, _, rfl, .inl ⟨h0, _, _, by rw [h0]⟩, fun h => by omega, fun i hi => by omega⟩
    · obtain ⟨q, c, rfl⟩ := Go.Joins.ownsRow_form ho3 (by omega)
      have hq := ho3.lt q rfl
      refine ⟨q, _, _, rfl, .inr ⟨by omega, c, rfl, ?_⟩, fun _ => ⟨by omega, hq.2⟩, fun i hi => ?_⟩
      · obtain ⟨_, ⟨_, h⟩ | ⟨_, _, _, e, _, _, h, _⟩⟩ := ho3
        · omega
        · simp only [Value.slice.injEq, true_and] at e
          omega
      · rw [ho3.cellAt i (by omega), u8s_get _ _ (by rw [bl_len]; exact hi), bl_get _ hi]
  obtain ⟨q, a3, c3, rfl, hrest, hqg, hq⟩ := hsl
  have HR3 : Hid (Rh w3 g s bs 0 false) := by
    have hb3 := b3.block g hg2
    have h := HR2.out
    obtain ⟨B, hob⟩ := h.own
    exact Lib.hid ⟨Nat.lt_of_lt_of_le hg2 b3.size, (World.cell?_of_block hb3).trans h.c0, (World.cell?_of_block hb3).trans h.c1, (World.cell?_of_block hb3).trans h.c2, (World.frozen?_of_block hb3).trans h.z0, (World.frozen?_of_block hb3).trans h.z1, (World.frozen?_of_block hb3).trans h.z2, h.ne, B, own_below hob b3⟩
  have HB3 := Lib.hid (B2.trans (b3.mono B2.size))
  have HREST := Lib.hid hrest
  have HQG := Lib.hid hqg
  have HQ := Lib.hid hq
  have HBS := Lib.hid (has_bb hb)
  obtain ⟨T, hT⟩ : ∃ T, T = 8 * bs.length := ⟨_, rfl⟩
  rw [← hT] at HREST HQ HQG ⊢
  have HT := Lib.hid hT
  clear hrest hqg hq hT ho3 b3 B2 P2 hx hb
  go_wp2_with fail
  go_loopw [6, 7, 20] (fun x y i wr => ∃ j, j ≤ len ∧ i = .int .i64 (j : Nat) ∧ St w3 wr g q T s bs x y) (fun _ _ i _ => len - (intOf i).toNat)
  case atStart => exact ⟨0, Nat.zero_le _, rfl, Only.refl _ _, .inl ⟨rfl, 0, Nat.zero_le _, HR3.out, HREST.out⟩⟩
  case round =>
    obtain ⟨j, hj, rfl, hO, hst⟩ := hrel
    have HO := Lib.hid hO
    clear HREST HR3
    have hTl : T ≤ 8388608 := by have := HT.out; omega
    by_cases hjl : j < len
    · obtain ⟨b, off, rfl, hbW, hcell⟩ := HC.out.resolve_left (by omega)
      have e1 := hcell j hjl
      have hbW3 : b < w3.heap.size := by have := HB3.out.size; omega
      rw [← HB3.out.cell (by exact hbW), ← World.cell?_of_block (hO.block b hbW3 (by omega))] at e1
      obtain ⟨hn1, hn2⟩ := HZ.out j
      obtain ⟨n, hne⟩ : ∃ n, n = Z j := ⟨_, rfl⟩
      rw [← hne] at hn1 hn2 e1
      clear hne hcell hO
      rcases hst with ⟨rfl, p, hp, hR, hrest⟩ | ⟨rfl, hR, a4, l4, c4, rfl⟩
      · have hLEFT := left21 wr g s bs p false hR (by rw [← HT.out]; exact hp) (by omega)
        rw [← HT.out] at hLEFT
        have HLEFT := Lib.hid hLEFT
        have HR := Lib.hid hR
        have hform : ∃ a4 c4, u6 = .slice a4 (T - p) c4 := by
          rcases hrest with ⟨rfl, a4, c4, rfl⟩ | ⟨_, c4, rfl, _⟩
          · exact ⟨a4, c4, by rw [Nat.sub_self]⟩
          · exact ⟨_, _, rfl⟩
        by_cases hn : n < 1 ∨ 64 < n
        · -- no bits are asked for
          obtain ⟨a4, c4, rfl⟩ := hform
          have HG := Lib.hid (get_none wr g s bs p hR n hn)
          have HRE := Lib.hid hrest
          clear hR hrest hLEFT
          obtain ⟨lf, hlf⟩ : ∃ lf, lf = T - p := ⟨_, rfl⟩
          rw [← hlf] at HLEFT HRE ⊢
          clear hlf
          rcases hn with hn | hn
          all_goals
            go_wp2_with (first
              | (go_at_call 19; refine HG.out.mono ?_; rintro e w5 ⟨rfl, rfl⟩)
              | (go_at_call 20; refine (bad20 _ _ _ _ _ _ HR.out).mono ?_; rintro e w6 ⟨rfl, rfl⟩)
              | (go_at_call 21; refine HLEFT.out.mono ?_; rintro e w7 ⟨rfl, n7, rfl⟩))
            go_roundw
            case rel => exact ⟨j + 1, by omega, by go_num, HO.out.drewN _, .inl ⟨rfl, p, hp, HR.out.drewN _, HRE.out⟩⟩
            case measure => simp [intOf]; omega
        · by_cases hfew : ((T - p : Nat) : Int) < n
          · -- too few bits are left
            obtain ⟨a4, c4, rfl⟩ := hform
            have HG := Lib.hid (get_few wr g s bs p hR n (by omega) (by omega) (by rw [← HT.out]; exact hp) (by omega) (by rw [← HT.out]; exact hfew))
            clear hR hrest hLEFT HLEFT
            have hn1' : ¬ n < 1 := by omega
            have hn2' : n ≤ 64 := by omega
            obtain ⟨lf, hlf⟩ : ∃ lf, lf = T - p := ⟨_, rfl⟩
            rw [← hlf] at hfew ⊢
            clear hlf hn
            go_wp2_with (first
              | (go_at_call 19; refine HG.out.mono ?_; rintro e w5 ⟨rfl, h5, o5⟩; have H5 := Lib.hid h5; clear h5)
              | (go_at_call 20; refine (bad20 _ _ _ _ _ _ H5.out).mono ?_; rintro e w6 ⟨rfl, rfl⟩)
              | (go_at_call 21; refine (left_bad _ _ H5.out).mono ?_; rintro e w7 ⟨rfl, n7, rfl⟩))
            go_roundw
            case rel => exact ⟨j + 1, by omega, by go_num, (HO.out.trans o5).drewN _, .inr ⟨rfl, H5.out.drewN _, _, _, _, rfl⟩⟩
            case measure => simp [intOf]; omega
          · -- the next bits
            clear hform
            rcases hrest with ⟨rfl, _⟩ | ⟨hpT, c4, rfl, hc4⟩
            · exact absurd hn (by omega)
            obtain ⟨n', rfl⟩ := Int.eq_ofNat_of_zero_le (show 0 ≤ n by omega)
            have hcells : ∀ i, i < T - p → wr.cell? ⟨q, p + i, none⟩ = some (.int .u8 (b2n (bb bs (p + i)) : Nat)) := by
              intro i hi
              have hqq := HQG.out (by omega)
              rw [World.cell?_of_block (HO.out.block q hqq.2 hqq.1)]
              exact HQ.out (p + i) (by omega)
            have h18 := rget18 wr q p (T - p) c4 n' (bb bs) hcells (by omega) (by omega)
            have h19 := get_ok wr g s bs p n' (bb bs) hR HBS.out (by omega) (by omega) (by rw [← HT.out]; omega) (by omega)
            obtain ⟨lf, hlf⟩ : ∃ lf, lf = T - p := ⟨_, rfl⟩
            obtain ⟨R, hRe⟩ : ∃ R, R = num (bb bs) p n' := ⟨_, rfl⟩
            rw [← hlf, ← hRe] at h18
            rw [← hRe] at h19
            have H18 := Lib.hid h18
            have H19 := Lib.hid h19
            rw [← hlf] at hfew hc4 ⊢
            have HLF := Lib.hid hlf
            have hn1' : ¬ (n' : Int) < 1 := by omega
            have hn2' : (n' : Int) ≤ 64 := by omega
            have hnl : (n' : Int) ≤ (lf : Int) := by omega
            clear h18 h19 hlf hRe hcells hR hLEFT HLEFT hn hfew HR
            by_cases hcn : c4 = n'
            case' pos => subst hcn
            all_goals
              go_wp2_with (first
                | (go_at_call 18; refine H18.out.mono ?_; rintro e w4 ⟨rfl, rfl⟩)
                | (go_at_call 19; refine H19.out.mono ?_; rintro e w5 ⟨rfl, h5, o5⟩; have H5 := Lib.hid h5; clear h5)
                | (go_at_call 20; refine (bad20 _ _ _ _ _ _ H5.out).mono ?_; rintro e w6 ⟨rfl, rfl⟩)
                | (go_at_call 21; refine (left_rest H5.out HT.out HLF.out hp (by omega) hTl).mono ?_; rintro e w7 ⟨rfl, n7, rfl⟩))
              go_roundw
              case rel =>
                refine ⟨j + 1, by omega, by go_num, (HO.out.trans o5).drewN _, .inl ⟨rfl, p + _, ?_, H5.out.drewN _, ?_⟩⟩
                · have := HLF.out; omega
                · have hlf := HLF.out
                  first
                  | exact .inl ⟨by omega, _, _, rfl⟩
                  | (by_cases hz : lf = n'
                     · exact .inl ⟨by omega, _, _, by rw [hz, Nat.sub_self]⟩
                     · exact .inr ⟨by omega, _, by rw [show T - (p + n') = lf - n' from by omega], by omega⟩)
              case measure => simp [intOf]; omega
      · have HR := Lib.hid hR
        have HG := Lib.hid (get_bad wr g _ [] 0 hR n)
        clear hR
        go_wp2_with (first
          | (go_at_call 19; refine HG.out.mono ?_; rintro e w5 ⟨rfl, rfl⟩)
          | (go_at_call 20; refine (bad20 _ _ _ _ _ _ HR.out).mono ?_; rintro e w6 ⟨rfl, rfl⟩)
          | (go_at_call 21; refine (left_bad _ _ HR.out).mono ?_; rintro e w7 ⟨rfl, n7, rfl⟩))
        go_roundw
        case rel => exact ⟨j + 1, by omega, by go_num, HO.out.drewN _, .inr ⟨rfl, HR.out.drewN _, _, _, _, rfl⟩⟩
        case measure => simp [intOf]; omega
    · obtain rfl : j = len := by omega
      clear hst
      go_wp2_with fail
      go_ret
      exact ⟨rfl, HB3.out.trans (HO.out.below hgW HB3.out.size)⟩
end Lr
end Go.Proofs.Ytbpkoneenihfcaa
