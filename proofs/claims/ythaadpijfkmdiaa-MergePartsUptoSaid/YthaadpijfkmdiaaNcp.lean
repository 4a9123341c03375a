/- join: two runs as one. -/
import Derived.Test.YthaadpijfkmdiaaNa
import Derived.Deep.DeepCutAuto
import Derived.Deep.RegionHeldLaw
namespace Go.Proofs.Ythaadpijfkmdiaa
open Go.RowKit
namespace Ncp
open Jb La Nm Na

theorem infoE : (Try.prog.info? 44).map (fun i => (i.zero, i.size, i.bytes)) = some (some (.agg #[.string ⟨#[]⟩, .string ⟨#[]⟩, .slice none 0 0, .int .i64 0]), 4, 64) := by kernel_rfl
/-- What the comparing function answers. -/
def Ord {β : Type} (key : V4 → β) (lt : β → β → Bool) (D : V4 → Prop) : Prop := ∀ x y, D x → D y → ∀ w, Calls Try.prog 13 #[a4 x, a4 y] w fun e w' => e = .returned (.int .i64 (cm key lt x y)) ∧ Below w.heap.size w w'
theorem own_base {w : World} {B B' n : Nat} {e : TypeId} {v : Value} {xs : List Value} (h : w.ownsRow B e 4 v n xs) (hb : B' ≤ B) : w.ownsRow B' e 4 v n xs := by
  obtain ⟨h1, h2⟩ := h
  refine ⟨h1, h2.imp id ?_⟩
  rintro ⟨g, cap, cur, e1, e2, e3⟩
  exact ⟨g, cap, cur, e1, Nat.le_trans hb e2, e3⟩
theorem own_below4 {w w' : World} {B n : Nat} {e : TypeId} {v : Value} {xs : List Value} (h : w.ownsRow B e 4 v n xs) (b : Below w.heap.size w w') : w'.ownsRow B e 4 v n xs :=
  h.kept (row := none) ⟨b.os, b.tape, b.output, b.size, fun k hk _ => b.block k hk⟩ (by
    by_cases e : v.ownBlock = none
    · exact .inl e
    · exact .inr e)
set_option maxRecDepth 100000
set_option maxHeartbeats 8000000
theorem join27 {β : Type} (key : V4 → β) (lt : β → β → Bool) (D : V4 → Prop) (HO : Ord key lt D) (_ : Lin lt) (w : World) (av bv : Value) (A B : List V4) (hA : Sl w av A) (hB : Sl w bv B)
    (dA : ∀ x ∈ A, D x ∧ One x) (dB : ∀ x ∈ B, D x ∧ One x) (hn : (A.length + B.length) * 64 ≤ 1000000000000) :
    Calls Try.prog 27 #[.func (.func 13) #[] #[], av, bv] w fun e w' => ∃ r, e = .returned r ∧ w'.ownsRow w.heap.size 44 4 r (mrg key lt A B).length (c4s (mrg key lt A B)) ∧ Below w.heap.size w w' := by
  obtain ⟨i0, hi, hz0, hz1, hz2⟩ := info_parts infoE
  obtain ⟨aa, ac, rfl⟩ := hA.forms
  obtain ⟨ba, bc, rfl⟩ := hB.forms
  obtain ⟨n, hN⟩ : ∃ n, n = A.length := ⟨_, rfl⟩
  obtain ⟨m, hM⟩ : ∃ m, m = B.length := ⟨_, rfl⟩
  have hA' := Lib.hid (show Sl w (.slice aa n ac) A by rw [hN]; exact hA)
  have hB' := Lib.hid (show Sl w (.slice ba m bc) B by rw [hM]; exact hB)
  have HS := Lib.hid (show A.length + B.length ≤ n + m by omega)
  obtain ⟨R, hR⟩ : ∃ R, R = mrg key lt A B := ⟨_, rfl⟩
  have HR := Lib.hid hR.symm
  rw [← hR]
  rw [← hN, ← hM] at hn ⊢
  have DA := Lib.hid dA
  have DB := Lib.hid dB
  have hb9 : n + m ≤ 1000000000000 := by omega
  have HO0 := Lib.hid HO
  clear hA hB hN hM hR dA dB HO
  go_enter Try.func27, Try.ntmps27
  go_wp2_with (at_make; refine wpList_make_own _ rfl _ _ 38 rfl w.heap.size 44 i0 _ 4 Try.underlying38 hi hz0 hz1 .i64 .i64 ((n : Int) + (m : Int)) (n + m) rfl rfl (by omega) (by rw [hz2]; omega) (by unfold maxLen; omega) (Nat.le_refl _) ?_)
  intro w1 o1 g1
  have b1 : Below w.heap.size w w1 := (Below.refl _ w).grown g1 (Nat.le_refl _) (fun j ej => by cases ej)
  have B1 := Lib.hid b1
  have O1 := Lib.hid o1
  clear o1 g1 b1
  go_wp2_with fail
  go_loopw [1, 2, 7, 8] (fun ev lv o _ wr => ∃ (LA LB acc : List V4), Hid (Sl w ev LA) ∧ Hid (Sl w lv LB) ∧ Hid (∀ x ∈ LA, D x ∧ One x) ∧ Hid (∀ x ∈ LB, D x ∧ One x) ∧ Hid (wr.ownsRow w.heap.size 44 4 o acc.length (c4s acc)) ∧ Hid (acc ++ mrg key lt LA LB = R) ∧ Hid (acc.length + LA.length + LB.length ≤ n + m) ∧ Hid (Below w.heap.size w wr)) (fun ev lv _ _ _ => lenOf ev + lenOf lv)
  case atStart => exact ⟨A, B, [], hA', hB', DA, DB, Lib.hid O1.out, Lib.hid HR.out, Lib.hid (by have := HS.out; simp; omega), B1⟩
  case round =>
    obtain ⟨LA, LB, acc, HA, HB, EA, EB, HO, HM, HL2, HW⟩ := hrel
    obtain ⟨wa, rfl⟩ : ∃ wa, wa = wr := ⟨_, rfl⟩
    obtain ⟨oa, oc, ho⟩ := own_forms HO.out
    subst ho
    by_cases hex : LA = [] ∨ LB = []
    · have HEX := Lib.hid (show acc ++ LA ++ LB = R by
        rw [← HM.out, List.append_assoc]
        rcases hex with rfl | rfl
        · rw [mrg_nil]; rfl
        · rw [mrg_nil2]; simp)
      obtain ⟨ea, ec, he⟩ := HA.out.forms
      obtain ⟨la, lc, hl⟩ := HB.out.forms
      by_cases h0 : LA.length = 0
      · rw [h0] at he
        subst he hl
        go_wp2_with (at_builtin; refine wpList_append_sl rfl (.tmp 51) (.tmp 52) 38 rfl w.heap.size 44 i0 _ 64 Try.underlying38 hi hz0 hz1 hz2 rfl _ acc.length (c4s acc) rfl HO.out _ LA rfl (HA.out.below HW.out (Nat.le_refl _)) (fun x hx => (EA.out x hx).2) (by have := HL2.out; unfold maxLen; omega) (by have := HL2.out; omega) HW.out.size ?_)
        intro v2 w2 o2 g2
        have B2 := Lib.hid (HW.out.grown g2 HW.out.size (fun j ej => (La.own_lt HO.out ej).1))
        have SB := Lib.hid (HB.out.below B2.out (Nat.le_refl _))
        obtain ⟨oa2, oc2, ho2⟩ := own_forms o2
        subst ho2
        have O2 := Lib.hid o2
        clear o2 g2
        go_wp2_with (at_builtin; refine wpList_append_sl rfl (.tmp 54) (.tmp 55) 38 rfl w.heap.size 44 i0 _ 64 Try.underlying38 hi hz0 hz1 hz2 rfl _ _ _ rfl O2.out _ LB rfl SB.out (fun x hx => (EB.out x hx).2) (by have := HL2.out; unfold maxLen; omega) (by have := HL2.out; omega) B2.out.size ?_)
        intro v3 w3 o3 g3
        have B3 := Lib.hid (B2.out.grown g3 B2.out.size (fun j ej => (La.own_lt O2.out ej).1))
        have O3 := Lib.hid o3
        clear o3 g3
        go_wp2_with fail
        go_ret
        refine ⟨_, rfl, ?_, B3.out⟩
        have h := O3.out
        rw [← HEX.out]
        simp only [List.length_append, c4s_app, List.append_assoc, h0, Nat.zero_add] at h ⊢
        exact h
      · have h1 : LB.length = 0 := by rcases hex with rfl | rfl <;> simp_all
        rw [h1] at hl
        subst he hl
        have h0' : (0 : Int) < (LA.length : Int) := by omega
        go_wp2_with (at_builtin; refine wpList_append_sl rfl (.tmp 51) (.tmp 52) 38 rfl w.heap.size 44 i0 _ 64 Try.underlying38 hi hz0 hz1 hz2 rfl _ acc.length (c4s acc) rfl HO.out _ LA rfl (HA.out.below HW.out (Nat.le_refl _)) (fun x hx => (EA.out x hx).2) (by have := HL2.out; unfold maxLen; omega) (by have := HL2.out; omega) HW.out.size ?_)
        intro v2 w2 o2 g2
        have B2 := Lib.hid (HW.out.grown g2 HW.out.size (fun j ej => (La.own_lt HO.out ej).1))
        have SB := Lib.hid (HB.out.below B2.out (Nat.le_refl _))
        obtain ⟨oa2, oc2, ho2⟩ := own_forms o2
        subst ho2
        have O2 := Lib.hid o2
        clear o2 g2
        go_wp2_with (at_builtin; refine wpList_append_sl rfl (.tmp 54) (.tmp 55) 38 rfl w.heap.size 44 i0 _ 64 Try.underlying38 hi hz0 hz1 hz2 rfl _ _ _ rfl O2.out _ LB rfl SB.out (fun x hx => (EB.out x hx).2) (by have := HL2.out; unfold maxLen; omega) (by have := HL2.out; omega) B2.out.size ?_)
        intro v3 w3 o3 g3
        have B3 := Lib.hid (B2.out.grown g3 B2.out.size (fun j ej => (La.own_lt O2.out ej).1))
        have O3 := Lib.hid o3
        clear o3 g3
        go_wp2_with fail
        go_ret
        refine ⟨_, rfl, ?_, B3.out⟩
        have h := O3.out
        rw [← HEX.out]
        simp only [List.length_append, c4s_app, List.append_assoc, h1, Nat.add_zero] at h ⊢
        exact h
    · obtain ⟨x, LA', rfl⟩ : ∃ x L, LA = x :: L := by
        cases LA with
        | nil => exact absurd (.inl rfl) hex
        | cons x L => exact ⟨x, L, rfl⟩
      obtain ⟨y, LB', rfl⟩ : ∃ x L, LB = x :: L := by
        cases LB with
        | nil => exact absurd (.inr rfl) hex
        | cons x L => exact ⟨x, L, rfl⟩
      have EAx := EA
      have EBy := EB
      obtain ⟨dx, ox⟩ := EA.out x (by simp)
      obtain ⟨dy, oy⟩ := EB.out y (by simp)
      have EA2 := Lib.hid (show ∀ z ∈ LA', D z ∧ One z from fun z hz => EA.out z (by simp [hz]))
      have EB2 := Lib.hid (show ∀ z ∈ LB', D z ∧ One z from fun z hz => EB.out z (by simp [hz]))
      have hbd := HL2.out
      simp only [List.length_cons] at hbd
      obtain ⟨xb, xo, xc, rfl, xh, xs, xat, xsl, xall⟩ : ∃ b off c, u1 = .slice (some ⟨b, off, none⟩) (LA'.length + 1) c ∧ LA'.length + 1 ≤ c ∧ b < w.heap.size ∧ At4 w b off x ∧ Sl w (.slice (some ⟨b, off + 4, none⟩) LA'.length (c - 1)) LA' ∧ Sl w (.slice (some ⟨b, off, none⟩) (LA'.length + 1) c) (x :: LA') := by
        rcases HA.out with ⟨_, _, _, h, _⟩ | ⟨b, off, c, e, _⟩
        · cases h
        · have h := HA.out
          rw [e] at h
          obtain ⟨h1, h2, h3, h4, h5⟩ := sl_tail h
          exact ⟨b, off, c, e, h2, h3, h4, by simpa using h5, h⟩
      obtain ⟨yb, yo, yc, rfl, yh, ys, yat, ysl, yall⟩ : ∃ b off c, u2 = .slice (some ⟨b, off, none⟩) (LB'.length + 1) c ∧ LB'.length + 1 ≤ c ∧ b < w.heap.size ∧ At4 w b off y ∧ Sl w (.slice (some ⟨b, off + 4, none⟩) LB'.length (c - 1)) LB' ∧ Sl w (.slice (some ⟨b, off, none⟩) (LB'.length + 1) c) (y :: LB') := by
        rcases HB.out with ⟨_, _, _, h, _⟩ | ⟨b, off, c, e, _⟩
        · cases h
        · have h := HB.out
          rw [e] at h
          obtain ⟨h1, h2, h3, h4, h5⟩ := sl_tail h
          exact ⟨b, off, c, e, h2, h3, h4, by simpa using h5, h⟩
      have XY := Lib.hid (show ∀ W, Below w.heap.size w W → (W.cell? ⟨xb, xo, none⟩ = some x.1 ∧ W.cell? ⟨xb, xo + 1, none⟩ = some x.2.1 ∧ W.cell? ⟨xb, xo + 2, none⟩ = some x.2.2.1 ∧ W.cell? ⟨xb, xo + 3, none⟩ = some x.2.2.2) ∧ (W.cell? ⟨yb, yo, none⟩ = some y.1 ∧ W.cell? ⟨yb, yo + 1, none⟩ = some y.2.1 ∧ W.cell? ⟨yb, yo + 2, none⟩ = some y.2.2.1 ∧ W.cell? ⟨yb, yo + 3, none⟩ = some y.2.2.2) from fun W hW => ⟨xat.of_block (hW.block xb xs), yat.of_block (hW.block yb ys)⟩)
      have XS := Lib.hid xsl
      have YS := Lib.hid ysl
      have CS := Lib.hid (show (cm key lt x y = -1 ∧ acc ++ [x] ++ mrg key lt LA' (y :: LB') = R) ∨ (cm key lt x y = 1 ∧ acc ++ [y] ++ mrg key lt (x :: LA') LB' = R) ∨ (cm key lt x y = 0 ∧ acc ++ [y] ++ mrg key lt LA' LB' = R) by
        have h := HM.out
        unfold cm
        cases e1 : lt (key x) (key y) with
        | true => rw [mrg_lt _ _ e1] at h; exact .inl ⟨by simp, by rw [← h]; simp⟩
        | false =>
          cases e2 : lt (key y) (key x) with
          | true => rw [mrg_gt _ _ e1 e2] at h; exact .inr (.inl ⟨by simp, by rw [← h]; simp⟩)
          | false => rw [mrg_eq _ _ e1 e2] at h; exact .inr (.inr ⟨by simp, by rw [← h]; simp⟩))
      have CO9 := Lib.hid (fun W => HO0.out x y dx dy W)
      have SX := Lib.hid xall
      have SY := Lib.hid yall
      have ox' := Lib.hid ox
      have oy' := Lib.hid oy
      have k0 := XY.out wa.drew HW.out.drew
      obtain ⟨p, hp⟩ : ∃ p, p = LA'.length := ⟨_, rfl⟩
      obtain ⟨q, hq⟩ : ∃ q, q = LB'.length := ⟨_, rfl⟩
      rw [← hp] at xh XS SX hbd ⊢
      rw [← hq] at yh YS SY hbd ⊢
      have HP := Lib.hid hp
      have HQ := Lib.hid hq
      obtain ⟨x0, x1, x2, x3⟩ := x
      obtain ⟨y0, y1, y2, y3⟩ := y
      simp only at k0
      have OEx := Lib.hid (show ∀ u ∈ c4 (x0, x1, x2, x3), u.oneCell' = true from ox'.out)
      have OEy := Lib.hid (show ∀ u ∈ c4 (y0, y1, y2, y3), u.oneCell' = true from oy'.out)
      clear hex EA EB dx ox dy oy xat yat xsl ysl xall yall HL2 hp hq HA HB ox' oy'
      rcases CS.out with ⟨hcm, hmn⟩ | ⟨hcm, hmn⟩ | ⟨hcm, hmn⟩
      · have CO := Lib.hid (show ∀ W, Calls Try.prog 13 #[.agg #[x0, x1, x2, x3], .agg #[y0, y1, y2, y3]] W fun e w' => e = .returned (.int .i64 (-1)) ∧ Below W.heap.size W w' from fun W => by have := CO9.out W; rw [hcm] at this; exact this)
        have HMN := Lib.hid hmn
        have KY := Lib.hid (show ∀ W, Below wa.drew.heap.size wa.drew W → Below w.heap.size w W from fun W hW => HW.out.drew.trans (hW.mono HW.out.size))
        have hone := OEx.out
        clear hcm hmn
        go_upto_region 3 with (fail)
        go_region_held_law (fun W : World => (W.cell? ⟨xb, xo, none⟩ = some x0 ∧ W.cell? ⟨xb, xo + 1, none⟩ = some x1 ∧ W.cell? ⟨xb, xo + 2, none⟩ = some x2 ∧ W.cell? ⟨xb, xo + 3, none⟩ = some x3) ∧ (W.cell? ⟨yb, yo, none⟩ = some y0 ∧ W.cell? ⟨yb, yo + 1, none⟩ = some y1 ∧ W.cell? ⟨yb, yo + 2, none⟩ = some y2 ∧ W.cell? ⟨yb, yo + 3, none⟩ = some y3))
          (first | exact k0 | exact kY)
          (first | (go_at_call 13; refine (CO.out _).mono ?_; rintro e w3 ⟨rfl, b3⟩; have B3 := Lib.hid (KY.out w3 b3); have G3 := Lib.hid b3; have kY := XY.out w3 B3.out; clear b3))
        obtain ⟨⟨z0, z1, z2, z3⟩, ⟨v0, v1, v2, v3⟩⟩ := kY
        obtain ⟨wb, hwb⟩ : ∃ wb, wb = w3 := ⟨_, rfl⟩
        have O3 := Lib.hid (own_below4 HO.out.drew G3.out)
        have bA := (Below.refl w3.heap.size w3).alloc (Nat.le_refl _) (.cells #[x0, x1, x2, x3] 44)
        have hh := heap_alloc_new w3 (.cells #[x0, x1, x2, x3] 44)
        have OW4 := Lib.hid (O3.out.alloc (.cells #[x0, x1, x2, x3] 44))
        have NEWC : ∀ j u, (c4 (x0, x1, x2, x3))[j]? = some u → (w3.alloc (.cells #[x0, x1, x2, x3] 44)).cell? ((⟨w3.heap.size, 0, none⟩ : Addr).add j) = some u := fun j u hj => by
          match j, hj with
          | 0, hj => cases hj; exact cell_at hh 0
          | 1, hj => cases hj; exact cell_at hh 1
          | 2, hj => cases hj; exact cell_at hh 2
          | 3, hj => cases hj; exact cell_at hh 3
        go_wp2_with (at_builtin; refine wpList_append_own _ rfl (.tmp 33) (.tmp 37) 38 rfl w.heap.size 44 i0 _ 4 64 Try.underlying38 hi hz0 hz1 hz2 rfl (by decide) (.slice oa acc.length oc) acc.length (c4s acc) (by simp [Act.eval]) OW4.out ⟨w3.heap.size, 0, none⟩ 1 1 (c4 (x0, x1, x2, x3)) (by simp [Act.eval]) rfl NEWC hone (by unfold maxLen; omega) (by omega) (by have := B3.out.size; simp; omega) ?_)
        intro v4 w4 o4 g4 _
        have B4 := Lib.hid ((B3.out.alloc B3.out.size (.cells #[x0, x1, x2, x3] 44)).grown g4 (by have := B3.out.size; simp; omega) (fun j ej => (La.own_lt OW4.out ej).1))
        have O4 := Lib.hid (show w4.ownsRow w.heap.size 44 4 v4 (acc ++ [(x0, x1, x2, x3)]).length (c4s (acc ++ [(x0, x1, x2, x3)])) by rw [c4s_snoc, List.length_append]; exact o4)
        clear o4 g4 NEWC hh bA OW4
        obtain ⟨a4', c4', h4'⟩ := own_forms O4.out
        subst h4'
        by_cases hxc : xc = 1
        · subst hxc
          obtain rfl : p = 0 := by omega
          have XT := Lib.hid (show Sl w (.slice (some ⟨xb, xo, none⟩) 0 0) LA' from .inl ⟨_, _, rfl, List.length_eq_zero_iff.1 HP.out.symm, fun h => by cases h⟩)
          go_wp2_with fail
          go_roundw
          case rel => exact ⟨LA', ((y0, y1, y2, y3) :: LB'), acc ++ [(x0, x1, x2, x3)], Lib.hid (XT.out), Lib.hid (SY.out), EA2, EBy, O4, HMN, Lib.hid (by have := HP.out; have := HQ.out; simp only [List.length_append, List.length_cons, List.length_nil]; omega), B4⟩
          case measure => simp [lenOf]; try omega
        · have XT := XS
          go_wp2_with fail
          go_roundw
          case rel => exact ⟨LA', ((y0, y1, y2, y3) :: LB'), acc ++ [(x0, x1, x2, x3)], Lib.hid (XT.out), Lib.hid (SY.out), EA2, EBy, O4, HMN, Lib.hid (by have := HP.out; have := HQ.out; simp only [List.length_append, List.length_cons, List.length_nil]; omega), B4⟩
          case measure => simp [lenOf]; try omega
      · have CO := Lib.hid (show ∀ W, Calls Try.prog 13 #[.agg #[x0, x1, x2, x3], .agg #[y0, y1, y2, y3]] W fun e w' => e = .returned (.int .i64 (1)) ∧ Below W.heap.size W w' from fun W => by have := CO9.out W; rw [hcm] at this; exact this)
        have HMN := Lib.hid hmn
        have KY := Lib.hid (show ∀ W, Below wa.drew.heap.size wa.drew W → Below w.heap.size w W from fun W hW => HW.out.drew.trans (hW.mono HW.out.size))
        have hone := OEy.out
        clear hcm hmn
        go_upto_region 3 with (fail)
        go_region_held_law (fun W : World => (W.cell? ⟨xb, xo, none⟩ = some x0 ∧ W.cell? ⟨xb, xo + 1, none⟩ = some x1 ∧ W.cell? ⟨xb, xo + 2, none⟩ = some x2 ∧ W.cell? ⟨xb, xo + 3, none⟩ = some x3) ∧ (W.cell? ⟨yb, yo, none⟩ = some y0 ∧ W.cell? ⟨yb, yo + 1, none⟩ = some y1 ∧ W.cell? ⟨yb, yo + 2, none⟩ = some y2 ∧ W.cell? ⟨yb, yo + 3, none⟩ = some y3))
          (first | exact k0 | exact kY)
          (first | (go_at_call 13; refine (CO.out _).mono ?_; rintro e w3 ⟨rfl, b3⟩; have B3 := Lib.hid (KY.out w3 b3); have G3 := Lib.hid b3; have kY := XY.out w3 B3.out; clear b3))
        obtain ⟨⟨z0, z1, z2, z3⟩, ⟨v0, v1, v2, v3⟩⟩ := kY
        obtain ⟨wb, hwb⟩ : ∃ wb, wb = w3 := ⟨_, rfl⟩
        have O3 := Lib.hid (own_below4 HO.out.drew G3.out)
        have bA := (Below.refl w3.heap.size w3).alloc (Nat.le_refl _) (.cells #[y0, y1, y2, y3] 44)
        have hh := heap_alloc_new w3 (.cells #[y0, y1, y2, y3] 44)
        have OW4 := Lib.hid (O3.out.alloc (.cells #[y0, y1, y2, y3] 44))
        have NEWC : ∀ j u, (c4 (y0, y1, y2, y3))[j]? = some u → (w3.alloc (.cells #[y0, y1, y2, y3] 44)).cell? ((⟨w3.heap.size, 0, none⟩ : Addr).add j) = some u := fun j u hj => by
          match j, hj with
          | 0, hj => cases hj; exact cell_at hh 0
          | 1, hj => cases hj; exact cell_at hh 1
          | 2, hj => cases hj; exact cell_at hh 2
          | 3, hj => cases hj; exact cell_at hh 3
        go_wp2_with (at_builtin; refine wpList_append_own _ rfl (.tmp 39) (.tmp 43) 38 rfl w.heap.size 44 i0 _ 4 64 Try.underlying38 hi hz0 hz1 hz2 rfl (by decide) (.slice oa acc.length oc) acc.length (c4s acc) (by simp [Act.eval]) OW4.out ⟨w3.heap.size, 0, none⟩ 1 1 (c4 (y0, y1, y2, y3)) (by simp [Act.eval]) rfl NEWC hone (by unfold maxLen; omega) (by omega) (by have := B3.out.size; simp; omega) ?_)
        intro v4 w4 o4 g4 _
        have B4 := Lib.hid ((B3.out.alloc B3.out.size (.cells #[y0, y1, y2, y3] 44)).grown g4 (by have := B3.out.size; simp; omega) (fun j ej => (La.own_lt OW4.out ej).1))
        have O4 := Lib.hid (show w4.ownsRow w.heap.size 44 4 v4 (acc ++ [(y0, y1, y2, y3)]).length (c4s (acc ++ [(y0, y1, y2, y3)])) by rw [c4s_snoc, List.length_append]; exact o4)
        clear o4 g4 NEWC hh bA OW4
        obtain ⟨a4', c4', h4'⟩ := own_forms O4.out
        subst h4'
        by_cases hyc : yc = 1
        · subst hyc
          obtain rfl : q = 0 := by omega
          have YT := Lib.hid (show Sl w (.slice (some ⟨yb, yo, none⟩) 0 0) LB' from .inl ⟨_, _, rfl, List.length_eq_zero_iff.1 HQ.out.symm, fun h => by cases h⟩)
          go_wp2_with fail
          go_roundw
          case rel => exact ⟨((x0, x1, x2, x3) :: LA'), LB', acc ++ [(y0, y1, y2, y3)], Lib.hid (SX.out), Lib.hid (YT.out), EAx, EB2, O4, HMN, Lib.hid (by have := HP.out; have := HQ.out; simp only [List.length_append, List.length_cons, List.length_nil]; omega), B4⟩
          case measure => simp [lenOf]; try omega
        · have YT := YS
          go_wp2_with fail
          go_roundw
          case rel => exact ⟨((x0, x1, x2, x3) :: LA'), LB', acc ++ [(y0, y1, y2, y3)], Lib.hid (SX.out), Lib.hid (YT.out), EAx, EB2, O4, HMN, Lib.hid (by have := HP.out; have := HQ.out; simp only [List.length_append, List.length_cons, List.length_nil]; omega), B4⟩
          case measure => simp [lenOf]; try omega
      · have CO := Lib.hid (show ∀ W, Calls Try.prog 13 #[.agg #[x0, x1, x2, x3], .agg #[y0, y1, y2, y3]] W fun e w' => e = .returned (.int .i64 (0)) ∧ Below W.heap.size W w' from fun W => by have := CO9.out W; rw [hcm] at this; exact this)
        have HMN := Lib.hid hmn
        have KY := Lib.hid (show ∀ W, Below wa.drew.heap.size wa.drew W → Below w.heap.size w W from fun W hW => HW.out.drew.trans (hW.mono HW.out.size))
        have hone := OEy.out
        clear hcm hmn
        go_upto_region 3 with (fail)
        go_region_held_law (fun W : World => (W.cell? ⟨xb, xo, none⟩ = some x0 ∧ W.cell? ⟨xb, xo + 1, none⟩ = some x1 ∧ W.cell? ⟨xb, xo + 2, none⟩ = some x2 ∧ W.cell? ⟨xb, xo + 3, none⟩ = some x3) ∧ (W.cell? ⟨yb, yo, none⟩ = some y0 ∧ W.cell? ⟨yb, yo + 1, none⟩ = some y1 ∧ W.cell? ⟨yb, yo + 2, none⟩ = some y2 ∧ W.cell? ⟨yb, yo + 3, none⟩ = some y3))
          (first | exact k0 | exact kY)
          (first | (go_at_call 13; refine (CO.out _).mono ?_; rintro e w3 ⟨rfl, b3⟩; have B3 := Lib.hid (KY.out w3 b3); have G3 := Lib.hid b3; have kY := XY.out w3 B3.out; clear b3))
        obtain ⟨⟨z0, z1, z2, z3⟩, ⟨v0, v1, v2, v3⟩⟩ := kY
        obtain ⟨wb, hwb⟩ : ∃ wb, wb = w3 := ⟨_, rfl⟩
        have O3 := Lib.hid (own_below4 HO.out.drew G3.out)
        have bA := (Below.refl w3.heap.size w3).alloc (Nat.le_refl _) (.cells #[y0, y1, y2, y3] 44)
        have hh := heap_alloc_new w3 (.cells #[y0, y1, y2, y3] 44)
        have OW4 := Lib.hid (O3.out.alloc (.cells #[y0, y1, y2, y3] 44))
        have NEWC : ∀ j u, (c4 (y0, y1, y2, y3))[j]? = some u → (w3.alloc (.cells #[y0, y1, y2, y3] 44)).cell? ((⟨w3.heap.size, 0, none⟩ : Addr).add j) = some u := fun j u hj => by
          match j, hj with
          | 0, hj => cases hj; exact cell_at hh 0
          | 1, hj => cases hj; exact cell_at hh 1
          | 2, hj => cases hj; exact cell_at hh 2
          | 3, hj => cases hj; exact cell_at hh 3
        go_wp2_with (at_builtin; refine wpList_append_own _ rfl (.tmp 39) (.tmp 43) 38 rfl w.heap.size 44 i0 _ 4 64 Try.underlying38 hi hz0 hz1 hz2 rfl (by decide) (.slice oa acc.length oc) acc.length (c4s acc) (by simp [Act.eval]) OW4.out ⟨w3.heap.size, 0, none⟩ 1 1 (c4 (y0, y1, y2, y3)) (by simp [Act.eval]) rfl NEWC hone (by unfold maxLen; omega) (by omega) (by have := B3.out.size; simp; omega) ?_)
        intro v4 w4 o4 g4 _
        have B4 := Lib.hid ((B3.out.alloc B3.out.size (.cells #[y0, y1, y2, y3] 44)).grown g4 (by have := B3.out.size; simp; omega) (fun j ej => (La.own_lt OW4.out ej).1))
        have O4 := Lib.hid (show w4.ownsRow w.heap.size 44 4 v4 (acc ++ [(y0, y1, y2, y3)]).length (c4s (acc ++ [(y0, y1, y2, y3)])) by rw [c4s_snoc, List.length_append]; exact o4)
        clear o4 g4 NEWC hh bA OW4
        obtain ⟨a4', c4', h4'⟩ := own_forms O4.out
        subst h4'
        by_cases hxc : xc = 1
        · subst hxc
          obtain rfl : p = 0 := by omega
          have XT := Lib.hid (show Sl w (.slice (some ⟨xb, xo, none⟩) 0 0) LA' from .inl ⟨_, _, rfl, List.length_eq_zero_iff.1 HP.out.symm, fun h => by cases h⟩)
          by_cases hyc : yc = 1
          · subst hyc
            obtain rfl : q = 0 := by omega
            have YT := Lib.hid (show Sl w (.slice (some ⟨yb, yo, none⟩) 0 0) LB' from .inl ⟨_, _, rfl, List.length_eq_zero_iff.1 HQ.out.symm, fun h => by cases h⟩)
            go_wp2_with fail
            go_roundw
            case rel => exact ⟨LA', LB', acc ++ [(y0, y1, y2, y3)], Lib.hid (XT.out), Lib.hid (YT.out), EA2, EB2, O4, HMN, Lib.hid (by have := HP.out; have := HQ.out; simp only [List.length_append, List.length_cons, List.length_nil]; omega), B4⟩
            case measure => simp [lenOf]; try omega
          · have YT := YS
            go_wp2_with fail
            go_roundw
            case rel => exact ⟨LA', LB', acc ++ [(y0, y1, y2, y3)], Lib.hid (XT.out), Lib.hid (YT.out), EA2, EB2, O4, HMN, Lib.hid (by have := HP.out; have := HQ.out; simp only [List.length_append, List.length_cons, List.length_nil]; omega), B4⟩
            case measure => simp [lenOf]; try omega
        · have XT := XS
          by_cases hyc : yc = 1
          · subst hyc
            obtain rfl : q = 0 := by omega
            have YT := Lib.hid (show Sl w (.slice (some ⟨yb, yo, none⟩) 0 0) LB' from .inl ⟨_, _, rfl, List.length_eq_zero_iff.1 HQ.out.symm, fun h => by cases h⟩)
            go_wp2_with fail
            go_roundw
            case rel => exact ⟨LA', LB', acc ++ [(y0, y1, y2, y3)], Lib.hid (XT.out), Lib.hid (YT.out), EA2, EB2, O4, HMN, Lib.hid (by have := HP.out; have := HQ.out; simp only [List.length_append, List.length_cons, List.length_nil]; omega), B4⟩
            case measure => simp [lenOf]; try omega
          · have YT := YS
            go_wp2_with fail
            go_roundw
            case rel => exact ⟨LA', LB', acc ++ [(y0, y1, y2, y3)], Lib.hid (XT.out), Lib.hid (YT.out), EA2, EB2, O4, HMN, Lib.hid (by have := HP.out; have := HQ.out; simp only [List.length_append, List.length_cons, List.length_nil]; omega), B4⟩
            case measure => simp [lenOf]; try omega
end Ncp
end Go.Proofs.Ythaadpijfkmdiaa
