/- appendRuns: a list as runs that rise. -/
import Derived.Test.YthaadpijfkmdiaaNcp
namespace Go.Proofs.Ythaadpijfkmdiaa
open Go.RowKit
namespace Nfp
open Jb La Nm Na Ncp

theorem infoS : (Try.prog.info? 38).map (fun i => (i.zero, i.size, i.bytes)) = some (some (.slice none 0 0), 1, 24) := by kernel_rfl
theorem piece_snoc {L : List V4} {b j : Nat} (hb : b ≤ j + 1) (hj : j + 1 < L.length) : (L.take (j + 2)).drop b = (L.take (j + 1)).drop b ++ [L.getD (j + 1) d4] := by
  rw [List.take_add_one, List.getElem?_eq_getElem hj, List.drop_append_of_le_length (by rw [List.length_take]; omega), List.getD_eq_getElem?_getD, List.getElem?_eq_getElem hj]; rfl
theorem sorted_snoc {β : Type} {key : V4 → β} {lt : β → β → Bool} (H : Lin lt) {P : List V4} {x y : V4} (h : Sorted key lt (P ++ [x])) (e : lt (key x) (key y) = true) : Sorted key lt (P ++ [x] ++ [y]) := by
  refine List.pairwise_append.2 ⟨h, by simp, fun a ha z hz => ?_⟩
  obtain rfl : z = y := by simpa using hz
  obtain ⟨_, _, h3⟩ := List.pairwise_append.1 h
  rcases List.mem_append.1 ha with ha | ha
  · exact H.tr _ _ _ (h3 a ha x (by simp)) e
  · obtain rfl : a = x := by simpa using ha
    exact e
theorem piece_one {L : List V4} {j : Nat} (hj : j < L.length) : (L.take (j + 1)).drop j = [L.getD j d4] := by
  rw [List.take_add_one, List.getElem?_eq_getElem hj, List.drop_append_of_le_length (by rw [List.length_take]; omega), List.drop_eq_nil_of_le (by rw [List.length_take]; omega), List.getD_eq_getElem?_getD, List.getElem?_eq_getElem hj]; rfl
theorem piece_last {L : List V4} {b j : Nat} (hb : b ≤ j) (hj : j < L.length) : ∃ P, (L.take (j + 1)).drop b = P ++ [L.getD j d4] := by
  rw [List.take_add_one, List.getElem?_eq_getElem hj, List.drop_append_of_le_length (by rw [List.length_take]; omega), List.getD_eq_getElem?_getD, List.getElem?_eq_getElem hj]; exact ⟨_, rfl⟩
theorem take_piece {L : List V4} {b k : Nat} (hb : b ≤ k) : L.take b ++ (L.take k).drop b = L.take k := by
  have := List.take_append_drop b (L.take k)
  rwa [List.take_take, Nat.min_eq_left hb] at this
/-- What the loop has done. -/
structure St {β : Type} (key : V4 → β) (lt : β → β → Bool) (L : List V4) (w0 wr : World) (o : Value) (LL : List (List V4)) (b j : Nat) (vals : List Value) (PP : List (List V4)) : Prop where
  own : wr.ownsRow w0.heap.size 38 1 o vals.length vals
  rows : Vs w0 vals (LL ++ PP)
  flat : PP.flatten = L.take b
  good : ∀ P ∈ PP, Sorted key lt P ∧ P ≠ []
  run : Sorted key lt ((L.take (j + 1)).drop b)
  le : b ≤ j
  cnt : PP.length ≤ b
  bl : Below w0.heap.size w0 wr
set_option maxRecDepth 100000
set_option maxHeartbeats 8000000
theorem append19 {β : Type} (key : V4 → β) (lt : β → β → Bool) (D : V4 → Prop) (HO : Ord key lt D) (HL : Lin lt) (w0 w : World) (rv lv : Value) (vals : List Value) (LL : List (List V4)) (L : List V4) (hrow : w.ownsRow w0.heap.size 38 1 rv vals.length vals)
    (hv : Vs w0 vals LL) (hL : Sl w0 lv L) (hB : Below w0.heap.size w0 w) (hD : ∀ x ∈ L, D x) (hn : vals.length + L.length ≤ 1000000000) :
    Calls Try.prog 19 #[rv, .func (.func 13) #[] #[], lv] w fun e w' => ∃ r vals' PP, e = .returned r ∧ w'.ownsRow w0.heap.size 38 1 r vals'.length vals' ∧ Vs w0 vals' (LL ++ PP) ∧ PP.flatten = L ∧ (∀ P ∈ PP, Sorted key lt P ∧ P ≠ []) ∧ PP.length ≤ L.length ∧ Below w0.heap.size w0 w' := by
  obtain ⟨i0, hi, hz0, hz1, hz2⟩ := info_parts infoS
  obtain ⟨la, lc, rfl⟩ := hL.forms
  have HLS := Lib.hid hL
  obtain ⟨la', lc', e, hg⟩ := hL.get
  cases e
  have HG := Lib.hid hg
  obtain ⟨n, hN⟩ : ∃ n, n = L.length := ⟨_, rfl⟩
  rw [← hN] at hn HG ⊢
  have HN := Lib.hid hN
  have HD := Lib.hid hD
  have HH := Lib.hid HL
  have HOO := Lib.hid HO
  obtain ⟨V, hV⟩ : ∃ V, V = vals.length := ⟨_, rfl⟩
  have HVL := Lib.hid (show V = LL.length by rw [hV]; exact hv.1)
  rw [← hV] at hn
  have S0 := Lib.hid (show St key lt L w0 w rv LL 0 0 vals [] from ⟨hrow, by simpa using hv, by simp, by simp, by
    cases L with
    | nil => simp [Sorted]
    | cons x r => simp [Sorted], Nat.le_refl _, Nat.le_refl _, hB⟩)
  obtain ⟨ra, rc, hrv⟩ := own_forms hrow
  clear hrow hv hL hD HL HO hg hN hV hB
  subst hrv
  go_enter Try.func19, Try.ntmps19
  go_wp2_with fail
  go_loopw [0, 7, 8] (fun o g i wr => ∃ b j k vals PP, i = .int .i64 (k : Nat) ∧ Hid (k = j + 1) ∧ g = .int .i64 (b : Nat) ∧ (j = 0 ∨ j < n) ∧ Hid (St key lt L w0 wr o LL b j vals PP)) (fun _ _ i _ => n + 2 - (intOf i).toNat)
  case atStart => exact ⟨0, 0, 1, vals, [], rfl, Lib.hid rfl, rfl, .inl rfl, S0⟩
  case round =>
    obtain ⟨b, j, k, vs, PP, rfl, KJ, rfl, hj, HS⟩ := hrel
    obtain ⟨wa, rfl⟩ : ∃ wa, wa = wr := ⟨_, rfl⟩
    have hble := HS.out.le
    obtain ⟨oa, oc, ho⟩ := own_forms HS.out.own
    subst ho
    have hvl : vs.length ≤ V + b := by have := HS.out.rows.1; have := HS.out.cnt; have := HVL.out; simp at *; omega
    have hk1 : 1 ≤ k := by have := KJ.out; omega
    by_cases hjn : k < n
    case neg =>
      by_cases h0 : n = 0
      · subst h0
        go_wp2_with fail
        go_ret
        exact ⟨_, _, _, rfl, HS.out.own, HS.out.rows, by rw [HS.out.flat, List.length_eq_zero_iff.1 HN.out.symm]; simp, HS.out.good, by have := HS.out.cnt; have := KJ.out; omega, HS.out.bl⟩
      have hjl : j + 1 = n := by have := KJ.out; omega
      have hbn : b < n := by omega
      obtain ⟨q, off, e, hnc, hq, _⟩ := HG.out b hbn
      subst e
      have SP := Lib.hid (sl_piece (k := b) (m := n) (c' := lc - b) (show Sl w0 (.slice (some ⟨q, off, none⟩) L.length lc) L from HLS.out) (by omega) (by rw [← HN.out]; omega) (by omega))
      have SN := Lib.hid (HS.out.rows.snoc SP.out)
      have bA := HS.out.bl.alloc HS.out.bl.size (.cells #[.slice (some ⟨q, off + b * 4, none⟩) (n - b) (lc - b)] 38)
      have OWN := Lib.hid (HS.out.own.alloc (.cells #[.slice (some ⟨q, off + b * 4, none⟩) (n - b) (lc - b)] 38))
      have NEWC : ∀ j u, [(.slice (some ⟨q, off + b * 4, none⟩) (n - b) (lc - b) : Value)][j]? = some u → (wa.alloc (.cells #[.slice (some ⟨q, off + b * 4, none⟩) (n - b) (lc - b)] 38)).cell? ((⟨wa.heap.size, 0, none⟩ : Addr).add j) = some u := fun j u hj => by
        match j, hj with
        | 0, hj => cases hj; exact cell_at (heap_alloc_new wa (.cells #[.slice (some ⟨q, off + b * 4, none⟩) (n - b) (lc - b)] 38)) 0
      have BA := Lib.hid bA
      have zb := HS.out.bl.size
      clear bA
      go_wp2_with (at_builtin; refine wpList_append_own _ rfl (.tmp 39) (.tmp 43) 54 rfl w0.heap.size 38 i0 _ 1 24 Try.underlying54 hi hz0 hz1 hz2 rfl (by decide) (.slice oa vs.length oc) vs.length vs (by simp [Act.eval]) OWN.out ⟨wa.heap.size, 0, none⟩ 1 1 [.slice (some ⟨q, off + b * 4, none⟩) (n - b) (lc - b)] (by simp [Act.eval]) rfl NEWC (by intro u hu; simp at hu; rw [hu]; rfl) (by unfold maxLen; omega) (by omega) (by simp; omega) ?_)
      intro v6 w6 o6 g6 _
      have B6 := Lib.hid (BA.out.grown g6 (by simp; omega) (fun j ej => (La.own_lt HS.out.own ej).1))
      have O6 := Lib.hid (show w6.ownsRow w0.heap.size 38 1 v6 (vs ++ [(.slice (some ⟨q, off + b * 4, none⟩) (n - b) (lc - b) : Value)]).length (vs ++ [(.slice (some ⟨q, off + b * 4, none⟩) (n - b) (lc - b) : Value)]) by rw [List.length_append]; exact o6)
      clear o6 g6 NEWC
      go_wp2_with fail
      go_ret
      have hp : (L.take n).drop b = L.drop b := by rw [HN.out, List.take_length]
      refine ⟨_, _, PP ++ [(L.take n).drop b], rfl, O6.out, by rw [← List.append_assoc]; exact SN.out, ?_, ?_, by have := HS.out.cnt; simp; omega, B6.out⟩
      · rw [List.flatten_append, HS.out.flat, hp]; simp
      · intro P hP
        rcases List.mem_append.1 hP with hP | hP
        · exact HS.out.good P hP
        · obtain rfl := List.mem_singleton.1 hP
          refine ⟨by have := HS.out.run; rwa [hjl] at this, fun h => ?_⟩
          have := congrArg List.length h
          rw [List.length_drop, List.length_take, ← HN.out] at this
          simp at this; omega
    have hjn0 : j < n := by omega
    obtain ⟨q, off, e, hnc, hq, hT0⟩ := HG.out j hjn0
    subst e
    obtain ⟨_, _, e, _, _, hT1⟩ := HG.out k hjn
    cases e
    have hkw : IntKind.i64.wrap ((k : Int) - 1) = (j : Int) := by rw [IntKind.wrap_i64]; have := KJ.out; omega
    have hkj := KJ.out
    have hbk : b < k := by omega
    obtain ⟨X, hX⟩ : ∃ X, X = L.getD j d4 := ⟨_, rfl⟩
    obtain ⟨Y, hY⟩ : ∃ Y, Y = L.getD k d4 := ⟨_, rfl⟩
    have dX := HD.out X (by rw [hX, List.getD_eq_getElem?_getD, List.getElem?_eq_getElem (by rw [← HN.out]; exact hjn0)]; exact List.getElem_mem _)
    have dY := HD.out Y (by rw [hY, List.getD_eq_getElem?_getD, List.getElem?_eq_getElem (by rw [← HN.out]; exact hjn)]; exact List.getElem_mem _)
    rw [← hX] at hT0
    rw [← hY] at hT1
    have XY := Lib.hid (show ∀ y, Below w0.heap.size w0 y → (y.cell? ⟨q, off + j * 4, none⟩ = some X.1 ∧ y.cell? ⟨q, off + j * 4 + 1, none⟩ = some X.2.1 ∧ y.cell? ⟨q, off + j * 4 + 2, none⟩ = some X.2.2.1 ∧ y.cell? ⟨q, off + j * 4 + 3, none⟩ = some X.2.2.2) ∧ (y.cell? ⟨q, off + k * 4, none⟩ = some Y.1 ∧ y.cell? ⟨q, off + k * 4 + 1, none⟩ = some Y.2.1 ∧ y.cell? ⟨q, off + k * 4 + 2, none⟩ = some Y.2.2.1 ∧ y.cell? ⟨q, off + k * 4 + 3, none⟩ = some Y.2.2.2) from fun y hy => ⟨hT0 y hy, hT1 y hy⟩)
    have k0 := XY.out wa.drew HS.out.bl.drew
    have CS := Lib.hid (show (0 ≤ cm key lt X Y ∧ True) ∨ (cm key lt X Y < 0 ∧ lt (key X) (key Y) = true) by
      unfold cm
      cases e1 : lt (key X) (key Y) with
      | true => exact .inr ⟨by simp, rfl⟩
      | false => cases e2 : lt (key Y) (key X) <;> exact .inl ⟨by simp, trivial⟩)
    have CO9 := Lib.hid (HOO.out X Y dX dY)
    have PL := Lib.hid (show lt (key X) (key Y) = true → Sorted key lt ((L.take (j + 2)).drop b) from fun h => by
      rw [piece_snoc (by omega) (by rw [← HN.out, ← hkj]; exact hjn), ← hkj, ← hY]
      obtain ⟨P, hP⟩ := piece_last (L := L) hble (by rw [← HN.out]; exact hjn0)
      rw [← hkj] at hP
      have := HS.out.run
      rw [← hkj] at this
      rw [hP, ← hX] at this ⊢
      exact sorted_snoc HH.out this h)
    have P1 := Lib.hid (show Sorted key lt ((L.take (j + 2)).drop (j + 1)) by rw [piece_one (by rw [← HN.out, ← hkj]; exact hjn)]; simp [Sorted])
    obtain ⟨C, hC⟩ : ∃ C, C = cm key lt X Y := ⟨_, rfl⟩
    rw [← hC] at CS CO9
    have hC9 : -1 ≤ C ∧ C ≤ 1 := by rw [hC]; unfold cm; split <;> (try split) <;> omega
    obtain ⟨x0, x1, x2, x3⟩ := X
    obtain ⟨y0, y1, y2, y3⟩ := Y
    unfold a4 at CO9
    simp only at k0 CO9
    clear hX hY hC dX dY hT0 hT1 hkj
    have CO := Lib.hid (CO9.out)
    have KY := Lib.hid (show ∀ W, Below wa.drew.heap.size wa.drew W → Below w0.heap.size w0 W from fun W hW => HS.out.bl.drew.trans (hW.mono HS.out.bl.size))
    have KO := Lib.hid (show ∀ W, Below wa.drew.heap.size wa.drew W → W.ownsRow w0.heap.size 38 1 (.slice oa vs.length oc) vs.length vs from fun W hW => own_below HS.out.own.drew hW)
    have REG : True := trivial
    by_cases hCs : C ≥ 0
    · have dC : decide (C ≥ 0) = true := decide_eq_true hCs
      go_upto_region 5 with (fail)
      go_region_held_law (fun W : World => (W.cell? ⟨q, off + j * 4, none⟩ = some x0 ∧ W.cell? ⟨q, off + j * 4 + 1, none⟩ = some x1 ∧ W.cell? ⟨q, off + j * 4 + 2, none⟩ = some x2 ∧ W.cell? ⟨q, off + j * 4 + 3, none⟩ = some x3) ∧ (W.cell? ⟨q, off + k * 4, none⟩ = some y0 ∧ W.cell? ⟨q, off + k * 4 + 1, none⟩ = some y1 ∧ W.cell? ⟨q, off + k * 4 + 2, none⟩ = some y2 ∧ W.cell? ⟨q, off + k * 4 + 3, none⟩ = some y3))
        (first | exact k0 | exact kY)
        (first | (go_at_call 13; refine (CO.out _).mono ?_; rintro e w3 ⟨rfl, b3⟩; have B3 := Lib.hid (KY.out w3 b3); have O3 := Lib.hid (KO.out w3 b3); have kY := XY.out w3 B3.out; clear b3))
      have SP := Lib.hid (sl_piece (k := b) (m := k) (c' := lc - b) (show Sl w0 (.slice (some ⟨q, off, none⟩) L.length lc) L from HLS.out) (by omega) (by rw [← HN.out]; omega) (by omega))
      have SN := Lib.hid (HS.out.rows.snoc SP.out)
      have bA := B3.out.alloc B3.out.size (.cells #[.slice (some ⟨q, off + b * 4, none⟩) (k - b) (lc - b)] 38)
      have OWN := Lib.hid (O3.out.alloc (.cells #[.slice (some ⟨q, off + b * 4, none⟩) (k - b) (lc - b)] 38))
      have NEWC : ∀ j u, [(.slice (some ⟨q, off + b * 4, none⟩) (k - b) (lc - b) : Value)][j]? = some u → (w3.alloc (.cells #[.slice (some ⟨q, off + b * 4, none⟩) (k - b) (lc - b)] 38)).cell? ((⟨w3.heap.size, 0, none⟩ : Addr).add j) = some u := fun j u hj => by
        match j, hj with
        | 0, hj => cases hj; exact cell_at (heap_alloc_new w3 (.cells #[.slice (some ⟨q, off + b * 4, none⟩) (k - b) (lc - b)] 38)) 0
      have BA := Lib.hid bA
      have zb := B3.out.size
      clear bA
      go_wp2_with (at_builtin; refine wpList_append_own _ rfl (.tmp 27) (.tmp 32) 54 rfl w0.heap.size 38 i0 _ 1 24 Try.underlying54 hi hz0 hz1 hz2 rfl (by decide) (.slice oa vs.length oc) vs.length vs (by simp [Act.eval]) OWN.out ⟨w3.heap.size, 0, none⟩ 1 1 [.slice (some ⟨q, off + b * 4, none⟩) (k - b) (lc - b)] (by simp [Act.eval]) rfl NEWC (by intro u hu; simp at hu; rw [hu]; rfl) (by unfold maxLen; omega) (by omega) (by simp; omega) ?_)
      intro v6 w6 o6 g6 _
      have B6 := Lib.hid (BA.out.grown g6 (by simp; omega) (fun j ej => (La.own_lt O3.out ej).1))
      have O6 := Lib.hid (show w6.ownsRow w0.heap.size 38 1 v6 (vs ++ [(.slice (some ⟨q, off + b * 4, none⟩) (k - b) (lc - b) : Value)]).length (vs ++ [(.slice (some ⟨q, off + b * 4, none⟩) (k - b) (lc - b) : Value)]) by rw [List.length_append]; exact o6)
      clear o6 g6 NEWC
      go_wp2_with fail
      go_roundw
      case rel =>
        refine ⟨k, k, k + 1, _, PP ++ [(L.take k).drop b], by go_num, Lib.hid rfl, rfl, .inr hjn, Lib.hid ⟨O6.out, by rw [← List.append_assoc]; exact SN.out, ?_, ?_, ?_, Nat.le_refl _, ?_, B6.out⟩⟩
        · rw [List.flatten_append, HS.out.flat]
          simp only [List.flatten_cons, List.flatten_nil, List.append_nil]
          exact take_piece (by have := KJ.out; omega)
        · intro P hP
          rcases List.mem_append.1 hP with hP | hP
          · exact HS.out.good P hP
          · obtain rfl := List.mem_singleton.1 hP
            refine ⟨by rw [KJ.out]; exact HS.out.run, fun h => ?_⟩
            have := congrArg List.length h
            rw [List.length_drop, List.length_take, ← HN.out] at this
            have := KJ.out
            simp at *; omega
        · have := P1.out
          have hk := KJ.out
          rw [show j + 2 = k + 1 by omega, ← hk] at this
          exact this
        · have := HS.out.cnt; have := KJ.out; simp; omega
      case measure => simp [intOf]; omega
    · have dC : decide (C ≥ 0) = false := decide_eq_false hCs
      have LT := Lib.hid (show Sorted key lt ((L.take (j + 2)).drop b) by
        rcases CS.out with ⟨h, _⟩ | ⟨_, h⟩
        · omega
        · exact PL.out h)
      go_upto_region 5 with (fail)
      go_region_held_law (fun W : World => (W.cell? ⟨q, off + j * 4, none⟩ = some x0 ∧ W.cell? ⟨q, off + j * 4 + 1, none⟩ = some x1 ∧ W.cell? ⟨q, off + j * 4 + 2, none⟩ = some x2 ∧ W.cell? ⟨q, off + j * 4 + 3, none⟩ = some x3) ∧ (W.cell? ⟨q, off + k * 4, none⟩ = some y0 ∧ W.cell? ⟨q, off + k * 4 + 1, none⟩ = some y1 ∧ W.cell? ⟨q, off + k * 4 + 2, none⟩ = some y2 ∧ W.cell? ⟨q, off + k * 4 + 3, none⟩ = some y3))
        (first | exact k0 | exact kY)
        (first | (go_at_call 13; refine (CO.out _).mono ?_; rintro e w3 ⟨rfl, b3⟩; have B3 := Lib.hid (KY.out w3 b3); have O3 := Lib.hid (KO.out w3 b3); have kY := XY.out w3 B3.out; clear b3))
      go_wp2_with fail
      go_roundw
      case rel =>
        refine ⟨b, k, k + 1, vs, PP, by go_num, Lib.hid rfl, rfl, .inr hjn, Lib.hid ⟨O3.out, HS.out.rows, HS.out.flat, HS.out.good, ?_, by have := KJ.out; omega, HS.out.cnt, B3.out⟩⟩
        have := LT.out
        have hk := KJ.out
        rw [show j + 2 = k + 1 by omega] at this
        exact this
      case measure => simp [intOf]; omega
end Nfp
end Go.Proofs.Ythaadpijfkmdiaa
