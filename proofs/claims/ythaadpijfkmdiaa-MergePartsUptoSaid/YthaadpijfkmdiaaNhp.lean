/- rising: what stands in lists, rising; of those that are alike the latest one. -/
import Derived.Test.YthaadpijfkmdiaaNep
import Derived.Test.YthaadpijfkmdiaaNfp
import Derived.Test.YthaadpijfkmdiaaNgp
namespace Go.Proofs.Ythaadpijfkmdiaa
open Go.RowKit
namespace Nhp
open Jb La Nm Na Ncp Nep Nfp Ngp

/-- What holds of runs. -/
def Good {β : Type} [DecidableEq β] (key : V4 → β) (lt : β → β → Bool) (X : List V4) (LL : List (List V4)) : Prop :=
  (∀ L ∈ LL, Sorted key lt L) ∧ (∀ k, lk key LL.flatten k = lk key X k) ∧ (∀ z ∈ LL.flatten, z ∈ X) ∧ LL.flatten.length ≤ X.length
theorem good_jp {β : Type} [DecidableEq β] {key : V4 → β} {lt : β → β → Bool} (H : Lin lt) {X : List V4} {LL : List (List V4)} (h : Good key lt X LL) : Good key lt X (jp key lt LL) := by
  obtain ⟨h1, h2, h3, h4⟩ := h
  exact ⟨jp_sorted H LL h1, fun k => by rw [jp_lk H LL h1, h2], fun z hz => h3 z (jp_mem LL z hz), Nat.le_trans (jp_total LL) h4⟩
theorem flat_app {LL MM : List (List V4)} : (LL ++ MM).flatten = LL.flatten ++ MM.flatten := List.flatten_append
set_option maxRecDepth 100000
set_option maxHeartbeats 8000000
theorem rising12 {β : Type} [DecidableEq β] (key : V4 → β) (lt : β → β → Bool) (D : V4 → Prop) (HO : Ord key lt D) (HL : Lin lt) (w : World) (v : Value) (LL : List (List V4)) (h : Rr w v LL)
    (hD : ∀ x ∈ LL.flatten, D x ∧ One x) (hn : LL.length ≤ 1000000000) (ht : LL.flatten.length ≤ 1000000000) :
    Calls Try.prog 12 #[.func (.func 13) #[] #[], v] w fun e w' => ∃ r R, e = .returned r ∧ w'.ownsRow w.heap.size 44 4 r R.length (c4s R) ∧ Sorted key lt R ∧ (∀ k, lk key R k = lk key LL.flatten k) ∧ (∀ z ∈ R, z ∈ LL.flatten) ∧ R.length ≤ LL.flatten.length ∧ Below w.heap.size w w' := by
  obtain ⟨a, c, rfl, hg⟩ := h
  obtain ⟨n, hN⟩ : ∃ n, n = LL.length := ⟨_, rfl⟩
  have HN := Lib.hid hN
  rw [← hN] at hg hn ⊢
  have HG := Lib.hid hg
  have HD := Lib.hid hD
  have HT := Lib.hid ht
  have HH := Lib.hid HL
  have AP := Lib.hid (fun (wa : World) (rv lv : Value) vals MM L h1 h2 h3 h4 h5 h6 => append19 key lt D HO HL w wa rv lv vals MM L h1 h2 h3 h4 h5 h6)
  have JP := Lib.hid (fun (wa : World) (v : Value) MM h1 h2 h3 h4 h5 h6 => pairs20 key lt D HO HL wa v MM h1 h2 h3 h4 h5 h6)
  have CC := Lib.hid (fun (wa : World) (v : Value) MM h1 h2 h3 h4 => concat21 wa v MM h1 h2 h3 h4)
  obtain ⟨X, hX⟩ : ∃ X, X = LL.flatten := ⟨_, rfl⟩
  have HX := Lib.hid hX
  rw [← hX]
  clear hg hD ht HO HL hN hX
  go_enter Try.func12, Try.ntmps12
  go_wp2_with fail
  go_loopw [5, 7, 10] (fun o _ i wr => ∃ k vals MM, k ≤ n ∧ i = .int .i64 (k : Nat) ∧ Hid (wr.ownsRow w.heap.size 38 1 o vals.length vals) ∧ Hid (Vs w vals MM) ∧ Hid (MM.flatten = (LL.take k).flatten ∧ (∀ P ∈ MM, Sorted key lt P) ∧ MM.length ≤ (LL.take k).flatten.length) ∧ Hid (Below w.heap.size w wr)) (fun _ _ i _ => n - (intOf i).toNat)
  case atStart => exact ⟨0, [], [], Nat.zero_le _, rfl, Lib.hid (World.ownsRow_nil _ _ _ _), Lib.hid (vs_nil _), Lib.hid ⟨by simp, by simp, by simp⟩, Lib.hid (Below.refl _ _)⟩
  case round =>
    obtain ⟨k, vals, MM, hk, rfl, HO, HV, HM, HB⟩ := hrel
    obtain ⟨wa, rfl⟩ : ∃ wa, wa = wr := ⟨_, rfl⟩
    obtain ⟨oa, oc, he⟩ := own_forms HO.out
    subst he
    by_cases hkn : k < n
    · obtain ⟨b, off, s, rfl, hnc, hb, e1, hS⟩ := HG.out k hkn
      have e1 := (HB.out.cell (p := ⟨b, off + k, none⟩) hb).trans e1
      have hbw : b < wa.heap.size := Nat.lt_of_lt_of_le hb HB.out.size
      have hk9 : k < LL.length := by have := HN.out; omega
      have hs := take_sum LL k hk9
      have hf := take_flat LL k hk9
      have hsl := sum_le LL (k + 1)
      have htt := HT.out
      have hml := HM.out.2.2
      have A6 := Lib.hid (AP.out wa (.slice oa vals.length oc) s vals MM (LL.getD k []) HO.out HV.out hS HB.out (fun x hx => (HD.out x (by
        rw [List.getD_eq_getElem?_getD, List.getElem?_eq_getElem hk9] at hx
        exact List.mem_flatten.2 ⟨_, List.getElem_mem hk9, hx⟩)).1) (by rw [HV.out.1]; omega))
      have HF := Lib.hid hf
      have HS9 := Lib.hid hs
      clear hS hs hf hsl htt hml
      go_wp2_with fail
      refine A6.out.mono ?_
      rintro e w6 ⟨r6, vals6, PP, rfl, o6, v6, p1, p2, p3, b6⟩
      have O6 := Lib.hid o6
      have V6 := Lib.hid v6
      have B6 := Lib.hid b6
      have P6 := Lib.hid (show (MM ++ PP).flatten = (LL.take (k + 1)).flatten ∧ (∀ P ∈ MM ++ PP, Sorted key lt P) ∧ (MM ++ PP).length ≤ (LL.take (k + 1)).flatten.length from ⟨by rw [flat_app, HM.out.1, p1, HF.out], fun P hP => by
        rcases List.mem_append.1 hP with hP | hP
        · exact HM.out.2.1 P hP
        · exact (p2 P hP).1, by have := HM.out.2.2; have := HS9.out; rw [List.length_append]; omega⟩)
      clear o6 v6 p1 p2 p3 b6
      go_wp2_with fail
      go_roundw
      case rel => exact ⟨k + 1, vals6, MM ++ PP, by omega, by go_num, O6, V6, P6, B6⟩
      case measure => simp [intOf]; omega
    · obtain rfl : k = n := by omega
      have htk : (LL.take k).flatten = X := by rw [HX.out, List.take_of_length_le (by have := HN.out; omega)]
      have HM2 := Lib.hid (show Good key lt X MM ∧ MM.length ≤ X.length by
        have := HM.out
        rw [htk] at this
        exact ⟨⟨this.2.1, fun q => by rw [this.1], fun z hz => by rw [← this.1]; exact hz, by rw [this.1]; exact Nat.le_refl _⟩, this.2.2⟩)
      have V2 := Lib.hid (HV.out.below HB.out (Nat.le_refl _))
      have HD2 := Lib.hid (show ∀ x ∈ X, D x ∧ One x by rw [HX.out]; exact HD.out)
      have HT2 : X.length ≤ 1000000000 := by rw [HX.out]; exact HT.out
      clear HM HV HG HD HT AP htk
      go_wp2_with fail
      go_loopw [5] (fun o wr => ∃ vals MM, Hid (wr.ownsRow w.heap.size 38 1 o vals.length vals) ∧ Hid (Vs wr vals MM) ∧ Hid (Good key lt X MM ∧ MM.length ≤ X.length) ∧ Hid (Below w.heap.size w wr)) (fun o _ => lenOf o)
      case atStart => exact ⟨vals, MM, HO, V2, HM2, HB⟩
      case round =>
        obtain ⟨vs, NN, HO3, HV3, HM3, HB3⟩ := hrel
        obtain ⟨wb, rfl⟩ : ∃ wb, wb = wr := ⟨_, rfl⟩
        obtain ⟨pa, pc, he⟩ := own_forms HO3.out
        subst he
        have hvl := HV3.out.1
        have hnl := HM3.out.2
        obtain ⟨p, hp⟩ : ∃ p, p = vs.length := ⟨_, rfl⟩
        rw [← hp] at HO3 hvl ⊢
        have HP := Lib.hid hp
        have HPN := Lib.hid hvl
        by_cases h2 : 1 < p
        · have J6 := Lib.hid (JP.out wb (.slice pa p pc) NN (rr_own (by rw [← hp]; exact HO3.out) HV3.out) (by omega) (fun x hx => HD2.out x (HM3.out.1.2.2.1 x hx)) (by omega) (by have := HM3.out.1.2.2.2; omega) (by
            intro a n c e
            cases e
            rcases HO3.out.2 with ⟨e, _⟩ | ⟨_, _, _, e, _, _, _, hc, _⟩
            · cases e; omega
            · cases e; unfold maxLen at hc; omega))
          have d1 : decide ((p : Int) > 1) = true := decide_eq_true (by omega)
          clear hp hvl hnl
          go_wp2_with fail
          refine J6.out.mono ?_
          rintro e w6 ⟨r6, vals6, rfl, o6, v6, b6⟩
          have hl6 : vals6.length = (p + 1) / 2 := by rw [v6.1, jp_len, ← HPN.out]
          obtain ⟨qa, qc, hq⟩ := own_forms o6
          subst hq
          have O6 := Lib.hid (show w6.ownsRow w.heap.size 38 1 (.slice qa vals6.length qc) vals6.length vals6 from by
            obtain ⟨h1, h2⟩ := o6
            refine ⟨h1, h2.imp id ?_⟩
            rintro ⟨g, cap, cur, e1, e2, e3⟩
            exact ⟨g, cap, cur, e1, Nat.le_trans HB3.out.size e2, e3⟩)
          have V6 := Lib.hid v6
          have B6 := Lib.hid (HB3.out.trans (b6.mono HB3.out.size))
          have G6 := Lib.hid (show Good key lt X (jp key lt NN) ∧ (jp key lt NN).length ≤ X.length from ⟨good_jp HH.out HM3.out.1, by rw [jp_len]; have := HM3.out.2; omega⟩)
          obtain ⟨m6, hm6⟩ : ∃ m, m = vals6.length := ⟨_, rfl⟩
          rw [← hm6] at O6 hl6 ⊢
          have HM6 := Lib.hid hm6
          have HL6 := Lib.hid hl6
          clear o6 v6 b6 hm6 hl6
          go_wp2_with fail
          go_roundw
          case rel => exact ⟨vals6, _, by rw [← HM6.out]; exact O6, V6, G6, B6⟩
          case measure => have := HL6.out; simp [lenOf]; omega
        · have d1 : decide ((p : Int) > 1) = false := decide_eq_false (by omega)
          have C6 := Lib.hid (CC.out wb (.slice pa p pc) NN (rr_own (by rw [← hp]; exact HO3.out) HV3.out) (by omega) (by have := HM3.out.1.2.2.2; omega) (fun x hx => (HD2.out x (HM3.out.1.2.2.1 x hx)).2))
          have FIN := Lib.hid (show Sorted key lt NN.flatten by
            match NN, hvl, HM3.out.1.1 with
            | [], _, _ => simp [Sorted]
            | [A], _, h => simpa using h A (by simp)
            | A :: B :: r, h, _ => simp at h; omega)
          clear hp hvl hnl
          go_wp2_with fail
          refine C6.out.mono ?_
          rintro e w6 ⟨r6, rfl, o6, b6⟩
          have O6 := Lib.hid (own_base o6 HB3.out.size)
          have B6 := Lib.hid (HB3.out.trans (b6.mono HB3.out.size))
          clear o6 b6
          go_wp2_with fail
          go_ret
          exact ⟨_, NN.flatten, rfl, O6.out, FIN.out, HM3.out.1.2.1, HM3.out.1.2.2.1, HM3.out.1.2.2.2, B6.out⟩
end Nhp
end Go.Proofs.Ythaadpijfkmdiaa
