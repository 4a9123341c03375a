/- readWhole, readUneven. -/
import Derived.Test.YtidbpoigbfpocaaDoorTg
namespace Go.Proofs.YtidbpoigbfpocaaDoor
open Go.RowKit
namespace Tg
open Bm Mt Wr Pk Rp Cv Rd Rx Ux Sz Tm Ti

def wh (F : Int) (bs : List Nat) (k : Nat) : Int := if k = 0 then F else if 8 * k ≤ bs.length then wrap64 (num8 bs (8 * k - 8) : Nat) else 0
theorem wh_tab (F : Int) (bs : List Nat) (m : Nat) : wholeT F bs m = tab (wh F bs) (m + 1) := rfl
theorem wh_succ (F : Int) (bs : List Nat) (k : Nat) : wh F bs (k + 1) = wrap64 (wordAt bs k : Nat) := by
  unfold wh wordAt
  rw [if_neg (by omega)]
  split
  · rw [show 8 * (k + 1) - 8 = 8 * k from by omega]
  · unfold wrap64; omega

set_option maxRecDepth 100000 in
set_option maxHeartbeats 1000000 in
theorem whole43 (w : World) (v : Value) (bs : List Nat) (F : Int) (n : Nat) (hIs : Is w v bs) (hX : ∀ b ∈ bs, b < 256) (hb : bs.length ≤ 140737488353272) (hn : 1 ≤ n) (hn9 : n ≤ 1000) :
    Calls Tryd.prog 43 #[v, .int .i64 F, .int .i64 (n : Nat)] w fun e w' => ∃ r, e = .returned r ∧ w'.ownsRow w.heap.size 2 1 r n (i64s (wholeT F bs (n - 1))) ∧ Below w.heap.size w w' := by
  obtain ⟨i0, hi, hz0, hz1, hz2⟩ := info_parts info2
  have F41 : Hid (∀ x, Below w.heap.size w x → Calls Tryd.prog 41 #[v] x fun e w' => ∃ g v, e = .returned (.pointer (some ⟨g, 0, none⟩)) ∧ Rs w' g v bs 0 ∧ x.heap.size ≤ g ∧ (∀ k, v.ownBlock = some k → x.heap.size ≤ k) ∧ Below x.heap.size x w') :=
    Lib.hid fun x b => new_word x v bs (Is.below hIs b) hb
  have F42 : Hid (∀ x g s k, Rs x g s bs k → Calls Tryd.prog 42 #[.pointer (some ⟨g, 0, none⟩), .int .i64 64] x fun e w' => e = .returned (.int .u64 (wordAt bs k : Nat)) ∧ (∃ s', Rs w' g s' bs (k + 1) ∧ (s' = s ∨ s' = .slice none 0 0)) ∧ Only x w' g) := Lib.hid fun x g s k h => get_word x g s bs k h hX hb
  rw [wh_tab, show n - 1 + 1 = n from by omega]
  have HONE : Hid ((w.alloc (.cells #[.int .i64 F] 2)).ownsRow w.heap.size 2 1 (.slice (some ⟨w.heap.size, 0, none⟩) 1 1) 1 (i64s (tab (wh F bs) 1))) := Lib.hid (own_one w F)
  have HBA : Hid (Below w.heap.size w (w.alloc (.cells #[.int .i64 F] 2))) := Lib.hid ((Below.refl _ _).alloc (Nat.le_refl _) _)
  have HSA : Hid ((w.alloc (.cells #[.int .i64 F] 2)).heap.size = w.heap.size + 1) := Lib.hid (by simp)
  clear hIs hX hb
  go_enter Tryd.func43, Tryd.ntmps43
  go_wp2_with fail
  refine (F41.out _ HBA.out).mono ?_
  rintro e w1 ⟨g, s, rfl, h1, h2, h3, b1⟩
  have Q1 := Lib.hid h1
  have HG : Hid (w.heap.size < g) := Lib.hid (by have := HSA.out; omega)
  have HS : Hid (∀ q, s.ownBlock = some q → q ≠ w.heap.size) := Lib.hid fun q hq e => by have := h3 q hq; have := HSA.out; omega
  have O1 := Lib.hid (own_below HONE.out b1)
  have B1 := Lib.hid (HBA.out.trans (b1.mono HBA.out.size))
  clear h1 h2 h3 b1
  go_wp2_with fail
  go_loopw [7, 15] (fun o i wr => ∃ k s, k + 1 ≤ n ∧ i = .int .i64 (k : Nat) ∧ wr.ownsRow w.heap.size 2 1 o (k + 1) (i64s (tab (wh F bs) (k + 1))) ∧ Rs wr g s bs k ∧ o.ownBlock ≠ some g ∧ (∀ q, s.ownBlock = some q → o.ownBlock ≠ some q) ∧ Below w.heap.size w wr) (fun _ i _ => n - (intOf i).toNat)
  case atStart =>
    refine ⟨0, s, hn, rfl, O1.out, Q1.out, fun e => ?_, fun q hq e => ?_, B1.out⟩
    · simp [Value.ownBlock] at e; have := HG.out; omega
    · simp [Value.ownBlock] at e; exact HS.out q hq e.symm
  case round =>
    obtain ⟨k, s2, hk, rfl, ho, hR, hg, hsq, hbl⟩ := hrel
    by_cases hkn : k + 1 < n
    · have FK := Lib.hid (F42.out _ _ _ _ hR)
      have HTD : Hid (i64s (tab (wh F bs) (k + 1 + 1)) = i64s (tab (wh F bs) (k + 1)) ++ [.int .i64 (wrap64 (wordAt bs k : Nat))]) := Lib.hid (by rw [tab_succ, i64s_snoc, wh_succ])
      have HO := Lib.hid ho
      have HRL := Lib.hid hR.lt
      have HNG := Lib.hid hg
      have HSQ := Lib.hid hsq
      have HBL := Lib.hid hbl
      obtain ⟨U, hU⟩ : ∃ U, U = wordAt bs k := ⟨_, rfl⟩
      rw [← hU] at HTD FK
      obtain ⟨j, hj⟩ : ∃ j, j = k + 1 := ⟨_, rfl⟩
      rw [← hj] at HO HTD FK
      have HJ := Lib.hid hj
      have hj9 : j ≤ 1000 := by omega
      clear hj hU ho hR hg hsq hbl
      go_wp2_with fail
      refine FK.out.mono ?_
      rintro e w4 ⟨rfl, ⟨s4, hR4, hs4⟩, o4⟩
      have hown := own_apart HO.out o4 HNG.out
      have B4 := Lib.hid (HBL.out.trans (o4.below (B := w.heap.size) (Nat.le_of_lt HG.out) HBL.out.size))
      have hs4b := B4.out.size
      have HR4 := Lib.hid hR4
      have HS4 : Hid (∀ q, s4.ownBlock = some q → u7.ownBlock ≠ some q) := Lib.hid fun q hq => by
        rcases hs4 with rfl | rfl
        · exact HSQ.out q hq
        · simp [Value.ownBlock] at hq
      have HL4 := Lib.hid hR4.lt
      clear hR4 hs4 o4
      go_wp2_with (at_builtin; refine wpList_append_own_at _ rfl (.tmp 17) (.tmp 21) 22 rfl w.heap.size 2 i0 (.int .i64 0) 1 8 Tryd.underlying22 hi hz0 hz1 hz2 rfl (by decide) _ j _ rfl (hown.alloc _) ⟨w4.heap.size, 0, none⟩ 1 1 [.int .i64 (wrap64 (U : Nat))] rfl rfl ?c1 ?c2 ?c3 ?c4 ?c5 ?_)
      case c1 => exact cell_one_new _ _ _
      case c2 => intro u hu; simp at hu; subst hu; rfl
      case c3 => unfold maxLen; omega
      case c4 => omega
      case c5 => simp; omega
      intro v' w6 hown' hgrow _ hat
      have b6 := Lib.hid (Below.grown (B4.out.alloc (Nat.le_trans (Nat.le_refl _) hs4b) _) hgrow (by simp; omega) (fun r hr => (hown.lt r hr).1))
      have HAT : Hid (∀ q, v'.ownBlock = some q → u7.ownBlock = some q ∨ w4.heap.size ≤ q) := Lib.hid fun q hq => by
        rcases hat with h | h
        · exact .inl (h ▸ hq)
        · rw [h] at hq; cases hq; exact .inr (by simp)
      have HR6 : Hid (Rs w6 g s4 bs j) := Lib.hid (Rs.kept (HR4.out.alloc _) hgrow HNG.out (by
        by_cases e : s4.ownBlock = none
        · exact .inl e
        · refine .inr fun h => ?_
          obtain ⟨q, hq⟩ := Option.ne_none_iff_exists'.1 e
          exact HS4.out q hq (h ▸ hq)))
      clear hgrow hat
      have hO6 := Lib.hid hown'
      clear hown'
      go_wp2_with fail
      go_roundw
      case rel =>
        refine ⟨k + 1, s4, by have := HJ.out; omega, by go_num, by have h := hO6.out; rw [← HTD.out, HJ.out] at h; exact h, by have h := HR6.out; rw [HJ.out] at h; exact h, fun e => ?_, fun q hq e => ?_, b6.out⟩
        · rcases HAT.out g e with h | h
          · exact HNG.out h
          · have := HL4.out.1; omega
        · rcases HAT.out q e with h | h
          · exact HS4.out q hq h
          · have := HL4.out.2 q hq; omega
      case measure => simp [intOf]; omega
    · obtain rfl : n = k + 1 := by omega
      have HB := Lib.hid hbl
      have HO := Lib.hid ho
      clear ho hbl hR hg hsq
      go_wp2_with fail
      go_ret
      exact ⟨_, rfl, HO.out, HB.out⟩
end Tg
end Go.Proofs.YtidbpoigbfpocaaDoor
