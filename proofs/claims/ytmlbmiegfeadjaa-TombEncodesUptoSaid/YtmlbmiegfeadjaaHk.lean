/- Columns compared; the law TombApplies. -/
import Derived.Test.YtmlbmiegfeadjaaHj
namespace Go.Proofs.Ytmlbmiegfeadjaa
open Go.RowKit
namespace Hk
open Jb Ca Cz Ga Gm Gn Gt Gu Gw Gx Gy Gz Hb Hc Hd He Hf Hg Hh Hi Hj

set_option maxRecDepth 100000
set_option maxHeartbeats 4000000
/-- The same columns. -/
theorem same17 (w : World) (v u : Value) (C : List Kp) (H : Ci w v C) (G : Ci w u C) (hc : C.length * 56 ≤ 140737488355328) :
    Calls Try.prog 17 #[v, u] w fun e w' => e = .returned (.bool true) ∧ Below w.heap.size w w' := by
  obtain ⟨va, vc, rfl, hat⟩ := H
  obtain ⟨ua, uc, rfl, hau⟩ := G
  obtain ⟨n, hN⟩ : ∃ n, n = C.length := ⟨_, rfl⟩
  have AT := Lib.hid (show ∀ q, q < n → ∃ tb tp ob oo s f ra rc r' rc' l, va = some ⟨tb, tp, none⟩ ∧ n ≤ vc ∧ ua = some ⟨ob, oo, none⟩ ∧ n ≤ uc ∧ ∀ y, Below w.heap.size w y → ((y.cell? ⟨tb, tp + q * 3, none⟩ = some (.string s) ∧ y.cell? ⟨tb, tp + q * 3 + 1, none⟩ = some (.string f) ∧ y.cell? ⟨tb, tp + q * 3 + 2, none⟩ = some (.slice ra l rc)) ∧ (y.cell? ⟨ob, oo + q * 3, none⟩ = some (.string s) ∧ y.cell? ⟨ob, oo + q * 3 + 1, none⟩ = some (.string f) ∧ y.cell? ⟨ob, oo + q * 3 + 2, none⟩ = some (.slice r' l rc'))) ∧ Calls Try.prog 29 #[.slice ra l rc, .slice r' l rc'] y fun e w' => e = .returned (.bool true) ∧ Below y.heap.size y w' from fun q hq => by
    obtain ⟨tb, tp, ra, rc, e1, h1, h2, h3, h4, h5, h6, h7⟩ := hat q (by omega)
    obtain ⟨ob, oo, r', rc', e2, g1, g2, g3, g4, g5, g6, g7⟩ := hau q (by omega)
    refine ⟨tb, tp, ob, oo, _, _, ra, rc, r', rc', _, e1, by omega, e2, by omega, fun y hy => ⟨⟨⟨(hy.cell h2).trans h4, (hy.cell h2).trans h5, (hy.cell h2).trans h6⟩, ⟨(hy.cell g2).trans g4, (hy.cell g2).trans g5, (hy.cell g2).trans g6⟩⟩, ?_⟩⟩
    have := same18 y _ _ _ _ (h7.below hy) (g7.below hy) (by omega)
    rwa [decide_eq_true rfl] at this)
  rw [← hN] at hc ⊢
  clear hat hau hN
  go_enter Try.func17, Try.ntmps17
  go_wp2_with fail
  go_loopw [13] (fun ct wr => ∃ q, q ≤ n ∧ ct = .int .i64 (q : Nat) ∧ Hid (Below w.heap.size w wr)) (fun ct _ => n - (intOf ct).toNat)
  case atStart => exact ⟨0, Nat.zero_le _, rfl, Lib.hid (Below.refl _ _)⟩
  case round =>
    obtain ⟨q, hq, rfl, HB⟩ := hrel
    by_cases hqn : q < n
    case neg =>
      obtain rfl : q = n := by omega
      go_wp2_with fail
      go_ret
      exact ⟨rfl, HB.out⟩
    obtain ⟨tb, tp, ob, oo, s, f, ra, rc, r', rc', l, rfl, hnc, rfl, hoc, CE⟩ := AT.out q hqn
    have CX := Lib.hid (fun y hy => (CE y hy).1)
    have zb := HB.out.size
    have kX := CX.out wr.drew HB.out.drew
    have q1 : (s.toList != s.toList) = false := by simp
    have q2 : (f.toList != f.toList) = false := by simp
    have S1 := Lib.hid (CE wr.drew HB.out.drew).2
    clear CE AT
    go_wp2_with fail
    go_region_held (fun y => (y.cell? ⟨tb, tp + q * 3, none⟩ = some (.string s) ∧ y.cell? ⟨tb, tp + q * 3 + 1, none⟩ = some (.string f) ∧ y.cell? ⟨tb, tp + q * 3 + 2, none⟩ = some (.slice ra l rc)) ∧ (y.cell? ⟨ob, oo + q * 3, none⟩ = some (.string s) ∧ y.cell? ⟨ob, oo + q * 3 + 1, none⟩ = some (.string f) ∧ y.cell? ⟨ob, oo + q * 3 + 2, none⟩ = some (.slice r' l rc')))
      (first | exact kX | exact kY)
      (first | (go_at_call 29; refine S1.out.mono ?_; rintro e w3 ⟨rfl, b3⟩; have B3 := Lib.hid (HB.out.drew.trans (b3.mono zb)); have kY := CX.out w3 B3.out; clear b3))
    all_goals
      go_wp2_with fail
      go_roundw
    case rel => exact ⟨q + 1, by omega, by go_num, B3⟩
    case measure => simp [intOf]; omega
theorem applies5 (w : World) (lv cv : Value) (L : List Tmb) (C : List Kp) (hL : Ti w lv L) (hn : L.length * 56 ≤ 140737488355328) (hC : Ci w cv C) (hc : C.length * 56 ≤ 140737488355328) :
    Calls Try.prog 5 #[lv, cv] w fun e w' => e = .returned (.bool true) ∧ Below w.heap.size w w' := by
  have A9 := Lib.hid (awake9 w)
  have TH := Lib.hid (fun (y : World) (hy : Below w.heap.size w y) => theirs12 y lv L (hL.below hy) (by omega))
  have AP := Lib.hid (fun (y y2 : World) (hy : Below w.heap.size w y2) r (h : y2.ownsRow y.heap.size 57 4 r L.length (tcs L)) => apply18 y2 y.heap.size r cv L C h hL.1 hn (hC.below hy) hc)
  have RP := Lib.hid (fun (y : World) (hy : Below w.heap.size w y) => refapply19 y lv cv L C (hL.below hy) (by omega) (hC.below hy) hc)
  have SM := Lib.hid (fun (y : World) v u D (h1 : Ci y v D) (h2 : Ci y u D) (h3 : List.length D ≤ C.length) => same17 y v u D h1 h2 (by omega))
  have LE := Lib.hid (show (apl (cov L) C).length ≤ C.length by
    unfold apl
    refine Nat.le_trans (List.length_filter_le _ _) ?_
    rw [List.length_map]; exact Nat.le_refl _)
  generalize hT : apl (cov L) C = T at AP RP LE
  clear hL hn hC hc hT
  go_enter Try.func5, Try.ntmps5
  go_wp2_with fail
  refine A9.out.mono ?_
  rintro e w1 ⟨rfl, b1⟩
  have B1 := Lib.hid b1
  clear b1 A9
  go_wp2_with fail
  refine (TH.out w1 B1.out).mono ?_
  rintro e w2 ⟨r, rfl, o2, b2⟩
  have B2 := Lib.hid (B1.out.trans (b2.mono B1.out.size))
  have A2 := Lib.hid (AP.out w1 w2 B2.out r o2)
  clear o2 b2 AP TH
  go_wp2_with fail
  refine A2.out.mono ?_
  rintro e w3 ⟨r3, R3, rfl, t3, e3, b3⟩
  have B3 := Lib.hid (B2.out.trans (b3.mono B2.out.size))
  have T3 := Lib.hid t3
  have E3 := Lib.hid e3
  have A3 := Lib.hid (RP.out w3 B3.out)
  clear t3 e3 b3 A2 RP
  go_wp2_with fail
  refine A3.out.mono ?_
  rintro e w4 ⟨r4, R4, rfl, t4, e4, b4⟩
  have B4 := Lib.hid (B3.out.trans (b4.mono B3.out.size))
  have S4 := Lib.hid (SM.out w4 r3 r4 T (by rw [← E3.out]; exact ot_ci (T3.out.below b4)) (by rw [← e4]; exact ot_ci t4) LE.out)
  clear t4 e4 b4 A3 SM
  go_wp2_with fail
  refine S4.out.mono ?_
  rintro e w5 ⟨rfl, b5⟩
  have B5 := Lib.hid (B4.out.trans (b5.mono B4.out.size))
  clear b5
  go_wp2_with fail
  go_ret
  exact ⟨rfl, B5.out⟩
end Hk
end Go.Proofs.Ytmlbmiegfeadjaa
