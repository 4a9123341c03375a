/- Same; awake. -/
import Derived.Test.YtalanjhpacjmmaaGreatSp
namespace Go.Proofs.YtalanjhpacjmmaaGreat
set_option maxRecDepth 100000
open Go.RowKit
namespace Sq
open Jb Sa Sb Sc Sd Se Sf Sg Sh Si Sp

theorem same_of {n1 n2 : ByteArray} {L1 L2 : List Tg} (h1 : n1 = n2) (h2 : L1.length = L2.length) (h3 : ∀ j, j < L1.length → L1.getD j t0 = L2.getD j t0) : ((n1, L1) : Sr) = (n2, L2) := by
  subst h1
  congr 1
  apply List.ext_getElem h2
  intro i hi1 hi2
  have := h3 i hi1
  rwa [List.getD_eq_getElem?_getD, List.getD_eq_getElem?_getD, List.getElem?_eq_getElem hi1, List.getElem?_eq_getElem hi2] at this
theorem neq37 (w : World) (a b : Tg) : (binOp .neq 36 (.agg #[.string a.1, .string a.2]) (.agg #[.string b.1, .string b.2])).run Tryz.prog w = .ok (.bool (!decide (a = b))) w := by
  rw [run_neq_struct, run_equalIn_agg _ _ _ _ _ (by kernel_rfl) Tryz.stoodInHeld36]
  obtain ⟨x0, x1⟩ := a
  obtain ⟨y0, y1⟩ := b
  have hb : decide ((x0, x1) = (y0, y1)) = ((x0.toList == y0.toList) && (x1.toList == y1.toList)) := by
    rw [beq_eq, beq_eq, Bool.eq_iff_iff]
    simp only [decide_eq_true_eq, Bool.and_eq_true, Prod.mk.injEq]
  rw [hb]
  simp [go_sem, Program.fieldsOf, Tryz.underlying36]
  by_cases h0 : x0.toList = y0.toList <;> by_cases h1 : x1.toList = y1.toList <;> simp [h0, h1]
set_option maxRecDepth 100000 in
set_option maxHeartbeats 1000000 in
theorem same17 (w : World) (n1 n2 : ByteArray) (v1 v2 : Value) (L1 L2 : List Tg) (h1 : Ti w v1 L1) (h2 : Ti w v2 L2) (hl1 : L1.length ≤ 140737488355328) (hl2 : L2.length ≤ 140737488355328) :
    Calls Tryz.prog 25 #[.agg #[.string n1, v1], .agg #[.string n2, v2]] w fun e w' => e = .returned (.bool (decide (((n1, L1) : Sr) = (n2, L2)))) ∧ Below w.heap.size w w' := by
  obtain ⟨a1, k1, rfl, hg1⟩ := h1.get
  obtain ⟨a2, k2, rfl, hg2⟩ := h2.get
  obtain ⟨A, hA⟩ : ∃ A, A = decide (((n1, L1) : Sr) = (n2, L2)) := ⟨_, rfl⟩
  rw [← hA]
  obtain ⟨m1, hm1⟩ : ∃ m, m = L1.length := ⟨_, rfl⟩
  obtain ⟨m2, hm2⟩ : ∃ m, m = L2.length := ⟨_, rfl⟩
  have HA := Lib.hid hA
  have M1 := Lib.hid hm1
  have M2 := Lib.hid hm2
  have G1 := Lib.hid hg1
  have G2 := Lib.hid hg2
  rw [← hm1] at hl1 G1 ⊢
  rw [← hm2] at hl2 G2 ⊢
  obtain ⟨W1, hW1⟩ : ∃ W, W = w.alloc (.cells #[.string n1, .slice a1 m1 k1] 30) := ⟨_, rfl⟩
  obtain ⟨W, hW⟩ : ∃ W, W = W1.alloc (.cells #[.string n2, .slice a2 m2 k2] 30) := ⟨_, rfl⟩
  obtain ⟨x, hx⟩ : ∃ x, x = w.heap.size := ⟨_, rfl⟩
  obtain ⟨y, hy⟩ : ∃ y, y = x + 1 := ⟨_, rfl⟩
  have hyW1 : W1.heap.size = y := by rw [hW1, hy, hx]; simp
  have hx0 : W1.heap[x]? = some (.cells #[.string n1, .slice a1 m1 k1] 30 (0, 0)) := by rw [hW1, hx]; exact heap_alloc_new _ _
  have hxl : x < W1.heap.size := by rw [hW1, hx]; simp
  have hxW : W.heap[x]? = some (.cells #[.string n1, .slice a1 m1 k1] 30 (0, 0)) := by rw [hW, Lib.alloc_old _ _ _ hxl]; exact hx0
  have hyW : W.heap[y]? = some (.cells #[.string n2, .slice a2 m2 k2] 30 (0, 0)) := by rw [hW, ← hyW1]; exact heap_alloc_new _ _
  have c0 : W.cell? ⟨x, 0, none⟩ = some (.string n1) := by rw [Lib.cell_of_heap hxW]; rfl
  have c1 : W.cell? ⟨x, 1, none⟩ = some (.slice a1 m1 k1) := by rw [Lib.cell_of_heap hxW]; rfl
  have c2 : W.cell? ⟨y, 0, none⟩ = some (.string n2) := by rw [Lib.cell_of_heap hyW]; rfl
  have c3 : W.cell? ⟨y, 1, none⟩ = some (.slice a2 m2 k2) := by rw [Lib.cell_of_heap hyW]; rfl
  have bW := Lib.hid (show Below w.heap.size w W by
    rw [hW]
    refine Below.alloc ?_ (by rw [← hx]; omega) _
    rw [hW1]; exact (Below.refl _ w).alloc (Nat.le_refl _) _)
  have YW := Lib.hid (show y < W.heap.size by rw [hW]; simp; omega)
  have XW := Lib.hid (show x < W.heap.size by have := YW.out; omega)
  clear h1 h2 hg1 hg2 hm1 hm2 hA hx0 hxl hxW hyW hyW1
  go_enter Tryz.func25, Tryz.ntmps25
  go_upto_region 1 with (fail)
  rw [← hW1, ← hW, ← hx, ← hy]
  clear hW1 hW hx hy
  by_cases hn : n1 = n2
  case neg =>
    have q : (n1.toList == n2.toList) = false := toList_ne hn
    have e : A = false := by rw [HA.out]; exact decide_eq_false (fun e => hn (congrArg Prod.fst e))
    subst e
    clear hn
    go_wp2_with fail
    go_ret
    exact ⟨rfl, bW.out⟩
  have q : (n1.toList == n2.toList) = true := toList_eq hn
  have HNN := Lib.hid hn
  clear hn
  by_cases hm : m1 = m2
  case neg =>
    have q2 : ((m1 : Int) == (m2 : Int)) = false := by simp; omega
    have q3 : ((m1 : Int) != (m2 : Int)) = true := by simp; omega
    have e : A = false := by rw [HA.out]; exact decide_eq_false (fun e => hm (by rw [M1.out, M2.out]; exact congrArg (fun s : Sr => s.2.length) e))
    subst e
    have HM := Lib.hid hm
    clear hm
    go_wp2_with fail
    go_ret
    exact ⟨rfl, bW.out⟩
  subst hm
  go_wp2_with fail
  go_loopw [5, 23] (fun _ i wr => ∃ k : Nat, k ≤ m1 ∧ i = .int .i64 (k : Nat) ∧ Hid (∀ j, j < k → L1.getD j t0 = L2.getD j t0) ∧ Hid (Below W.heap.size W wr)) (fun _ i _ => m1 - (intOf i).toNat)
  case atStart => exact ⟨0, Nat.zero_le _, rfl, Lib.hid (fun j hj => by omega), Lib.hid (Below.refl _ _)⟩
  case round =>
    obtain ⟨k, hk, rfl, HE, BW⟩ := hrel
    have B0 := Lib.hid (bW.out.trans (BW.out.mono bW.out.size))
    by_cases hkn : k < m1
    case neg =>
      obtain rfl : k = m1 := by omega
      have e : A = true := by rw [HA.out]; exact decide_eq_true (same_of HNN.out (by rw [← M1.out, ← M2.out]) (fun j hj => HE.out j (by rw [M1.out]; exact hj)))
      subst e
      clear hkn
      go_wp2_with fail
      go_ret
      exact ⟨rfl, B0.out⟩
    obtain ⟨b1, o1, rfl, hnc1, hb1, hT1⟩ := G1.out k hkn
    obtain ⟨b2, o2, rfl, hnc2, hb2, hT2⟩ := G2.out k hkn
    obtain ⟨x0, x1⟩ := hT1 wr B0.out
    obtain ⟨x2, x3⟩ := hT2 wr B0.out
    obtain ⟨⟨ka, va⟩, hkv1⟩ : ∃ y, y = L1.getD k t0 := ⟨_, rfl⟩
    obtain ⟨⟨kb, vb⟩, hkv2⟩ : ∃ y, y = L2.getD k t0 := ⟨_, rfl⟩
    rw [← hkv1] at x0 x1
    rw [← hkv2] at x2 x3
    have K1 := Lib.hid hkv1
    have K2 := Lib.hid hkv2
    have hk0 : (0 : Int) ≤ (k : Int) := by omega
    have z0 : wr.cell? ⟨x, 1, none⟩ = some (.slice (some ⟨b1, o1, none⟩) m1 k1) := (BW.out.cell (p := ⟨x, 1, none⟩) XW.out).trans c1
    have z1 : wr.cell? ⟨y, 1, none⟩ = some (.slice (some ⟨b2, o2, none⟩) m1 k2) := (BW.out.cell (p := ⟨y, 1, none⟩) YW.out).trans c3
    clear hT1 hT2 hkv1 hkv2 c0 c1 c2 c3
    by_cases he : ((ka, va) : Tg) = (kb, vb)
    · have NE : ∀ y, (binOp .neq 36 (.agg #[.string ka, .string va]) (.agg #[.string kb, .string vb])).run Tryz.prog y = .ok (.bool false) y := fun y => by
        have := neq37 y (ka, va) (kb, vb)
        rwa [decide_eq_true he] at this
      have EK := Lib.hid (show L1.getD k t0 = L2.getD k t0 by rw [← K1.out, ← K2.out]; exact he)
      clear he
      go_wp2_with fail
      go_quiet (fail)
      go_wp2_with fail
      go_roundw
      case rel =>
        refine ⟨k + 1, by omega, by go_num, Lib.hid fun j hj => ?_, Lib.hid (bdn BW.out _)⟩
        by_cases e : j = k
        · rw [e]; exact EK.out
        · exact HE.out j (by omega)
      case measure => simp [intOf]; omega
    · have NE : ∀ y, (binOp .neq 36 (.agg #[.string ka, .string va]) (.agg #[.string kb, .string vb])).run Tryz.prog y = .ok (.bool true) y := fun y => by
        have := neq37 y (ka, va) (kb, vb)
        rwa [decide_eq_false he] at this
      have e : A = false := by
        rw [HA.out]
        refine decide_eq_false fun e => he ?_
        rw [K1.out, K2.out, show L1 = L2 from congrArg Prod.snd e]
      subst e
      clear he
      go_wp2_with fail
      go_quiet (fail)
      go_wp2_with fail
      go_ret
      exact ⟨rfl, bdn B0.out _⟩
end Sq
end Go.Proofs.YtalanjhpacjmmaaGreat
