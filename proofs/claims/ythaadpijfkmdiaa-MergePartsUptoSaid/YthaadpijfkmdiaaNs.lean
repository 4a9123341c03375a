/- SamePoints, SameColumns: of the same. -/
import Derived.Test.YthaadpijfkmdiaaNk
import Derived.Laws.StructEq
import Derived.Deep.RegionHeldLaw
namespace Go.Proofs.Ythaadpijfkmdiaa
open Go.RowKit
namespace Ns
open Jb Ca Ga Nm Na Nj Nk

theorem neqP (w : World) (t a z : Int) (s : ByteArray) :
    (binOp .neq 65 (.agg #[.int .i64 t, .int .i64 a, .int .u64 z, .string s]) (.agg #[.int .i64 t, .int .i64 a, .int .u64 z, .string s])).run Try.prog w = .ok (.bool false) w := by
  rw [run_neq_struct, run_equalIn_agg _ _ _ _ _ (by kernel_rfl) Try.stoodInHeld65]
  simp [go_sem, Program.fieldsOf, Try.underlying65, Try.underlying63]
set_option maxRecDepth 100000
set_option maxHeartbeats 4000000
theorem samep17 (w : World) (v u : Value) (L : List V4) (h : Sl w v L) (g : Sl w u L) (hD : ∀ z ∈ L, Dt z) (hn : L.length ≤ 1000000000) :
    Calls Try.prog 17 #[v, u] w fun e w' => e = .returned (.bool true) ∧ Below w.heap.size w w' := by
  obtain ⟨a, c, rfl, hg⟩ := h.get
  obtain ⟨a', c', rfl, hg'⟩ := g.get
  obtain ⟨n, hN⟩ : ∃ n, n = L.length := ⟨_, rfl⟩
  have HD := Lib.hid (show ∀ i, i < n → Dt (L.getD i d4) from fun i hi => hD _ (by rw [List.getD_eq_getElem?_getD, List.getElem?_eq_getElem (by rw [← hN]; exact hi)]; exact List.getElem_mem _))
  have HG := Lib.hid hg
  have HG' := Lib.hid hg'
  rw [← hN] at hn HG HG' ⊢
  clear h g hg hg' hN hD
  go_enter Try.func17, Try.ntmps17
  go_wp2_with fail
  go_loopw [13, 5] (fun i _ wr => ∃ q, q ≤ n ∧ i = .int .i64 (q : Nat) ∧ Hid (Below w.heap.size w wr)) (fun i _ _ => n - (intOf i).toNat)
  case atStart => exact ⟨0, Nat.zero_le _, rfl, Lib.hid (Below.refl _ _)⟩
  case round =>
    obtain ⟨q, hq, rfl, HB⟩ := hrel
    by_cases hqn : q < n
    case neg =>
      obtain rfl : q = n := by omega
      go_wp2_with fail
      go_ret
      exact ⟨rfl, HB.out⟩
    obtain ⟨b, off, rfl, hnc, hb, hT⟩ := HG.out q hqn
    obtain ⟨b', off', rfl, hnc', hb', hT'⟩ := HG'.out q hqn
    obtain ⟨wa, rfl⟩ : ∃ wa, wa = wr := ⟨_, rfl⟩
    obtain ⟨x0, x1, x2, x3⟩ := hT wa HB.out
    obtain ⟨y0, y1, y2, y3⟩ := hT' wa HB.out
    have zb := HB.out.size
    have hbz : b < wa.heap.size := by omega
    have hbz' : b' < wa.heap.size := by omega
    obtain ⟨t, k, z, s, e⟩ := HD.out q hqn
    rw [e] at x0 x1 x2 x3 y0 y1 y2 y3
    simp only at x0 x1 x2 x3 y0 y1 y2 y3
    have qN := fun (y : World) => neqP y t k z s
    clear hT hT' HG HG' e
    go_wp2_with fail
    go_quiet (fail)
    all_goals
      go_wp2_with fail
      go_roundw
    case rel => exact ⟨q + 1, by omega, by go_num, Lib.hid (La.bdn HB.out _)⟩
    case measure => simp [intOf]; omega
theorem samec8 (w : World) (v u : Value) (C C' : List C3) (rw9 : Nat → List V4) (H : Cs w v C) (G : Cs w u C') (hl : C.length = C'.length) (hn : C.length ≤ 1000000000)
    (hC : ∀ i, i < C.length → nm (C.getD i c0) = nm (C'.getD i c0) ∧ Sl w (C.getD i c0).2.2 (rw9 i) ∧ Sl w (C'.getD i c0).2.2 (rw9 i) ∧ (∀ z ∈ rw9 i, Dt z) ∧ (rw9 i).length ≤ 1000000000) :
    Calls Try.prog 8 #[v, u] w fun e w' => e = .returned (.bool true) ∧ Below w.heap.size w w' := by
  obtain ⟨va, vc, rfl, hat⟩ := H
  obtain ⟨ua, uc, rfl, hau⟩ := G
  obtain ⟨n, hN⟩ : ∃ n, n = C.length := ⟨_, rfl⟩
  have AT := Lib.hid (show ∀ q, q < n → ∃ (tb tp ob oo : Nat) (s f : ByteArray) (ra r'a : Option Addr) (l rc r'c : Nat), va = some ⟨tb, tp, none⟩ ∧ n ≤ vc ∧ ua = some ⟨ob, oo, none⟩ ∧ n ≤ uc ∧ ∀ y, Below w.heap.size w y → ((y.cell? ⟨tb, tp + q * 3, none⟩ = some (.string s) ∧ y.cell? ⟨tb, tp + q * 3 + 1, none⟩ = some (.string f) ∧ y.cell? ⟨tb, tp + q * 3 + 2, none⟩ = some (.slice ra l rc)) ∧ (y.cell? ⟨ob, oo + q * 3, none⟩ = some (.string s) ∧ y.cell? ⟨ob, oo + q * 3 + 1, none⟩ = some (.string f) ∧ y.cell? ⟨ob, oo + q * 3 + 2, none⟩ = some (.slice r'a l r'c))) ∧ Calls Try.prog 17 #[.slice ra l rc, .slice r'a l r'c] y fun e w' => e = .returned (.bool true) ∧ Below y.heap.size y w' from fun q hq => by
    obtain ⟨tb, tp, e1, h1, h2, h3⟩ := hat q (by omega)
    obtain ⟨ob, oo, e2, g1, g2, g3⟩ := hau q (by omega)
    obtain ⟨k1, k2, k3, k4, k5⟩ := hC q (by omega)
    generalize C.getD q c0 = x at h3 k1 k2
    generalize C'.getD q c0 = y at g3 k1 k3
    obtain ⟨x0, x1, x2⟩ := x
    obtain ⟨y0, y1, y2⟩ := y
    cases k1
    obtain ⟨ra, rc, hx⟩ := k2.forms
    obtain ⟨r'a, r'c, hy⟩ := k3.forms
    simp only at hx hy
    subst hx hy
    refine ⟨tb, tp, ob, oo, x0, x1, ra, r'a, (rw9 q).length, rc, r'c, e1, by omega, e2, by omega, fun y hy => ⟨⟨h3.of_block (hy.block tb h2), g3.of_block (hy.block ob g2)⟩, ?_⟩⟩
    exact samep17 y _ _ (rw9 q) (k2.below hy (Nat.le_refl _)) (k3.below hy (Nat.le_refl _)) k4 k5)
  rw [← hN] at hl hn ⊢
  rw [← hl]
  clear hat hau hN hC hl
  go_enter Try.func8, Try.ntmps8
  go_wp2_with fail
  go_loopw [13, 5] (fun ct _ wr => ∃ q, q ≤ n ∧ ct = .int .i64 (q : Nat) ∧ Hid (Below w.heap.size w wr)) (fun ct _ _ => n - (intOf ct).toNat)
  case atStart => exact ⟨0, Nat.zero_le _, rfl, Lib.hid (Below.refl _ _)⟩
  case round =>
    obtain ⟨q, hq, rfl, HB⟩ := hrel
    by_cases hqn : q < n
    case neg =>
      obtain rfl : q = n := by omega
      go_wp2_with fail
      go_ret
      exact ⟨rfl, HB.out⟩
    obtain ⟨tb, tp, ob, oo, s, f, ra, r', l, rc, rc', rfl, hnc, rfl, hoc, CE⟩ := AT.out q hqn
    have CX := Lib.hid (fun y hy => (CE y hy).1)
    have zb := HB.out.size
    have kX := CX.out wr.drew HB.out.drew
    have q1 : (s.toList != s.toList) = false := by simp
    have q2 : (f.toList != f.toList) = false := by simp
    have S1 := Lib.hid (CE wr.drew HB.out.drew).2
    clear CE AT
    go_wp2_with fail
    go_region_held (fun y => (y.cell? ⟨tb, tp + q * 3, none⟩ = some (.string s) ∧ y.cell? ⟨tb, tp + q * 3 + 1, none⟩ = some (.string f) ∧ y.cell? ⟨tb, tp + q * 3 + 2, none⟩ = some (.slice ra l rc)) ∧ (y.cell? ⟨ob, oo + q * 3, none⟩ = some (.string s) ∧ y.cell? ⟨ob, oo + q * 3 + 1, none⟩ = some (.string f) ∧ y.cell? ⟨ob, oo + q * 3 + 2, none⟩ = some (.slice r' l rc')))
      (first | exact kX | exact kY)
      (first | (go_at_call 17; refine S1.out.mono ?_; rintro e w3 ⟨rfl, b3⟩; have B3 := Lib.hid (HB.out.drew.trans (b3.mono zb)); have kY := CX.out w3 B3.out; clear b3))
    all_goals
      go_wp2_with fail
      go_roundw
    case rel => exact ⟨q + 1, by omega, by go_num, B3⟩
    case measure => simp [intOf]; omega
end Ns
end Go.Proofs.Ythaadpijfkmdiaa
