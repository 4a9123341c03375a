/- noteUpTo. -/
import Derived.Test.YtbmdjmckgcjfcaaNp
namespace Go.Proofs.Ytbmdjmckgcjfcaa
open Go.RowKit Go.Maps Go.ChangeMaps Go.MapKept
namespace Np
open Lm Bs Fa Lp

/-- Ahead of a place's note: the maps are those of its row. -/
def Mid (w : World) (S : Nat → Prop) (g : Nat) (v : Value) (b : List Nat) (N m1 m2 : Nat) : Prop :=
  ∃ s n1 n2, (S g ∧ S m1 ∧ S m2) ∧ (m1 ≠ m2 ∧ m1 ≠ g ∧ m2 ≠ g) ∧ Hp w g v N m1 m2 ∧ RowAt (N + 1) s ∧ (n1 ≤ N ∧ n2 ≤ N) ∧ Mp.Is w m1 n1 (fun k => last b s k N) ∧ Mp.Is w m2 n2 (fun k => last b (s - 65536) k s)

theorem mid_put {w w' : World} {S : Nat → Prop} {g : Nat} {v : Value} {b : List Nat} {N m1 m2 : Nat} (hX : ∀ x ∈ b, x < 256) (hN : N ≤ 140737488353272) (h : Mid w S g v b N m1 m2) (hrun : (Instr.mapUpdate 48 (.map (some m1)) (.int .u32 (f4 b N : Nat)) (.int .i64 (N : Nat))).run Try.prog w = .ok () w') :
    Ps (w'.setCell ⟨g, 1, none⟩ (.int .i64 ((N + 1 : Nat) : Int))) S g v b (N + 1) ∧ Chg w w' S ∧ Hp w' g v N m1 m2 := by
  obtain ⟨s, n1, n2, hS, hne, hp, hr, hn, i1, i2⟩ := h
  obtain ⟨w1, hrun1, i1', t⟩ := i1.put (k := f4 b N) (f4_lt hX N) hN (by omega)
  rw [hrun] at hrun1
  cases hrun1
  have gr := t.grown
  have hb : ∀ k, k < w.heap.size → k ≠ m1 → w'.heap[k]? = w.heap[k]? := fun k hk hne => gr.block k hk (fun e => hne (by cases e; rfl))
  have hp' := hp.of_block (hb g hp.lt (Ne.symm hne.2.1)) gr.size
  have i2' := i2.of_block (hb m2 i2.lt (Ne.symm hne.1))
  have o : ∀ k, k ≠ g → (w'.setCell ⟨g, 1, none⟩ (.int .i64 ((N + 1 : Nat) : Int))).heap[k]? = w'.heap[k]? := fun k hk => heap_setCell_other _ _ _ _ hk
  refine ⟨⟨m1, m2, s, n1 + 1, n2, hS, hne, hp'.inc, hr, ⟨by omega, by omega⟩, (i1'.ext fun k => ?_).of_block (o m1 hne.2.1), i2'.of_block (o m2 hne.2.2)⟩, (Chg.refl w S).turned hS.2.1 t, hp'⟩
  exact (last_succ (by have := hr.2.2.2 (by omega); omega) k).symm

/-- A row of places is forgotten: the maps change places, the newer one is cleared. -/
theorem mid_new {w w2 : World} {S : Nat → Prop} {g : Nat} {v : Value} {b : List Nat} {N m1 m2 s n1 n2 : Nat} (h0 : N % 65536 = 0) (hS : S g ∧ S m1 ∧ S m2) (hne : m1 ≠ m2 ∧ m1 ≠ g ∧ m2 ≠ g) (hp : Hp w g v N m1 m2) (hr : RowAt N s) (hn : n1 ≤ N ∧ n2 ≤ N)
    (i1 : Mp.Is w m1 n1 (fun k => last b s k N)) (i2 : Mp.Is w2 m2 0 (fun _ => none)) (t : ((w.setCell ⟨g, 2, none⟩ (.map (some m2))).setCell ⟨g, 3, none⟩ (.map (some m1))).drew.mapTurned w2 m2) : Mid w2 S g v b N m2 m1 ∧ Chg w w2 S := by
  obtain ⟨hr2, hs⟩ := rowAt_new hr h0
  have gr := t.grown
  obtain ⟨X, hX⟩ : ∃ X, X = ((w.setCell ⟨g, 2, none⟩ (.map (some m2))).setCell ⟨g, 3, none⟩ (.map (some m1))).drew := ⟨_, rfl⟩
  have o : ∀ k, k ≠ g → X.heap[k]? = w.heap[k]? := fun k hk => by rw [hX]; exact (heap_setCell_other _ _ _ _ hk).trans (heap_setCell_other _ _ _ _ hk)
  have sw := hp.swap
  rw [← hX] at sw t gr
  have cx : Chg w X S := by rw [hX]; exact (((Chg.refl w S).setCell hS.1 _).setCell hS.1 _).drew
  have hb : ∀ k, k < X.heap.size → k ≠ m2 → w2.heap[k]? = X.heap[k]? := fun k hk hne => gr.block k hk (fun e => hne (by cases e; rfl))
  have xs : w.heap.size ≤ X.heap.size := cx.size
  refine ⟨⟨N, 0, n1, ⟨hS.1, hS.2.2, hS.2.1⟩, ⟨Ne.symm hne.1, hne.2.2, hne.2.1⟩, sw.of_block (hb g sw.lt (Ne.symm hne.2.2)) gr.size, hr2, ⟨Nat.zero_le _, hn.1⟩, i2.ext fun k => (last_low b N k (Nat.le_refl _)).symm, ?_⟩, cx.turned hS.2.2 t⟩
  rw [← hs]
  exact (i1.of_block (o m1 hne.2.1)).of_block (hb m1 (by have := i1.lt; omega) hne.1)

theorem mid_drew {w : World} {S : Nat → Prop} {g : Nat} {v : Value} {b : List Nat} {N m1 m2 : Nat} (h : Mid w S g v b N m1 m2) (m : Nat) : Mid (w.drew.drewN m) S g v b N m1 m2 := by
  obtain ⟨s, n1, n2, hS, hne, hp, hr, hn, i1, i2⟩ := h
  exact ⟨s, n1, n2, hS, hne, hp.of_block rfl (Nat.le_refl _), hr, hn, i1.of_block rfl, i2.of_block rfl⟩
theorem mid_run {w : World} {S : Nat → Prop} {g : Nat} {v : Value} {b : List Nat} {N m1 m2 : Nat} (hX : ∀ x ∈ b, x < 256) (hN : N ≤ 140737488353272) (h : Mid w S g v b N m1 m2) : ∃ w', (Instr.mapUpdate 48 (.map (some m1)) (.int .u32 (f4 b N : Nat)) (.int .i64 (N : Nat))).run Try.prog w = .ok () w' := by
  obtain ⟨s, n1, n2, hS, hne, hp, hr, hn, i1, i2⟩ := h
  obtain ⟨w1, hrun1, _⟩ := i1.put (k := f4 b N) (f4_lt hX N) hN (by omega)
  exact ⟨w1, hrun1⟩
theorem Ps.mem {w : World} {S : Nat → Prop} {g : Nat} {v : Value} {b : List Nat} {N : Nat} (h : Ps w S g v b N) : S g := by
  obtain ⟨m1, m2, s, n1, n2, hS, _⟩ := h
  exact hS.1

set_option maxRecDepth 100000 in
set_option maxHeartbeats 2000000 in
theorem note20 (w : World) (S R : Nat → Prop) (g : Nat) (v : Value) (b : List Nat) (N a : Nat) (hP : Ps w S g v b N) (hS : Src w R v b) (hR : ∀ k, R k → ¬ S k) (hX : ∀ x ∈ b, x < 256) (hNa : N ≤ a) (ha : a + 4 ≤ b.length) (hl : b.length ≤ 140737488353272) :
    Calls Try.prog 20 #[.pointer (some ⟨g, 0, none⟩), .int .i64 (a : Nat)] w fun e w' => e = .returned (.tuple #[]) ∧ Ps w' S g v b a ∧ Chg w w' S := by
  obtain ⟨ad, c, rfl⟩ := hS.forms
  obtain ⟨n, hn⟩ : ∃ n, n = b.length := ⟨_, rfl⟩
  rw [← hn] at hP hS ha hl ⊢
  have HX := Lib.hid hX
  have HP := Lib.hid hP
  have HNL := Lib.hid hn
  have FS : Hid (∀ x, Chg w x S → Src x R (.slice ad n c) b) := Lib.hid fun x c => hS.move fun k hk hlt => c.block k hlt (hR k hk)
  clear hX hP hS hR hn
  go_enter Try.func20, Try.ntmps20
  go_wp2_with fail
  go_loopg [] (a - N) (fun gk wr => ∃ M, gk = a - M ∧ M ≤ a ∧ Ps wr S g (.slice ad n c) b M ∧ Chg w wr S)
  case atStart => exact ⟨N, rfl, hNa, HP.out, Chg.refl _ _⟩
  case round =>
    obtain ⟨M, rfl, hM, ⟨m1, m2, s, n1, n2, hS, hne, hp, hr, hn, i1, i2⟩, hch⟩ := hrel
    have c0 := hp.c0
    have c1 := hp.c1
    have c2 := hp.c2
    have c3 := hp.c3
    have z1 := hp.z1
    have z2 := hp.z2
    have z3 := hp.z3
    have HH := Lib.hid hp
    have HI1 := Lib.hid i1
    have HI2 := Lib.hid i2
    have HC := Lib.hid hch
    have HR := Lib.hid hr
    have HSS := Lib.hid hS
    have HNE := Lib.hid hne
    have HNN := Lib.hid hn
    clear hp i1 i2 hch hr hS hne hn
    by_cases hlt : M < a
    · by_cases h0 : M % 65536 = 0
      case' pos =>
        have hb0 : ((M : Int) % 65536 == 0) = true := by rw [beq_iff_eq]; omega
        go_upto_region 3 with (fail)
        go_region
        obtain ⟨X, hXw⟩ : ∃ X, X = ((wr.setCell ⟨g, 2, none⟩ (.map (some m2))).setCell ⟨g, 3, none⟩ (.map (some m1))).drew := ⟨_, rfl⟩
        have hsw := HH.out.swap
        have hi2 : Mp.Is X m2 n2 (fun k => last b (s - 65536) k s) := HI2.out.of_block (by rw [hXw]; exact (heap_setCell_other _ _ _ _ HNE.out.2.2).trans (heap_setCell_other _ _ _ _ HNE.out.2.2))
        rw [← hXw] at hsw ⊢
        have d2 := hsw.c2
        obtain ⟨w2, hclr, hj2, ht2⟩ := hi2.clear
        rw [hXw] at ht2
        have HM : Hid (Mid w2 S g (.slice ad n c) b M m2 m1 ∧ Chg w w2 S) := Lib.hid (by have h := mid_new h0 HSS.out HNE.out HH.out HR.out HNN.out HI1.out hj2 ht2; exact ⟨h.1, HC.out.trans h.2⟩)
        clear c0 c1 c2 c3 z1 z2 z3 hi2 ht2 hj2 hsw hXw
        go_wp2_with (at_builtin; refine Mp.wpList_clear rfl (.tmp 40) rfl m2 rfl hclr ?_)
        obtain ⟨ma, rfl⟩ : ∃ ma, ma = m2 := ⟨_, rfl⟩
        obtain ⟨mb, rfl⟩ : ∃ mb, mb = m1 := ⟨_, rfl⟩
        clear hclr d2 hb0 HH HI1 HI2 HC HR HSS HNE HNN
      case' neg =>
        have hb0 : ((M : Int) % 65536 == 0) = false := by rw [beq_eq_false_iff_ne]; omega
        go_upto_region 5 with (fail)
        obtain ⟨w2, rfl⟩ : ∃ w2, w2 = wr := ⟨_, rfl⟩
        obtain ⟨ma, rfl⟩ : ∃ ma, ma = m1 := ⟨_, rfl⟩
        obtain ⟨mb, rfl⟩ : ∃ mb, mb = m2 := ⟨_, rfl⟩
        have HM : Hid (Mid w2 S g (.slice ad n c) b M ma mb ∧ Chg w w2 S) := Lib.hid ⟨⟨s, n1, n2, HSS.out, HNE.out, HH.out, rowAt_on HR.out h0, HNN.out, HI1.out, HI2.out⟩, HC.out⟩
        clear c0 c1 c2 c3 z1 z2 z3 hb0 HH HI1 HI2 HC HR HSS HNE HNN
      all_goals
        obtain ⟨f2, f0, f1⟩ : w2.drew.cell? ⟨g, 2, none⟩ = some (.map (some ma)) ∧ w2.drew.cell? ⟨g, 0, none⟩ = some (.slice ad n c) ∧ w2.drew.cell? ⟨g, 1, none⟩ = some (.int .i64 (M : Nat)) := by
          obtain ⟨s, n1, n2, _, _, hp, _⟩ := HM.out.1
          exact ⟨hp.c2, hp.c0, hp.c1⟩
        have F21 : Hid (Calls Try.prog 21 #[.slice ad n c, .int .i64 (M : Nat)] w2.drew fun e x => e = .returned (.int .u32 (f4 b M : Nat)) ∧ ∃ m, x = w2.drew.drewN m) := Lib.hid (fourAt21 _ R _ b M (FS.out _ HM.out.2.drew) HX.out (by have := HNL.out; omega) (by have := HNL.out; omega))
        have HPUT : Hid (∀ x, (∃ m, x = w2.drew.drewN m) → ∃ w9, (Instr.mapUpdate 48 (.map (some ma)) (.int .u32 (f4 b M : Nat)) (.int .i64 (M : Nat))).run Try.prog x = .ok () w9 ∧ (Ps (w9.setCell ⟨g, 1, none⟩ (.int .i64 ((M + 1 : Nat) : Int))) S g (.slice ad n c) b (M + 1) ∧ Chg w w9 S ∧ Hp w9 g (.slice ad n c) M ma mb) ∧ (x.cell? ⟨g, 2, none⟩ = some (.map (some ma)) ∧ x.cell? ⟨g, 0, none⟩ = some (.slice ad n c) ∧ x.cell? ⟨g, 1, none⟩ = some (.int .i64 (M : Nat)))) := Lib.hid fun x hx => by
          obtain ⟨m, rfl⟩ := hx
          obtain ⟨hM1, hM2⟩ := HM.out
          have hM3 : Mid (w2.drew.drewN m) S g (.slice ad n c) b M ma mb := mid_drew hM1 m
          obtain ⟨w9, hrun⟩ := mid_run HX.out (by omega) hM3
          have h9 := mid_put HX.out (by omega) hM3 hrun
          exact ⟨w9, hrun, ⟨h9.1, (hM2.drew.drewN m).trans h9.2.1, h9.2.2⟩, f2, f0, f1⟩
        clear HM
        go_region_held (fun x => x.cell? ⟨g, 2, none⟩ = some (.map (some ma)) ∧ x.cell? ⟨g, 0, none⟩ = some (.slice ad n c) ∧ x.cell? ⟨g, 1, none⟩ = some (.int .i64 (M : Nat)))
          (first | exact ⟨f2, f0, f1⟩ | exact k9 | exact j9)
          (first | (go_at_call 21; refine F21.out.mono ?_; rintro e x9 ⟨rfl, hx9⟩; obtain ⟨w9, r9, p9, k9⟩ := HPUT.out x9 hx9; have j9 := (show w9.cell? ⟨g, 2, none⟩ = some (.map (some ma)) ∧ w9.cell? ⟨g, 0, none⟩ = some (.slice ad n c) ∧ w9.cell? ⟨g, 1, none⟩ = some (.int .i64 (M : Nat)) from ⟨p9.2.2.c2, p9.2.2.c0, p9.2.2.c1⟩); have P9 := Lib.hid p9; clear hx9 p9))
        have c1 := P9.out.2.2.c1
        have z1 := P9.out.2.2.z1
        clear k9 j9 r9
        go_wp2_with fail
        go_roundg (a - (M + 1))
        case measure => omega
        case rel => exact ⟨M + 1, rfl, by omega, P9.out.1, P9.out.2.1.setCell (Ps.mem P9.out.1) _⟩
    · obtain rfl : M = a := by omega
      have hPS : Hid (Ps wr S g (.slice ad n c) b M) := Lib.hid ⟨m1, m2, s, n1, n2, HSS.out, HNE.out, HH.out, HR.out, HNN.out, HI1.out, HI2.out⟩
      clear c0 c2 c3 z1 z2 z3 HH HI1 HI2 HR HSS HNE HNN
      go_wp2_with fail
      go_end0
      exact ⟨rfl, hPS.out, HC.out⟩
end Np
end Go.Proofs.Ytbmdjmckgcjfcaa
