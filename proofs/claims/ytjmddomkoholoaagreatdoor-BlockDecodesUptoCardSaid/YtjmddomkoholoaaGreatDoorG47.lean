import Derived.Test.YtjmddomkoholoaaGreatDoorG29
import Derived.StillTailTactics

/- The document's side: read, its contracts and its short ways. -/
namespace Go.Proofs.YtjmddomkoholoaaGreatDoor
open Go.RowKit
namespace Rr
open Bm Mt Wr Pk Rp Cv Rd Rx Ry Ux Sz Tm Ti Lu Tg

theorem part_two (bs : List Nat) : Ry.part bs 1 2 = cnt bs := by simp [Ry.part, cnt]
theorem at12 (w : World) (b off len c : Nat) (bs : List Nat) (hX : ∀ x ∈ bs, x < 256) (hl : len ≤ 140737488353272) (hj : 11 ≤ len) (hc : ∀ i, i < len → w.cell? ⟨b, off + i, none⟩ = some (.int .u8 (bs.getD i 0 : Nat))) :
    Calls Tryz.prog 20 #[.slice (some ⟨b, off, none⟩) len c, .int .i64 1, .int .i64 2] w fun e w' => e = .returned (.int .u64 (cnt bs : Nat)) ∧ w' = w := by
  have := readat38 w b off len c bs 1 2 (by decide) hX hl (by omega) hc
  rw [part_two] at this
  exact this
theorem at38 (w : World) (b off len c : Nat) (bs : List Nat) (hX : ∀ x ∈ bs, x < 256) (hl : len ≤ 140737488353272) (hj : 11 ≤ len) (hc : ∀ i, i < len → w.cell? ⟨b, off + i, none⟩ = some (.int .u8 (bs.getD i 0 : Nat))) :
    Calls Tryz.prog 20 #[.slice (some ⟨b, off, none⟩) len c, .int .i64 3, .int .i64 8] w fun e w' => e = .returned (.int .u64 (num8 bs 3 : Nat)) ∧ w' = w :=
  readat17 w b off len c bs 3 hX hl (by omega) hc

/-- What the document's read tells. -/
def Rreads (w : World) (bs : List Nat) (e : Ending) (w' : World) : Prop :=
  ∃ r q, e = .returned (.tuple #[r, .bool q]) ∧ w'.ownsRow w.heap.size 2 1 r (readR bs).length (i64s (readR bs)) ∧ (q = false → readR bs = []) ∧ Below w.heap.size w w'
theorem readR_none {bs : List Nat} (h : bs.length < 11 ∨ cnt bs < 1 ∨ 1000 < cnt bs) : readR bs = [] := by unfold readR; rw [if_pos h]
theorem readR_0 {bs : List Nat} (h : ¬ (bs.length < 11 ∨ cnt bs < 1 ∨ 1000 < cnt bs)) (h0 : bs.getD 0 0 = 0) : readR bs = tab (wh (fst bs) (rst bs)) (min (cnt bs - 1) ((rst bs).length / 8) + 1) := by unfold readR; rw [if_neg h, if_pos h0]; rfl
theorem readR_1 {bs : List Nat} (h : ¬ (bs.length < 11 ∨ cnt bs < 1 ∨ 1000 < cnt bs)) (h0 : bs.getD 0 0 = 1) (h8 : 8 ≤ (rst bs).length) : readR bs = tab (ev (fst bs) (num8 (rst bs) 0)) (cnt bs) := by
  unfold readR
  rw [if_neg h, if_neg (by omega), if_pos h0, if_pos h8, ev_tab, show cnt bs - 1 + 1 = cnt bs from by omega]
theorem readR_1s {bs : List Nat} (h : ¬ (bs.length < 11 ∨ cnt bs < 1 ∨ 1000 < cnt bs)) (h0 : bs.getD 0 0 = 1) (h8 : ¬ 8 ≤ (rst bs).length) : readR bs = [fst bs] := by
  unfold readR
  rw [if_neg h, if_neg (by omega), if_pos h0, if_neg h8]
theorem readR_2 {bs : List Nat} (h : ¬ (bs.length < 11 ∨ cnt bs < 1 ∨ 1000 < cnt bs)) (h0 : bs.getD 0 0 = 2) : readR bs = unevenT (fst bs) ((unpacks (rst bs) ((cnt bs - 1 : Nat) : Int)).getD []) := by
  unfold readR
  rw [if_neg h, if_neg (by omega), if_neg (by omega), if_pos h0]
theorem readR_3 {bs : List Nat} (h : ¬ (bs.length < 11 ∨ cnt bs < 1 ∨ 1000 < cnt bs)) (h0 : bs.getD 0 0 ≠ 0 ∧ bs.getD 0 0 ≠ 1 ∧ bs.getD 0 0 ≠ 2) : readR bs = [fst bs] := by
  unfold readR
  rw [if_neg h, if_neg h0.1, if_neg h0.2.1, if_neg h0.2.2]
theorem un_nil {F : Int} (hF : -9223372036854775808 ≤ F ∧ F ≤ 9223372036854775807) : unevenT F [] = [F] := by
  show [un F [] 0] = [F]
  rw [un_zero hF]

set_option maxRecDepth 100000 in
theorem rr_few (w : World) (a : Option Addr) (bs : List Nat) (c : Nat) (h : bs.length < 11) : Calls Tryz.prog 51 #[.slice a bs.length c] w fun e w' => Rreads w bs e w' := by
  have HR := Lib.hid (readR_none (.inl h))
  obtain ⟨n, hn⟩ : ∃ n, n = bs.length := ⟨_, rfl⟩
  rw [← hn] at h ⊢
  clear hn
  go_enter Tryz.func51, Tryz.ntmps51
  go_wp2_with fail
  go_ret2
  exact ⟨_, _, rfl, by rw [HR.out]; exact World.ownsRow_nil _ _ _ _, fun _ => HR.out, Below.refl _ _⟩

set_option maxRecDepth 100000 in
theorem rr_bad (w : World) (b off c : Nat) (bs : List Nat) (h11 : 11 ≤ bs.length) (hcell : ∀ i, i < bs.length → w.cell? ⟨b, off + i, none⟩ = some (.int .u8 (bs.getD i 0 : Nat))) (hX : ∀ x ∈ bs, x < 256) (hb : bs.length ≤ 140737488353272) (h : cnt bs < 1 ∨ 1000 < cnt bs) :
    Calls Tryz.prog 51 #[.slice (some ⟨b, off, none⟩) bs.length c] w fun e w' => Rreads w bs e w' := by
  have HR := Lib.hid (readR_none (.inr h))
  have A1 := Lib.hid (at12 w b off bs.length c bs hX hb h11 hcell)
  have hcn : cnt bs < 65536 := by
    have h1 := getD_lt hX 1
    have h2 := getD_lt hX 2
    unfold cnt
    omega
  obtain ⟨N, hN⟩ : ∃ N, N = cnt bs := ⟨_, rfl⟩
  obtain ⟨l, hl⟩ : ∃ l, l = bs.length := ⟨_, rfl⟩
  rw [← hN, ← hl] at A1
  rw [← hN] at h hcn
  rw [← hl] at h11 ⊢
  clear hN hl hcell hX hb
  rcases h with h | h
  · go_enter Tryz.func51, Tryz.ntmps51
    go_wp2_with (go_at_call 20; refine A1.out.mono ?_; rintro e w1 ⟨rfl, rfl⟩)
    go_ret2
    exact ⟨_, _, rfl, by rw [HR.out]; exact World.ownsRow_nil _ _ _ _, fun _ => HR.out, Below.refl _ _⟩
  · go_enter Tryz.func51, Tryz.ntmps51
    go_wp2_with (go_at_call 20; refine A1.out.mono ?_; rintro e w1 ⟨rfl, rfl⟩)
    go_ret2
    exact ⟨_, _, rfl, by rw [HR.out]; exact World.ownsRow_nil _ _ _ _, fun _ => HR.out, Below.refl _ _⟩
end Rr
end Go.Proofs.YtjmddomkoholoaaGreatDoor

/- The document's side: read. -/
namespace Go.Proofs.YtjmddomkoholoaaGreatDoor
open Go.RowKit
namespace Rr
open Bm Mt Wr Pk Rp Cv Rd Rx Ry Ux Sz Tm Ti Lu Tg

/-- What lies open ahead of a mode's way. -/
structure Pre (w : World) (b off c l : Nat) (bs : List Nat) (N V M : Nat) (F : Int) : Prop where
  a1 : Calls Tryz.prog 20 #[.slice (some ⟨b, off, none⟩) l c, .int .i64 1, .int .i64 2] w fun e w' => e = .returned (.int .u64 (N : Nat)) ∧ w' = w
  a3 : Calls Tryz.prog 20 #[.slice (some ⟨b, off, none⟩) l c, .int .i64 3, .int .i64 8] w fun e w' => e = .returned (.int .u64 (V : Nat)) ∧ w' = w
  m0 : w.cell? ⟨b, off, none⟩ = some (.int .u8 (M : Nat))
  hb : b < w.heap.size
  l11 : 11 ≤ l
  lc : l ≤ c
  n1 : 1 ≤ N
  n2 : N ≤ 1000
  f : wrap64 (V : Nat) = F
  hF : -9223372036854775808 ≤ F ∧ F ≤ 9223372036854775807

/-- A byte kept. -/
theorem m_alloc {w : World} {b off M : Nat} (h : w.cell? ⟨b, off, none⟩ = some (.int .u8 (M : Nat))) (o : Obj) : (w.alloc o).cell? ⟨b, off, none⟩ = some (.int .u8 (M : Nat)) :=
  (((Below.refl w.heap.size w).alloc (Nat.le_refl _) o).cell (cell_lt h)).trans h

set_option maxRecDepth 100000 in
theorem rr_other (w : World) (b off c l : Nat) (bs : List Nat) (N V M : Nat) (F : Int) (P : Pre w b off c l bs N V M F) (h0 : M ≠ 0 ∧ M ≠ 1 ∧ M ≠ 2) (hR : readR bs = [F]) :
    Calls Tryz.prog 51 #[.slice (some ⟨b, off, none⟩) l c] w fun e w' => Rreads w bs e w' := by
  have HR := Lib.hid hR
  have A1 := Lib.hid P.a1
  have A3 := Lib.hid P.a3
  have HF := Lib.hid P.f
  have e0 := m_alloc P.m0 (.cells #[.int .i64 F] 2)
  have l11 := P.l11
  have lc := P.lc
  have n1 := P.n1
  have n2 := P.n2
  have m0 : ((M : Int) == 0) = false := by simp; omega
  have m1 : ((M : Int) == 1) = false := by simp; omega
  have m2 : ((M : Int) == 2) = false := by simp; omega
  have HO := Lib.hid (own_one w F)
  clear P hR h0
  by_cases hc11 : c = 11
  · have hl11 : l = 11 := by omega
    subst hl11
    subst hc11
    go_enter Tryz.func51, Tryz.ntmps51
    go_wp2_with fail
    refine A1.out.mono ?_
    rintro e w1 ⟨rfl, h1⟩
    rw [h1]
    clear h1 w1
    go_wp2_with fail
    refine A3.out.mono ?_
    rintro e w1 ⟨rfl, h1⟩
    rw [h1]
    clear h1 w1
    go_upto_region 7 with (fail)
    rw [HF.out]
    go_wp2_with fail
    go_ret2
    exact ⟨_, _, rfl, by rw [HR.out]; exact HO.out, (fun h => by cases h), (Below.refl _ _).alloc (Nat.le_refl _) _⟩
  · go_enter Tryz.func51, Tryz.ntmps51
    go_wp2_with fail
    refine A1.out.mono ?_
    rintro e w1 ⟨rfl, h1⟩
    rw [h1]
    clear h1 w1
    go_wp2_with fail
    refine A3.out.mono ?_
    rintro e w1 ⟨rfl, h1⟩
    rw [h1]
    clear h1 w1
    go_upto_region 7 with (fail)
    rw [HF.out]
    go_wp2_with fail
    go_ret2
    exact ⟨_, _, rfl, by rw [HR.out]; exact HO.out, (fun h => by cases h), (Below.refl _ _).alloc (Nat.le_refl _) _⟩
end Rr
end Go.Proofs.YtjmddomkoholoaaGreatDoor
