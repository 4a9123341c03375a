/- The document's side: read, its contracts and its short ways. -/
import Derived.Test.YtidbpoigbfpocaaDoorTv
namespace Go.Proofs.YtidbpoigbfpocaaDoor
open Go.RowKit
namespace Rr
open Bm Mt Wr Pk Rp Cv Rd Rx Ry Ux Sz Tm Ti Lu Tg

theorem part_two (bs : List Nat) : Ry.part bs 1 2 = cnt bs := by simp [Ry.part, cnt]
theorem at12 (w : World) (b off len c : Nat) (bs : List Nat) (hX : ∀ x ∈ bs, x < 256) (hl : len ≤ 140737488353272) (hj : 11 ≤ len) (hc : ∀ i, i < len → w.cell? ⟨b, off + i, none⟩ = some (.int .u8 (bs.getD i 0 : Nat))) :
    Calls Tryd.prog 38 #[.slice (some ⟨b, off, none⟩) len c, .int .i64 1, .int .i64 2] w fun e w' => e = .returned (.int .u64 (cnt bs : Nat)) ∧ w' = w := by
  have := readat38 w b off len c bs 1 2 (by decide) hX hl (by omega) hc
  rw [part_two] at this
  exact this
theorem at38 (w : World) (b off len c : Nat) (bs : List Nat) (hX : ∀ x ∈ bs, x < 256) (hl : len ≤ 140737488353272) (hj : 11 ≤ len) (hc : ∀ i, i < len → w.cell? ⟨b, off + i, none⟩ = some (.int .u8 (bs.getD i 0 : Nat))) :
    Calls Tryd.prog 38 #[.slice (some ⟨b, off, none⟩) len c, .int .i64 3, .int .i64 8] w fun e w' => e = .returned (.int .u64 (num8 bs 3 : Nat)) ∧ w' = w :=
  readat17 w b off len c bs 3 hX hl (by omega) hc

/-- What the document's read tells. -/
def Rreads (w : World) (bs : List Nat) (e : Ending) (w' : World) : Prop :=
  ∃ r q, e = .returned (.tuple #[r, .bool q]) ∧ w'.ownsRow w.heap.size 2 1 r (readR bs).length (i64s (readR bs)) ∧ (q = false → readR bs = []) ∧ Below w.heap.size w w'
theorem readR_none {bs : List Nat} (h : bs.length < 11 ∨ cnt bs < 1 ∨ 1000 < cnt bs) : readR bs = [] := by unfold readR; rw [if_pos h]
theorem readR_0 {bs : List Nat} (h : ¬ (bs.length < 11 ∨ cnt bs < 1 ∨ 1000 < cnt bs)) (h0 : bs.getD 0 0 = 0) : readR bs = tab (wh (fst bs) (rst bs)) (min (cnt bs - 1) ((rst bs).length / 8) + 1) := by unfold readR; rw [if_neg h, if_pos h0]; rfl
theorem readR_1 {bs : List Nat} (h : ¬ (bs.length < 11 ∨ cnt bs < 1 ∨ 1000 < cnt bs)) (h0 : bs.getD 0 0 = 1) (h8 : 8 ≤ (rst bs).length) : readR bs = tab (ev (fst bs) (num8 (rst bs) 0)) (cnt bs) := by
  unfold readR
  rw [if_neg h, if_neg (by omega), if_pos h0, if_pos h8, ev_tab, show cnt bs - 1 + 1 = cnt bs from by omega]
theorem readR_1s {bs : List Nat} (h : ¬ (bs.length < 11 ∨ cnt bs < 1 ∨ 1000 < cnt bs)) (h0 : bs.getD 0 0 = 1) (h8 : ¬ 8 ≤ (rst bs).length) : readR bs = [fst bs] := by
  unfold readR
  rw [if_neg h, if_neg (by omega), if_pos h0, if_neg h8]
theorem readR_2 {bs : List Nat} (h : ¬ (bs.length < 11 ∨ cnt bs < 1 ∨ 1000 < cnt bs)) (h0 : bs.getD 0 0 = 2) : readR bs = unevenT (fst bs) ((unpacks (rst bs) ((cnt bs - 1 : Nat) : Int)).getD []) := by
  unfold readR
  rw [if_neg h, if_neg (by omega), if_neg (by omega), if_pos h0]
theorem readR_3 {bs : List Nat} (h : ¬ (bs.length < 11 ∨ cnt bs < 1 ∨ 1000 < cnt bs)) (h0 : bs.getD 0 0 ≠ 0 ∧ bs.getD 0 0 ≠ 1 ∧ bs.getD 0 0 ≠ 2) : readR bs = [fst bs] := by
  unfold readR
  rw [if_neg h, if_neg h0.1, if_neg h0.2.1, if_neg h0.2.2]
theorem un_nil {F : Int} (hF : -9223372036854775808 ≤ F ∧ F ≤ 9223372036854775807) : unevenT F [] = [F] := by
  show [un F [] 0] = [F]
  rw [un_zero hF]

set_option maxRecDepth 100000 in
theorem rr_few (w : World) (a : Option Addr) (bs : List Nat) (c : Nat) (h : bs.length < 11) : Calls Tryd.prog 28 #[.slice a bs.length c] w fun e w' => Rreads w bs e w' := by
  have HR := Lib.hid (readR_none (.inl h))
  obtain ⟨n, hn⟩ : ∃ n, n = bs.length := ⟨_, rfl⟩
  rw [← hn] at h ⊢
  clear hn
  go_enter Tryd.func28, Tryd.ntmps28
  go_wp2_with fail
  go_ret2
  exact ⟨_, _, rfl, by rw [HR.out]; exact World.ownsRow_nil _ _ _ _, fun _ => HR.out, Below.refl _ _⟩

set_option maxRecDepth 100000 in
theorem rr_bad (w : World) (b off c : Nat) (bs : List Nat) (h11 : 11 ≤ bs.length) (hcell : ∀ i, i < bs.length → w.cell? ⟨b, off + i, none⟩ = some (.int .u8 (bs.getD i 0 : Nat))) (hX : ∀ x ∈ bs, x < 256) (hb : bs.length ≤ 140737488353272) (h : cnt bs < 1 ∨ 1000 < cnt bs) :
    Calls Tryd.prog 28 #[.slice (some ⟨b, off, none⟩) bs.length c] w fun e w' => Rreads w bs e w' := by
  have HR := Lib.hid (readR_none (.inr h))
  have A1 := Lib.hid (at12 w b off bs.length c bs hX hb h11 hcell)
  have hcn : cnt bs < 65536 := by
    have h1 := getD_lt hX 1
    have h2 := getD_lt hX 2
    unfold cnt
    omega
  obtain ⟨N, hN⟩ : ∃ N, N = cnt bs := ⟨_, rfl⟩
  obtain ⟨l, hl⟩ : ∃ l, l = bs.length := ⟨_, rfl⟩
  rw [← hN, ← hl] at A1
  rw [← hN] at h hcn
  rw [← hl] at h11 ⊢
  clear hN hl hcell hX hb
  rcases h with h | h
  · go_enter Tryd.func28, Tryd.ntmps28
    go_wp2_with (go_at_call 38; refine A1.out.mono ?_; rintro e w1 ⟨rfl, rfl⟩)
    go_ret2
    exact ⟨_, _, rfl, by rw [HR.out]; exact World.ownsRow_nil _ _ _ _, fun _ => HR.out, Below.refl _ _⟩
  · go_enter Tryd.func28, Tryd.ntmps28
    go_wp2_with (go_at_call 38; refine A1.out.mono ?_; rintro e w1 ⟨rfl, rfl⟩)
    go_ret2
    exact ⟨_, _, rfl, by rw [HR.out]; exact World.ownsRow_nil _ _ _ _, fun _ => HR.out, Below.refl _ _⟩
end Rr
end Go.Proofs.YtidbpoigbfpocaaDoor
