/- getText: a text read. -/
import Derived.Test.YtmlbmiegfeadjaaId
import Derived.Test.YtmlbmiegfeadjaaRg
import Derived.Test.YtmlbmiegfeadjaaGx
namespace Go.Proofs.Ytmlbmiegfeadjaa
open Go.RowKit
namespace Ie
open Ga Gm Gt
open Mt (eight eight_lt num8 bb has_bb num_byte)
open Bm (Has num num_add)
open Wr (Is u8s u8s_len u8s_get info5)
open Rd (Rh Only get_ok get_few get_bad)
open Ia Ib Ix
open Jb (str)

theorem own_of_block {w w' : World} {B t k n : Nat} {v : Value} {xs : List Value} (h : w.ownsRow B t k v n xs) (hb : ∀ j, v.ownBlock = some j → w'.heap[j]? = w.heap[j]?) : w'.ownsRow B t k v n xs := by
  obtain ⟨hl, h | ⟨g, cap, cur, rfl, hbg, hg, h1, h2, h3, h4⟩⟩ := h
  · exact ⟨hl, .inl h⟩
  · exact ⟨hl, .inr ⟨g, cap, cur, rfl, hbg, (hb g rfl).trans hg, h1, h2, h3, h4⟩⟩
theorem num_two {bs : List Nat} (h : ∀ b ∈ bs, b < 256) (p : Nat) : num (bb bs) (8 * p) 16 = n2 bs p := by
  rw [show (16 : Nat) = 8 + 8 from rfl, num_add, num_byte h, show 8 * p + 8 = 8 * (p + 1) by omega, num_byte h]
  rfl
theorem num_eight {bs : List Nat} (h : ∀ b ∈ bs, b < 256) (p : Nat) : num (bb bs) (8 * p) 64 = num8 bs p := by
  have hb : ∀ t, num (bb bs) (8 * p + 8 * t) 8 = bs.getD (p + t) 0 := fun t => by
    rw [show 8 * p + 8 * t = 8 * (p + t) from by omega, num_byte h]
  have s : ∀ m t, m = 8 * t → num (bb bs) (8 * p) (m + 8) = num (bb bs) (8 * p) m * 256 + bs.getD (p + t) 0 := fun m t e => by
    rw [num_add, e, hb]
  rw [show (64 : Nat) = 56 + 8 from rfl, s 56 7 rfl, show (56 : Nat) = 48 + 8 from rfl, s 48 6 rfl, show (48 : Nat) = 40 + 8 from rfl, s 40 5 rfl, show (40 : Nat) = 32 + 8 from rfl, s 32 4 rfl,
    show (32 : Nat) = 24 + 8 from rfl, s 24 3 rfl, show (24 : Nat) = 16 + 8 from rfl, s 16 2 rfl, show (16 : Nat) = 8 + 8 from rfl, s 8 1 rfl]
  have s0 := hb 0
  rw [Nat.mul_zero, Nat.add_zero, Nat.add_zero] at s0
  rw [s0]
  rfl
theorem n2_lt {bs : List Nat} (h : ∀ b ∈ bs, b < 256) (p : Nat) : n2 bs p ≤ 65535 := by
  have l0 := gd_lt h p
  have l1 := gd_lt h (p + 1)
  unfold n2
  omega
/-- The reader: at the byte p, or bad. -/
def Ok (w : World) (g : Nat) (s : Value) (bs : List Nat) (p : Nat) : Prop := Rh w g s bs (8 * p) false ∧ p ≤ bs.length
def Bad (w : World) (g : Nat) : Prop := Rh w g (.slice none 0 0) [] 0 true
theorem get2 (w : World) (g : Nat) (s : Value) (bs : List Nat) (p k N : Nat) (v : Nat) (hN : N = 8 * k) (hk : 1 ≤ k) (hk8 : k ≤ 8) (h : Ok w g s bs p) (hX : ∀ b ∈ bs, b < 256) (hb : bs.length ≤ 140737488353272) (hv : p + k ≤ bs.length → num (bb bs) (8 * p) N = v) :
    Calls Try.prog 40 #[.pointer (some ⟨g, 0, none⟩), .int .i64 (N : Nat)] w fun e w' => Only w w' g ∧ ((p + k ≤ bs.length ∧ e = .returned (.int .u64 (v : Nat)) ∧ Ok w' g s bs (p + k)) ∨ (bs.length < p + k ∧ e = .returned (.int .u64 0) ∧ Bad w' g)) := by
  by_cases hp : p + k ≤ bs.length
  · refine (get_ok w g s bs (8 * p) N (bb bs) h.1 (has_bb hX) (by omega) (by omega) (by omega) hb).mono ?_
    rintro e w' ⟨rfl, h1, h2⟩
    refine ⟨h2, .inl ⟨hp, by rw [hv hp], ?_, hp⟩⟩
    rw [show 8 * (p + k) = 8 * p + N by omega]; exact h1
  · have hp2 := h.2
    refine (get_few w g s bs (8 * p) h.1 N (by omega) (by omega) (by omega) hb (by omega)).mono ?_
    rintro e w' ⟨rfl, h1, h2⟩
    exact ⟨h2, .inr ⟨by omega, rfl, h1⟩⟩
theorem get2_bad (w : World) (g : Nat) (n : Int) (h : Bad w g) : Calls Try.prog 40 #[.pointer (some ⟨g, 0, none⟩), .int .i64 n] w fun e w' => e = .returned (.int .u64 0) ∧ w' = w := get_bad w g _ [] 0 h n
theorem Ok.kept {w w' : World} {g : Nat} {s : Value} {bs : List Nat} {p : Nat} (h : Ok w g s bs p) (hg : w'.heap[g]? = w.heap[g]?) (ho : ∀ k, s.ownBlock = some k → w'.heap[k]? = w.heap[k]?) (hs : w.heap.size ≤ w'.heap.size) : Ok w' g s bs p := by
  obtain ⟨h, hp⟩ := h
  obtain ⟨B, o⟩ := h.own
  exact ⟨⟨Nat.lt_of_lt_of_le h.lt hs, (World.cell?_of_block hg).trans h.c0, (World.cell?_of_block hg).trans h.c1, (World.cell?_of_block hg).trans h.c2, (World.frozen?_of_block hg).trans h.z0, (World.frozen?_of_block hg).trans h.z1, (World.frozen?_of_block hg).trans h.z2, h.ne, B, own_of_block o ho⟩, hp⟩
theorem Bad.kept {w w' : World} {g : Nat} (h : Bad w g) (hg : w'.heap[g]? = w.heap[g]?) (hs : w.heap.size ≤ w'.heap.size) : Bad w' g := by
  exact ⟨Nat.lt_of_lt_of_le h.lt hs, (World.cell?_of_block hg).trans h.c0, (World.cell?_of_block hg).trans h.c1, (World.cell?_of_block hg).trans h.c2, (World.frozen?_of_block hg).trans h.z0, (World.frozen?_of_block hg).trans h.z1, (World.frozen?_of_block hg).trans h.z2, h.ne, 0, World.ownsRow_nil _ _ _ _⟩
theorem Ok.lt {w : World} {g : Nat} {s : Value} {bs : List Nat} {p : Nat} (h : Ok w g s bs p) : g < w.heap.size ∧ ∀ k, s.ownBlock = some k → k < w.heap.size ∧ k ≠ g := by
  obtain ⟨B, o⟩ := h.1.own
  exact ⟨h.1.lt, fun k hk => ⟨(Gt.own_lt o hk).2, fun e => h.1.ne (by rw [hk, e])⟩⟩
theorem zeros_u8s (n : Nat) : (madeCells (Value.int .u8 0).cells (n * 1)).toList = u8s (List.replicate n 0) := by
  rw [show (Value.int .u8 0).cells = #[Value.int .u8 0] from rfl, toList_madeCells_one]
  simp [u8s]
theorem make_c (w : World) (y : Nat) (hy : y ≤ 65535) : ∃ w', (Instr.makeSlice 23 (.int .u64 (y : Nat)) (.int .u64 (y : Nat))).run Try.prog w = .ok (.slice (some ⟨w.heap.size, 0, none⟩) y y) w' ∧ w'.ownsRow w.heap.size 5 1 (.slice (some ⟨w.heap.size, 0, none⟩) y y) y (u8s (List.replicate y 0)) ∧ Below w.heap.size w w' := by
  obtain ⟨i0, hi, hz0, hz1, hz2⟩ := info_parts info5
  obtain ⟨w', h1, h2, h3⟩ := run_make_full (P := Try.prog) w w.heap.size 23 5 i0 (.int .u8 0) 1 Try.underlying23 hi hz0 hz1 .u64 .u64 y (by rw [hz2]; omega) (by unfold maxLen; omega) (Nat.le_refl _)
  rw [zeros_u8s] at h2
  exact ⟨w', h1, h2, ⟨h3.os, h3.tape, h3.output, h3.size, fun k hk => h3.block k hk (by simp)⟩⟩
/-- A text under way: k bytes of it are there, or the reader is bad. -/
structure Tx (w wr : World) (g : Nat) (s : Value) (bs : List Nat) (p n mb k : Nat) (X : List Nat) : Prop where
  only : Only w wr g
  own : wr.ownsRow mb 5 1 (.slice (some ⟨mb, 0, none⟩) n n) n (u8s X)
  len : X.length = n
  st : (Ok wr g s bs (p + 2 + k) ∧ X.take k = (bs.drop (p + 2)).take k) ∨ (Bad wr g ∧ bs.length < p + 2 + n)
/-- A byte more. -/
theorem Tx.step {w wr w3 : World} {g : Nat} {s : Value} {bs : List Nat} {p n mb k : Nat} {X : List Nat} (h : Tx w wr g s bs p n mb k X) (hk : k < n) (hgm : g ≠ mb) (hmw : w.heap.size ≤ mb) (hsl : ∀ k, s.ownBlock = some k → k < w.heap.size ∧ k ≠ g) (o : Only wr w3 g) (b : Nat)
    (hs : (Ok w3 g s bs (p + 2 + k + 1) ∧ X.take k = (bs.drop (p + 2)).take k ∧ b = bs.getD (p + 2 + k) 0) ∨ (Bad w3 g ∧ bs.length < p + 2 + n)) :
    ((∃ u, w3.cell? ⟨mb, k, none⟩ = some u) ∧ w3.frozen? ⟨mb, k, none⟩ = false) ∧ Tx w (w3.setCell ⟨mb, k, none⟩ (.int .u8 (b : Nat))) g s bs p n mb (k + 1) (X.set k b) := by
  have hmb := (Gt.own_lt h.own rfl).2
  have hb3 : w3.heap[mb]? = wr.heap[mb]? := o.block mb hmb (fun e => hgm e.symm)
  have own3 := own_of_block h.own (w' := w3) fun j hj => by cases hj; exact hb3
  have hcell := own3.cellAt k (by omega)
  rw [u8s_get X k (by rw [h.len]; exact hk)] at hcell
  refine ⟨⟨⟨_, hcell⟩, ?_⟩, ⟨?_, ?_, by rw [List.length_set]; exact h.len, ?_⟩⟩
  · rcases own3.2 with ⟨e, _⟩ | ⟨_, _, _, e, _, hh, _⟩
    · cases e
    · cases e; simp [World.frozen?, hh]
  · refine ⟨o.os.trans h.only.os, o.tape.trans h.only.tape, o.output.trans h.only.output, by simpa using Nat.le_trans h.only.size o.size, fun j hj hne => ?_⟩
    rw [heap_setCell_other _ _ _ _ (by simp; omega), o.block j (Nat.lt_of_lt_of_le hj h.only.size) hne]
    exact h.only.block j hj hne
  · have := (own3.stored k (.int .u8 (b : Nat))).1
    rw [show u8s (X.set k b) = (u8s X).set k (.int .u8 (b : Nat)) from Wr.u8s_set X k b]
    exact this
  · rcases hs with ⟨h1, h2, h3⟩ | ⟨h1, h2⟩
    · refine .inl ⟨h1.kept (heap_setCell_other _ _ _ _ (by simpa using hgm)) (fun j hj => heap_setCell_other _ _ _ _ (by have := (hsl j hj).1; simp; omega)) (by simp), ?_⟩
      have hl := h1.2
      rw [List.take_add_one, List.take_add_one, List.getElem?_set_self (by rw [h.len]; exact hk), List.take_set_of_le (Nat.le_refl _), h2, List.getElem?_drop, List.getElem?_eq_getElem (show p + 2 + k < bs.length by omega), h3, List.getD_eq_getElem?_getD, List.getElem?_eq_getElem (show p + 2 + k < bs.length by omega)]
      rfl
    · exact .inr ⟨h1.kept (heap_setCell_other _ _ _ _ (by simpa using hgm)) (by simp), h2⟩
set_option maxRecDepth 100000
set_option maxHeartbeats 8000000
theorem getText39 (w : World) (g : Nat) (s : Value) (bs : List Nat) (p : Nat) (h : Ok w g s bs p) (hX : ∀ b ∈ bs, b < 256) (hb : bs.length ≤ 100000000000) :
    Calls Try.prog 39 #[.pointer (some ⟨g, 0, none⟩)] w fun e w' => Only w w' g ∧ ((∃ S p', gtx 65535 bs p = some (S, p') ∧ e = .returned (.string S) ∧ Ok w' g s bs p') ∨ (gtx 65535 bs p = none ∧ (∃ S, e = .returned (.string S)) ∧ Bad w' g)) := by
  have G16 : Hid (Calls Try.prog 40 #[.pointer (some ⟨g, 0, none⟩), .int .i64 16] w fun e w' => Only w w' g ∧ ((p + 2 ≤ bs.length ∧ e = .returned (.int .u64 (n2 bs p : Nat)) ∧ Ok w' g s bs (p + 2)) ∨ (bs.length < p + 2 ∧ e = .returned (.int .u64 0) ∧ Bad w' g))) :=
    Lib.hid (get2 w g s bs p 2 16 (n2 bs p) rfl (by decide) (by decide) h hX (by omega) (fun _ => num_two hX p))
  have hn := n2_lt hX p
  obtain ⟨hgl, hsl⟩ := h.lt
  have HSL := Lib.hid hsl
  have HX := Lib.hid hX
  have HP := Lib.hid h.2
  clear h hX hsl
  go_enter Try.func39, Try.ntmps39
  go_wp2_with fail
  refine G16.out.mono ?_
  rintro e w1 ⟨o1, hcase⟩
  obtain ⟨n, st, hn, hgx, hr⟩ : ∃ n, e = .returned (.int .u64 (n : Nat)) ∧ n ≤ 65535 ∧ (bs.length < p + 2 + n → gtx 65535 bs p = none) ∧ ((Ok w1 g s bs (p + 2) ∧ (p + 2 + n ≤ bs.length → gtx 65535 bs p = some (str ((bs.drop (p + 2)).take n), p + 2 + n))) ∨ (Bad w1 g ∧ bs.length < p + 2 + n)) := by
    rcases hcase with ⟨h1, h2, h3⟩ | ⟨h1, h2, h3⟩
    · refine ⟨n2 bs p, h2, hn, fun hl => ?_, .inl ⟨h3, fun hl => ?_⟩⟩
      · unfold gtx; rw [if_neg (by omega)]
      · unfold gtx; rw [if_pos ⟨h1, hn, hl⟩]
    · refine ⟨0, h2, by omega, fun _ => ?_, .inr ⟨h3, by omega⟩⟩
      unfold gtx; rw [if_neg (by omega)]
  subst st
  clear hcase G16
  obtain ⟨w2, hmk, hown, hbel⟩ := make_c w1 n hn
  obtain ⟨mb, hmb⟩ : ∃ mb, mb = w1.heap.size := ⟨_, rfl⟩
  rw [← hmb] at hmk hown hbel
  have hmw : w.heap.size ≤ mb := by rw [hmb]; exact o1.size
  have T0 := Lib.hid (show Tx w w2 g s bs p n mb 0 (List.replicate n 0) from by
    refine ⟨o1.trans ⟨hbel.os, hbel.tape, hbel.output, hbel.size, fun k hk _ => hbel.block k (by omega)⟩, hown, by simp, ?_⟩
    rcases hr with ⟨h1, _⟩ | ⟨h1, h2⟩
    · exact .inl ⟨h1.kept (hbel.block g (by have := h1.lt.1; omega)) (fun k hk => hbel.block k (by have := (h1.lt.2 k hk).1; omega)) hbel.size, by simp⟩
    · exact .inr ⟨h1.kept (hbel.block g (by have := h1.lt; omega)) hbel.size, h2⟩)
  have GX := Lib.hid (show (bs.length < p + 2 + n → gtx 65535 bs p = none) ∧ (p + 2 + n ≤ bs.length → gtx 65535 bs p = some (str ((bs.drop (p + 2)).take n), p + 2 + n)) from ⟨hgx, fun hl => by
    rcases hr with ⟨_, h2⟩ | ⟨_, h2⟩
    · exact h2 hl
    · omega⟩)
  have hgm : g ≠ mb := by omega
  clear hown hbel hr hgx o1 hmb
  go_wp2_with fail
  go_loopw [10] (fun i wr => ∃ k X, k ≤ n ∧ i = .int .i64 (k : Nat) ∧ Hid (Tx w wr g s bs p n mb k X)) (fun i _ => n - (intOf i).toNat)
  case atStart => exact ⟨0, _, Nat.zero_le _, rfl, T0⟩
  case round =>
    obtain ⟨k, X, hk, rfl, HT⟩ := hrel
    obtain ⟨wa, rfl⟩ : ∃ wa, wa = wr := ⟨_, rfl⟩
    by_cases hkn : k < n
    case neg =>
      obtain rfl : k = n := by omega
      have hcv : (convert 23 9 (.slice (some ⟨mb, 0, none⟩) k k)).run Try.prog wa = .ok (.string (str X)) wa := by
        have o := HT.out.own
        have hl := HT.out.len
        exact Jb.conv_own (B := mb) (bs := X) (by rw [hl]; exact o)
      have FIN := Lib.hid (show (∃ S p', gtx 65535 bs p = some (S, p') ∧ (Ending.returned (.string (str X))) = .returned (.string S) ∧ Ok wa g s bs p') ∨ (gtx 65535 bs p = none ∧ (∃ S, (Ending.returned (.string (str X))) = .returned (.string S)) ∧ Bad wa g) from by
        rcases HT.out.st with ⟨h1, h2⟩ | ⟨h1, h2⟩
        · refine .inl ⟨_, _, GX.out.2 h1.2, ?_, h1⟩
          rw [List.take_of_length_le (by rw [HT.out.len]; exact Nat.le_refl _)] at h2
          rw [h2]
        · exact .inr ⟨GX.out.1 h2, ⟨_, rfl⟩, h1⟩)
      go_wp2_with fail
      go_ret
      exact ⟨HT.out.only, FIN.out⟩
    have GET : Hid (Calls Try.prog 40 #[.pointer (some ⟨g, 0, none⟩), .int .i64 8] wa fun e w3 => ∃ b, e = .returned (.int .u64 (b : Nat)) ∧ b < 256 ∧ Only wa w3 g ∧ ((Ok w3 g s bs (p + 2 + k + 1) ∧ X.take k = (bs.drop (p + 2)).take k ∧ b = bs.getD (p + 2 + k) 0) ∨ (Bad w3 g ∧ bs.length < p + 2 + n))) := Lib.hid (by
      rcases HT.out.st with ⟨h1, h2⟩ | ⟨h1, h2⟩
      · refine (get2 wa g s bs (p + 2 + k) 1 8 (bs.getD (p + 2 + k) 0) rfl (by decide) (by decide) h1 HX.out (by omega) (fun _ => num_byte HX.out _)).mono ?_
        rintro e w3 ⟨o, ⟨_, rfl, h3⟩ | ⟨h4, rfl, h3⟩⟩
        · exact ⟨_, rfl, gd_lt HX.out _, o, .inl ⟨h3, h2, rfl⟩⟩
        · exact ⟨0, rfl, by decide, o, .inr ⟨h3, by omega⟩⟩
      · refine (get2_bad wa g 8 h1).mono ?_
        rintro e w3 ⟨rfl, rfl⟩
        exact ⟨0, rfl, by decide, Only.refl _ _, .inr ⟨h1, h2⟩⟩)
    have hki : (k : Int) < (n : Int) := by omega
    have STEP := Lib.hid (fun w3 b o hs => HT.out.step (w3 := w3) hkn hgm hmw HSL.out o b hs)
    clear HT GX hmk
    go_upto_region 5 with (fail)
    go_wp2_with fail
    refine GET.out.mono ?_
    rintro e w3 ⟨b, rfl, hb8, o3, hs3⟩
    obtain ⟨⟨⟨u, hcu⟩, hfz⟩, hT3⟩ := STEP.out w3 b o3 hs3
    have T3 := Lib.hid hT3
    have hw8 : IntKind.u8.wrap ((b : Nat) : Int) = ((b : Nat) : Int) := by rw [IntKind.wrap_u8]; omega
    clear STEP GET hs3 o3 hT3
    go_wp2_with fail
    go_roundw
    case rel => exact ⟨k + 1, _, by omega, by go_num, T3⟩
    case measure => simp [intOf]; omega
end Ie
end Go.Proofs.Ytmlbmiegfeadjaa
