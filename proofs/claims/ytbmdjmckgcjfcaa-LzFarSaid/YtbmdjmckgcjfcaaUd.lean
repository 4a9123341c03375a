/- The program's Unpack. -/
import Derived.Test.YtbmdjmckgcjfcaaUc
namespace Go.Proofs.Ytbmdjmckgcjfcaa
open Go.RowKit
namespace Ua
open Lm Lu Bs Fa Fb Ch

theorem unp_A {most : Int} {out : List Nat} {n : Nat} {r : List Nat} (h : NoPiece n r) : unp most out (n :: r) = .error 2 := by
  rw [unp_cons]
  rcases h with h | ⟨h1, h2⟩ | ⟨h1, h2⟩
  · rw [if_pos h]
  · by_cases h0 : n = 0
    · rw [if_pos h0]
    · rw [if_neg h0, if_pos h1, if_pos h2]
  · rw [if_neg (by omega), if_neg (by omega)]
    by_cases h3 : r.length < 2
    · rw [if_pos h3]
    · rw [if_neg h3, if_pos (.inl (by omega))]
theorem unp_B {most : Int} {out : List Nat} {n : Nat} {r : List Nat} (h1 : 128 ≤ n) (h2 : 2 ≤ r.length) (h3 : out.length < g r 0 * 256 + g r 1) : unp most out (n :: r) = .error 2 := by
  rw [unp_cons, if_neg (by omega), if_neg (by omega), if_neg (by omega), if_pos (.inr h3)]
theorem unp_C {most : Int} {out : List Nat} {n : Nat} {r : List Nat} (h1 : 128 ≤ n) (h2 : 2 ≤ r.length) (h3 : ¬ g r 0 * 256 + g r 1 = 0) (h4 : ¬ out.length < g r 0 * 256 + g r 1) (h5 : most < (out.length : Int) + ((n - 124 : Nat) : Int)) : unp most out (n :: r) = .error 4 := by
  rw [unp_cons, if_neg (by omega), if_neg (by omega), if_neg (by omega), if_neg (by omega), if_pos h5]
theorem unp_D {most : Int} {out : List Nat} {n : Nat} {r : List Nat} (h1 : 128 ≤ n) (h2 : 2 ≤ r.length) (h3 : ¬ g r 0 * 256 + g r 1 = 0) (h4 : ¬ out.length < g r 0 * 256 + g r 1) (h5 : ¬ most < (out.length : Int) + ((n - 124 : Nat) : Int)) : unp most out (n :: r) = unp most (copyN out (g r 0 * 256 + g r 1) (n - 124)) (r.drop 2) := by
  rw [unp_cons, if_neg (by omega), if_neg (by omega), if_neg (by omega), if_neg (by omega), if_neg h5]
theorem unp_E {most : Int} {out : List Nat} {n : Nat} {r : List Nat} (h0 : n ≠ 0) (h1 : n < 128) (h2 : n ≤ r.length) (h5 : most < (out.length : Int) + n) : unp most out (n :: r) = .error 4 := by
  rw [unp_cons, if_neg h0, if_pos h1, if_neg (by omega), if_pos h5]
theorem unp_F {most : Int} {out : List Nat} {n : Nat} {r : List Nat} (h0 : n ≠ 0) (h1 : n < 128) (h2 : n ≤ r.length) (h5 : ¬ most < (out.length : Int) + n) : unp most out (n :: r) = unp most (out ++ r.take n) (r.drop n) := by
  rw [unp_cons, if_neg h0, if_pos h1, if_neg (by omega), if_neg h5]

/-- What Unpack answers. -/
def Un (w : World) (u : Except Nat (List Nat)) (e : Ending) (w' : World) : Prop :=
  (∃ l r, u = .ok l ∧ e = .returned (.tuple #[r, .int .i64 0]) ∧ w'.ownsRow w.heap.size 5 1 r l.length (u8s l) ∧ Below w.heap.size w w') ∨ (∃ k : Nat, u = .error k ∧ e = .returned (.tuple #[.slice none 0 0, .int .i64 (k : Nat)]) ∧ Below w.heap.size w w')

/-- What holds ahead of each round of Unpack. -/
def UR (w wr : World) (most : Int) (l : List Nat) (b' s : Value) (out l' : List Nat) : Prop :=
  Src wr (fun k => k < w.heap.size) b' l' ∧ wr.ownsRow w.heap.size 5 1 s out.length (u8s out) ∧ Below w.heap.size w wr ∧ unp most out l' = unp most [] l ∧ (∀ x ∈ l', x < 256) ∧ (out.length + 44 * l'.length ≤ 44 * l.length) ∧ out.length ≤ 70368744177664 ∧ l'.length ≤ l.length

theorem ur_next {w wr w2 : World} {most : Int} {l : List Nat} {b' b'' s s' : Value} {out out' l' l'' : List Nat} (h : UR w wr most l b' s out l') (hb : Below w.heap.size wr w2) (ho : w2.ownsRow w.heap.size 5 1 s' out'.length (u8s out')) (hS : Src w2 (fun k => k < w.heap.size) b'' l'') (hu : unp most out l' = unp most out' l'') (hX : ∀ x ∈ l'', x ∈ l') (hl : out'.length + 44 * l''.length ≤ out.length + 44 * l'.length)
    (hm : (out'.length : Int) ≤ most) (hbd : min most.toNat (44 * l.length) ≤ 70368744177664) (_hll : l''.length ≤ l'.length) : UR w w2 most l b'' s' out' l'' := by
  obtain ⟨h1, h2, h3, h4, h5, h6, h7, h8⟩ := h
  exact ⟨hS, ho, h3.trans hb, by rw [← hu]; exact h4, fun x hx => h5 x (hX x hx), by omega, by omega, by omega⟩

/-- The cells of what is left, in another world. -/
theorem src_from {x : World} {R : Nat → Prop} {q off L c k : Nat} {l' : List Nat} (hL : L = l'.length) (hnc : L ≤ c) (_hk : k ≤ L) (hq : R q) (hc : ∀ i, i < L → x.cell? ⟨q, off + i, none⟩ = some (.int .u8 (g l' i : Nat))) : (k < L → Src x R (.slice (some ⟨q, off + k, none⟩) (L - k) (c - k)) (l'.drop k)) ∧ (k = L → ∀ a z, Src x R (.slice a 0 z) (l'.drop k)) :=
  ⟨fun h => src_drop hL h hnc hq hc, fun h a z => src_done (by omega) a z⟩

set_option maxRecDepth 100000 in
set_option maxHeartbeats 4000000 in
theorem unpack9 (w : World) (R : Nat → Prop) (v : Value) (l : List Nat) (most : Int) (hS : Src w R v l) (hX : ∀ x ∈ l, x < 256) (hl : l.length ≤ 140737488353272) (hbd : min most.toNat (44 * l.length) ≤ 70368744177664) (m1 : -9223372036854775808 ≤ most) (m2 : most ≤ 9223372036854775807) :
    Calls Try.prog 9 #[v, .int .i64 most] w fun e w' => Un w (unp most [] l) e w' := by
  have R0 : Hid (UR w w most l v (.slice none 0 0) [] l) := Lib.hid ⟨Pa.src_lt hS, World.ownsRow_nil _ _ _ _, Below.refl _ _, rfl, hX, by simp, by simp, Nat.le_refl _⟩
  have HBD := Lib.hid hbd
  clear hS hX hbd
  go_enter Try.func9, Try.ntmps9
  go_wp2_with fail
  go_loopw [0, 6] (fun b' s wr => ∃ out l', UR w wr most l b' s out l') (fun b' _ _ => lenOf b')
  case atStart => exact ⟨[], l, R0.out⟩
  case round =>
    obtain ⟨out, l', hR⟩ := hrel
    have HR := Lib.hid hR
    obtain ⟨hs, ho, hb, hu, hX, hsz, hol, hll⟩ := hR
    clear R0
    cases l' with
    | nil =>
      have HU : Hid (Un w (unp most [] l) (.returned (.tuple #[u6, .int .i64 0])) wr) := Lib.hid (.inl ⟨out, u6, by rw [← hu, unp_nil], rfl, ho, hb⟩)
      rcases hs with ⟨_, a, c, rfl⟩ | ⟨h0, _⟩
      · clear hu hX hsz hol hll ho hb
        go_wp2_with fail
        go_ret2
        exact HU.out
      · simp at h0
    | cons n r =>
      by_cases hNP : NoPiece n r
      · have F18 := Lib.hid (read_none wr _ _ n r hs hX (by simp at hll; omega) hNP)
        have HU : Hid (∀ w', Below wr.heap.size wr w' → ∀ a b c d, Un w (unp most [] l) (.returned (.tuple #[.slice none 0 0, .int .i64 2])) (w'.alloc (.cells #[a, b, c] d))) := Lib.hid fun w' h a b c d => .inr ⟨2, by rw [← hu, unp_A hNP], rfl, (hb.trans (h.mono hb.size)).alloc (Nat.le_trans hb.size h.size) _⟩
        obtain ⟨a, c, rfl⟩ := hs.forms
        obtain ⟨L, hL⟩ : ∃ L, L = (n :: r).length := ⟨_, rfl⟩
        have hL0 : 0 < L := by rw [hL]; simp
        have hL4 : L ≤ 140737488353272 := by omega
        rw [← hL] at F18 ⊢
        clear hs ho hb hu hX hsz hol hll hNP hL
        go_wp2_with fail
        refine F18.out.mono ?_
        rintro e w2 ⟨he, b2⟩
        obtain rfl : e = .returned (.tuple #[.agg #[.slice none 0 0, .int .i64 0, .int .i64 0], .int .i64 0]) := he
        have HB2 := Lib.hid b2
        clear b2
        go_wp2_with fail
        go_ret2
        exact HU.out _ HB2.out _ _ _ _
      · rcases hs with ⟨h, _⟩ | ⟨h0, q, off, c, rfl, hnc, hq, hcell⟩
        · cases h
        obtain ⟨a6, c6, rfl⟩ := slice_any ho
        have hcx : Hid (∀ x, Below w.heap.size wr x → ∀ i, i < (n :: r).length → x.cell? ⟨q, off + i, none⟩ = some (.int .u8 (g (n :: r) i : Nat))) := Lib.hid fun x hx i hi => (hx.cell hq).trans (hcell i hi)
        have hrl : (n :: r).length = r.length + 1 := by simp
        by_cases h128 : 128 ≤ n
        · have hr2 : 2 ≤ r.length := by unfold NoPiece at hNP; omega
          have hd0 : ¬ g r 0 * 256 + g r 1 = 0 := by unfold NoPiece at hNP; omega
          have F18 := Lib.hid (by_copy wr (fun k => k < w.heap.size) _ n r (g r 0 * 256 + g r 1) (n - 124) 3 (.inr ⟨h0, q, off, c, rfl, hnc, hq, hcell⟩) hX h128 (by simp at hll; omega) (fun x hSx => copy_is x _ _ n r hSx hX h128 hr2 (by simp at hll; omega) hd0))
          have hn256 : n < 256 := hX n (by simp)
          have UB := Lib.hid (@unp_B most out n r h128 hr2)
          have UC := Lib.hid (@unp_C most out n r h128 hr2 hd0)
          have UD := Lib.hid (@unp_D most out n r h128 hr2 hd0)
          obtain ⟨D, hD⟩ : ∃ D, D = g r 0 * 256 + g r 1 := ⟨_, rfl⟩
          obtain ⟨M, hM⟩ : ∃ M, M = n - 124 := ⟨_, rfl⟩
          rw [← hD] at F18 UB UC UD hd0
          rw [← hM] at F18 UC UD
          have hM1 : M ≤ 131 := by omega
          have hM0 : 4 ≤ M := by omega
          obtain ⟨L, hL⟩ : ∃ L, L = (n :: r).length := ⟨_, rfl⟩
          have hLr : L = r.length + 1 := by rw [hL]; simp
          obtain ⟨K, hK⟩ : ∃ K, K = out.length := ⟨_, rfl⟩
          have HER : Hid (∀ k : Nat, unp most out (n :: r) = .error k → ∀ w', Below wr.heap.size wr w' → ∀ a b c d, Un w (unp most [] l) (.returned (.tuple #[.slice none 0 0, .int .i64 (k : Nat)])) (w'.alloc (.cells #[a, b, c] d))) := Lib.hid fun k hk w' h a b c d => .inr ⟨k, by rw [← hu, hk], rfl, (hb.trans (h.mono hb.size)).alloc (Nat.le_trans hb.size h.size) _⟩
          have HLK : Hid (L = (n :: r).length ∧ K = out.length) := Lib.hid ⟨hL, hK⟩
          rw [← hL] at F18 hnc ⊢
          rw [← hK] at UB UC UD hol ⊢
          have hL3 : 3 ≤ L := by omega
          have hL4 : L ≤ 140737488353272 := by omega
          have HQ := Lib.hid hq
          clear hNP hcell hq h0 hu hX hsz hll hb ho hD hM hL hK hLr hrl hr2 h128 hn256
          by_cases hB : K < D
          · have HE := Lib.hid (HER.out 2 (UB.out hB))
            go_wp2_with fail
            refine F18.out.mono ?_
            rintro e w2 ⟨rfl, b2⟩
            have HB2 := Lib.hid b2
            clear b2
            go_wp2_with fail
            go_ret2
            exact HE.out _ HB2.out _ _ _ _
          · by_cases hC : most < (K : Int) + (M : Int)
            · have HE := Lib.hid (HER.out 4 (UC.out hB hC))
              go_wp2_with fail
              refine F18.out.mono ?_
              rintro e w2 ⟨rfl, b2⟩
              have HB2 := Lib.hid b2
              clear b2
              go_wp2_with fail
              go_ret2
              exact HE.out _ HB2.out _ _ _ _
            · have HE := Lib.hid (UD.out hB hC)
              have hD1 : 1 ≤ D := by omega
              go_wp2_with fail
              refine F18.out.mono ?_
              rintro e w2 ⟨rfl, b2⟩
              have O2 : Hid ((w2.alloc (.cells #[.slice none 0 0, .int .i64 (D : Nat), .int .i64 (M : Nat)] 45)).ownsRow w.heap.size 5 1 (.slice a6 K c6) out.length (u8s out)) := Lib.hid (by have h := (own_below HR.out.2.1 b2).alloc (.cells #[.slice none 0 0, .int .i64 (D : Nat), .int .i64 (M : Nat)] 45); rw [← HLK.out.2] at h; rw [← HLK.out.2]; exact h)
              have B2 : Hid (Below w.heap.size wr (w2.alloc (.cells #[.slice none 0 0, .int .i64 (D : Nat), .int .i64 (M : Nat)] 45))) := Lib.hid ((b2.mono HR.out.2.2.1.size).alloc (Nat.le_trans HR.out.2.2.1.size b2.size) _)
              clear b2
              have F19 := Lib.hid (to_copy19 _ w.heap.size (.slice a6 K c6) out D M O2.out hD1 (by rw [← HLK.out.2]; omega) (Nat.le_trans HR.out.2.2.1.size B2.out.size) (by rw [← HLK.out.2]; omega))
              go_wp2_with fail
              refine F19.out.mono ?_
              rintro e w4 ⟨r4, rfl, o4, g4⟩
              have hb4 : Below w.heap.size wr w4 := B2.out.trans (g4.below (Nat.le_trans HR.out.2.2.1.size B2.out.size) fun k e => (O2.out.lt k e).1)
              have hsf := src_from (x := w4) (R := fun k => k < w.heap.size) (q := q) (off := off) (c := c) (k := 3) HLK.out.1 hnc hL3 HQ.out (fun i hi => hcx.out w4 hb4 i (by have := HLK.out.1; omega))
              have hnx : ∀ b'', Src w4 (fun k => k < w.heap.size) b'' (r.drop 2) → UR w w4 most l b'' r4 (copyN out D M) (r.drop 2) := fun b'' hS'' => by
                have h1 := HLK.out.1
                have h2 := HLK.out.2
                simp at h1
                refine ur_next HR.out hb4 o4 hS'' HE.out (fun x hx => List.mem_cons_of_mem _ (List.mem_of_mem_drop hx)) ?_ (by rw [copyN_len]; omega) HBD.out (by rw [List.length_drop]; simp; omega)
                rw [copyN_len, List.length_drop, List.length_cons]
                omega
              by_cases hc3 : c = 3
              · have RN : Hid (∀ a z, UR w w4 most l (.slice a 0 z) r4 (copyN out D M) (r.drop 2)) := Lib.hid fun a z => hnx _ (hsf.2 (by omega) a z)
                have hL3' : L = 3 := by omega
                clear hsf hnx hb4 o4 g4
                subst hc3
                subst hL3'
                go_wp2_with fail
                go_roundw
                case rel => exact ⟨_, _, RN.out _ _⟩
                case measure => simp [lenOf] <;> omega
              · have RN : Hid (UR w w4 most l (.slice (some ⟨q, off + 3, none⟩) (L - 3) (c - 3)) r4 (copyN out D M) (r.drop 2)) := Lib.hid (by
                  by_cases h3 : 3 < L
                  · exact hnx _ (hsf.1 h3)
                  · rw [show L - 3 = 0 from by omega]
                    exact hnx _ (hsf.2 (by omega) _ _))
                clear hsf hnx hb4 o4 g4
                go_wp2_with fail
                go_roundw
                case rel => exact ⟨_, _, RN.out⟩
                case measure => simp [lenOf] <;> omega
        · have hn0 : n ≠ 0 := by unfold NoPiece at hNP; omega
          have hnr : n ≤ r.length := by unfold NoPiece at hNP; omega
          have hn128 : n < 128 := by omega
          have F18 := Lib.hid (read_own wr q off (n :: r).length c n (by simp at hll; omega) hnc (hcell 0 (by simp)) hn0 hn128 (by simp; omega))
          have UE := Lib.hid (@unp_E most out n r hn0 hn128 hnr)
          have UF := Lib.hid (@unp_F most out n r hn0 hn128 hnr)
          obtain ⟨S, hS⟩ : ∃ S, S = 1 + n := ⟨_, rfl⟩
          obtain ⟨L, hL⟩ : ∃ L, L = (n :: r).length := ⟨_, rfl⟩
          have hLr : L = r.length + 1 := by rw [hL]; simp
          obtain ⟨K, hK⟩ : ∃ K, K = out.length := ⟨_, rfl⟩
          have HER : Hid (∀ k : Nat, unp most out (n :: r) = .error k → ∀ w', Below wr.heap.size wr w' → ∀ a b c d, Un w (unp most [] l) (.returned (.tuple #[.slice none 0 0, .int .i64 (k : Nat)])) (w'.alloc (.cells #[a, b, c] d))) := Lib.hid fun k hk w' h a b c d => .inr ⟨k, by rw [← hu, hk], rfl, (hb.trans (h.mono hb.size)).alloc (Nat.le_trans hb.size h.size) _⟩
          have HLK : Hid (L = (n :: r).length ∧ K = out.length ∧ S = 1 + n ∧ n ≤ r.length) := Lib.hid ⟨hL, hK, hS, hnr⟩
          rw [← hL, ← hS] at F18
          rw [← hL] at hnc ⊢
          rw [← hK] at UE UF hol ⊢
          have hSL : S ≤ L := by omega
          have hS0 : 1 ≤ S := by omega
          have hL4 : L ≤ 140737488353272 := by omega
          have HQ := Lib.hid hq
          have hz0 : ((S : Int) == 0) = false := by rw [beq_eq_false_iff_ne]; omega
          have hS128 : S ≤ 128 := by omega
          clear hNP hcell hq h0 hu hX hsz hll hb ho hS hL hK hLr hrl hnr h128
          by_cases hC : most < (K : Int) + (n : Int)
          · have HE := Lib.hid (HER.out 4 (UE.out hC))
            go_wp2_with fail
            refine F18.out.mono ?_
            rintro e w2 ⟨rfl, b2⟩
            have HB2 := Lib.hid b2
            clear b2
            go_wp2_with fail
            go_ret2
            exact HE.out _ HB2.out _ _ _ _
          · have HE := Lib.hid (UF.out hC)
            go_wp2_with fail
            refine F18.out.mono ?_
            rintro e w2 ⟨rfl, b2⟩
            have O2 : Hid ((w2.alloc (.cells #[.slice (some ⟨q, off + 1, none⟩) n (c - 1), .int .i64 0, .int .i64 (n : Nat)] 45)).ownsRow w.heap.size 5 1 (.slice a6 K c6) out.length (u8s out)) := Lib.hid (by have h := (own_below HR.out.2.1 b2).alloc (.cells #[.slice (some ⟨q, off + 1, none⟩) n (c - 1), .int .i64 0, .int .i64 (n : Nat)] 45); rw [← HLK.out.2.1] at h; rw [← HLK.out.2.1]; exact h)
            have B2 : Hid (Below w.heap.size wr (w2.alloc (.cells #[.slice (some ⟨q, off + 1, none⟩) n (c - 1), .int .i64 0, .int .i64 (n : Nat)] 45))) := Lib.hid ((b2.mono HR.out.2.2.1.size).alloc (Nat.le_trans HR.out.2.2.1.size b2.size) _)
            clear b2
            have hTl : (r.take n).length = n := by rw [List.length_take]; have := HLK.out.2.2.2; omega
            have F19 := Lib.hid (to_own19 _ w.heap.size (.slice a6 K c6) out (r.take n) q (off + 1) (c - 1) n O2.out (fun i hi => by
              rw [hTl] at hi
              have h := hcx.out _ B2.out (i + 1) (by have h1 := HLK.out.1; have h2 := HLK.out.2.2.2; simp; omega)
              rw [show off + 1 + i = off + (i + 1) from by omega, h, g_take hi]
              rfl) (by omega) (Nat.le_trans HR.out.2.2.1.size B2.out.size) (by rw [← HLK.out.2.1]; omega))
            rw [hTl] at F19
            have HTL := Lib.hid hTl
            clear hTl
            go_wp2_with fail
            refine F19.out.mono ?_
            rintro e w4 ⟨r4, rfl, o4, g4⟩
            have hb4 : Below w.heap.size wr w4 := B2.out.trans (g4.below (Nat.le_trans HR.out.2.2.1.size B2.out.size) fun k e => (O2.out.lt k e).1)
            have hdr : (n :: r).drop S = r.drop n := by rw [HLK.out.2.2.1, Nat.add_comm]; rfl
            have hsf := src_from (x := w4) (R := fun k => k < w.heap.size) (q := q) (off := off) (c := c) (k := S) HLK.out.1 hnc hSL HQ.out (fun i hi => hcx.out w4 hb4 i (by have := HLK.out.1; omega))
            rw [hdr] at hsf
            have hnx : ∀ b'', Src w4 (fun k => k < w.heap.size) b'' (r.drop n) → UR w w4 most l b'' r4 (out ++ r.take n) (r.drop n) := fun b'' hS'' => by
              have h1 := HLK.out.1
              have h2 := HLK.out.2.1
              have h3 := HLK.out.2.2.2
              simp at h1
              refine ur_next HR.out hb4 o4 hS'' HE.out (fun x hx => List.mem_cons_of_mem _ (List.mem_of_mem_drop hx)) ?_ (by rw [List.length_append, HTL.out]; omega) HBD.out (by rw [List.length_drop]; simp; omega)
              rw [List.length_append, HTL.out, List.length_drop, List.length_cons]
              omega
            by_cases hcS : c = S
            · have RN : Hid (∀ a z, UR w w4 most l (.slice a 0 z) r4 (out ++ r.take n) (r.drop n)) := Lib.hid fun a z => hnx _ (hsf.2 (by omega) a z)
              have hLS : L = S := by omega
              clear hsf hnx hb4 o4 g4 hdr
              subst hcS
              subst hLS
              go_wp2_with fail
              go_roundw
              case rel => exact ⟨_, _, RN.out _ _⟩
              case measure => simp [lenOf] <;> omega
            · have RN : Hid (UR w w4 most l (.slice (some ⟨q, off + S, none⟩) (L - S) (c - S)) r4 (out ++ r.take n) (r.drop n)) := Lib.hid (by
                by_cases h3 : S < L
                · exact hnx _ (hsf.1 h3)
                · rw [show L - S = 0 from by omega]
                  exact hnx _ (hsf.2 (by omega) _ _))
              clear hsf hnx hb4 o4 g4 hdr
              go_wp2_with fail
              go_roundw
              case rel => exact ⟨_, _, RN.out⟩
              case measure => simp [lenOf] <;> omega
end Ua
end Go.Proofs.Ytbmdjmckgcjfcaa
