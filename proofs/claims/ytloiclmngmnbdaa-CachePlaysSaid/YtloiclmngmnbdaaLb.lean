/- slices.BinarySearchFunc at points. -/
import Derived.Test.YtloiclmngmnbdaaLs
import Derived.Deep.LoopGhost
import Derived.Shelf.Abstract
namespace Go.Proofs.Ytloiclmngmnbdaa
open Go.RowKit Go.Maps Go.ChangeMaps Go.MapKept
namespace Lb
open Jb Ca Ck Ct Cd Ls

set_option maxRecDepth 100000
/-- A row of points in a block. -/
def Rw (w : World) (b off : Nat) (L : List Pnt) : Prop := b < w.heap.size ∧ ∀ i, i < L.length → PAt w b (off + i * 4) (L.getD i p0)
theorem Rw.below {w w' : World} {b off B : Nat} {L : List Pnt} (h : Rw w b off L) (bl : Below B w w') (hB : b < B) : Rw w' b off L :=
  ⟨Nat.lt_of_lt_of_le h.1 bl.size, fun i hi => (h.2 i hi).of_block (bl.block b hB)⟩
set_option maxHeartbeats 2000000 in
theorem bsf67 (w : World) (b off c : Nat) (L : List Pnt) (t : Int) (h : Rw w b off L) (hr : Rise L) (hn : L.length ≤ 1000000000) :
    Calls Try.prog 67 #[.slice (some ⟨b, off, none⟩) L.length c, .int .i64 t, .func (.func 68) #[] #[]] w fun e w' => e = .returned (.tuple #[.int .i64 (cnt t L : Nat), .bool (has t L)]) ∧ Below w.heap.size w w' := by
  have HC := Lib.hid (fun w p => cmp68 w p t)
  have HR := Lib.hid h
  have HS := Lib.hid hr
  have eg : ∀ args w, (callFunc 68 args).run Try.prog w = .ok (.enter 68 args) w := Go.Proofs.enters_of Try.func68 (by kernel_rfl) rfl
  obtain ⟨n, hne⟩ : ∃ n, n = L.length := ⟨_, rfl⟩
  obtain ⟨C, hC⟩ : ∃ C, C = cnt t L := ⟨_, rfl⟩
  obtain ⟨Hs, hHs⟩ : ∃ Hs, Hs = has t L := ⟨_, rfl⟩
  rw [← hne, ← hC, ← hHs]
  rw [← hne] at hn
  have HN := Lib.hid hne
  have HCC := Lib.hid hC
  have HHS := Lib.hid hHs
  clear h hr hne hC hHs
  go_enter Try.func67, Try.ntmps67
  go_wp2_with fail
  go_loopg [9, 10] n (fun kx s9 s10 wr => ∃ lo hi : Nat, s9 = .int .i64 lo ∧ s10 = .int .i64 hi ∧ lo ≤ hi ∧ hi ≤ n ∧ hi - lo ≤ kx ∧ Hid (Below w.heap.size w wr) ∧
    Hid ((∀ i, i < lo → (L.getD i p0).1 < t) ∧ (∀ i, hi ≤ i → i < n → t ≤ (L.getD i p0).1)))
  case atStart => exact ⟨0, n, rfl, rfl, Nat.zero_le _, Nat.le_refl _, by omega, Lib.hid (Below.refl _ _), Lib.hid ⟨fun i hi => by omega, fun i h1 h2 => by omega⟩⟩
  case round =>
    obtain ⟨lo, hi, rfl, rfl, hlh, hin, hg, HB, HI⟩ := hrel
    have hrow := (HR.out).below HB.out HR.out.1
    have hbl : b < wr.heap.size := hrow.1
    by_cases hlt : lo < hi
    · obtain ⟨e0, e1, e2, e3⟩ := hrow.2 ((lo + hi) / 2) (by rw [← HN.out]; omega)
      obtain ⟨y, hy⟩ : ∃ y, y = L.getD ((lo + hi) / 2) p0 := ⟨_, rfl⟩
      rw [← hy] at e0 e1 e2 e3
      have HY := Lib.hid hy
      have hc := fun w => HC.out w y
      unfold pa at hc
      clear hy hrow
      obtain ⟨y0, y1, y2, y3⟩ := y
      simp only at e0 e1 e2 e3 hc
      by_cases hyx : y0 < t
      · have e3' : cmp3 y0 t = -1 := if_pos hyx
        rw [e3'] at hc
        clear e3'
        go_wp2_with (go_at_fn 68; refine (hc _).mono ?_; rintro e w' ⟨rfl, hb2⟩)
        go_roundg (hi - ((lo + hi) / 2 + 1))
        case measure => omega
        case rel =>
          exact ⟨(lo + hi) / 2 + 1, hi, by rw [show ((lo : Int) + (hi : Int)) / 2 + 1 = (((lo + hi) / 2 + 1 : Nat) : Int) by omega], rfl, by omega, hin, Nat.le_refl _, Lib.hid (HB.out.trans (hb2.mono HB.out.size)), Lib.hid ⟨fun i hi' => by
            by_cases e : i = (lo + hi) / 2
            · rw [e, ← HY.out]; exact hyx
            · have := rise_get HS.out (show i < (lo + hi) / 2 by omega) (by rw [← HN.out]; omega)
              rw [← HY.out] at this
              simp only at this
              omega, HI.out.2⟩⟩
      · have e3' : ∃ q : Nat, cmp3 y0 t = (q : Int) := by
          unfold cmp3
          rw [if_neg hyx]
          split
          · exact ⟨1, rfl⟩
          · exact ⟨0, rfl⟩
        obtain ⟨q, e3'⟩ := e3'
        rw [e3'] at hc
        clear e3'
        go_wp2_with (go_at_fn 68; refine (hc _).mono ?_; rintro e w' ⟨rfl, hb2⟩)
        go_roundg ((lo + hi) / 2 - lo)
        case measure => omega
        case rel =>
          exact ⟨lo, (lo + hi) / 2, rfl, by rw [show ((lo : Int) + (hi : Int)) / 2 = (((lo + hi) / 2 : Nat) : Int) by omega], by omega, by omega, Nat.le_refl _, Lib.hid (HB.out.trans (hb2.mono HB.out.size)), Lib.hid ⟨HI.out.1, fun i h1 h2 => by
            by_cases e : i = (lo + hi) / 2
            · rw [e, ← HY.out]; simp only; omega
            · have := rise_get HS.out (show (lo + hi) / 2 < i by omega) (by rw [← HN.out]; omega)
              rw [← HY.out] at this
              simp only at this
              omega⟩⟩
    · obtain rfl : hi = lo := by omega
      have ecnt : C = hi := by
        rw [HCC.out]
        exact cnt_of HS.out (by rw [← HN.out]; exact hin) HI.out.1 (fun i h1 h2 => HI.out.2 i h1 (by rw [HN.out]; exact h2))
      subst ecnt
      have hh := has_iff HS.out t
      rw [← HHS.out, ← HCC.out, ← HN.out] at hh
      by_cases hn2 : C < n
      · obtain ⟨e0, e1, e2, e3⟩ := hrow.2 C (by rw [← HN.out]; omega)
        obtain ⟨y, hy⟩ : ∃ y, y = L.getD C p0 := ⟨_, rfl⟩
        rw [← hy] at e0 e1 e2 e3 hh
        have hc := fun w => HC.out w y
        unfold pa at hc
        clear hy hrow
        obtain ⟨y0, y1, y2, y3⟩ := y
        simp only at e0 e1 e2 e3 hc hh
        by_cases hyx : y0 = t
        · have e3' : cmp3 y0 t = 0 := by unfold cmp3; rw [if_neg (by omega), if_neg (by omega)]
          rw [e3'] at hc
          have hHs : Hs = true := hh.2 ⟨hn2, hyx⟩
          subst hHs
          clear e3' hh hyx
          go_wp2_with (go_at_fn 68; refine (hc _).mono ?_; rintro e w' ⟨rfl, hb2⟩)
          go_ret2
          exact ⟨rfl, HB.out.trans (hb2.mono HB.out.size)⟩
        · have e3' : (cmp3 y0 t == 0) = false := by
            unfold cmp3
            split
            · rfl
            · split
              · rfl
              · omega
          have hHs : Hs = false := by
            cases Hs
            · rfl
            · exact absurd (hh.1 rfl).2 hyx
          subst hHs
          clear hh
          generalize cmp3 y0 t = q at hc e3'
          go_wp2_with (go_at_fn 68; refine (hc _).mono ?_; rintro e w' ⟨rfl, hb2⟩)
          go_ret2
          exact ⟨rfl, HB.out.trans (hb2.mono HB.out.size)⟩
      · have hHs : Hs = false := by
          cases Hs
          · rfl
          · exact absurd (hh.1 rfl).1 hn2
        subst hHs
        clear hh hrow
        go_wp2_with fail
        go_ret2
        exact ⟨rfl, HB.out⟩
end Lb
end Go.Proofs.Ytloiclmngmnbdaa
