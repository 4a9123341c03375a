/- The law of writing bits. -/
import Derived.Test.YtbpkoneenihfcaaRb
import Derived.Test.YtbpkoneenihfcaaSd
import Derived.Deep.RegionHeld3
namespace Go.Proofs.Ytbpkoneenihfcaa
open Go.RowKit
namespace Lw
open Bm Wr Rf Sr

/-- A slice of numbers and how many of their bits. -/
def Ps (w : World) (a : Option Addr) (len : Nat) (V : Nat → Nat) (N : Nat → Int) : Prop :=
  (∀ i, V i < 18446744073709551616 ∧ -9223372036854775808 ≤ N i ∧ N i ≤ 9223372036854775807) ∧
  (len = 0 ∨ ∃ b off, a = some ⟨b, off, none⟩ ∧ b < w.heap.size ∧ ∀ i, i < len → w.cell? ⟨b, off + i * 2, none⟩ = some (.int .u64 (V i : Nat)) ∧ w.cell? ⟨b, off + i * 2 + 1, none⟩ = some (.int .i64 (N i)))

theorem mv_below {w w' : World} {g B : Nat} {s : Value} (h : Mv w w' g s) (hB : B ≤ g) (hs : ∀ k, s.ownBlock = some k → B ≤ k) (hw : B ≤ w.heap.size) : Below B w w' :=
  ⟨h.os, h.tape, h.output, h.size, fun k hk => h.block k (by omega) (by omega) (fun e => by have := hs k e; omega)⟩
theorem own_mv {w w' : World} {g B n : Nat} {s x : Value} {xs : List Value} (h : w.ownsRow B 5 1 x n xs) (m : Mv w w' g s) (hg : x.ownBlock ≠ some g) (hs : ∀ k, x.ownBlock = some k → s.ownBlock ≠ some k) : w'.ownsRow B 5 1 x n xs := by
  obtain ⟨hl, h0 | ⟨k, cap, cur, rfl, h1, h2, h3⟩⟩ := h
  · exact ⟨hl, .inl h0⟩
  · have hk : k < w.heap.size := by rw [Array.getElem?_eq_some_iff] at h2; exact h2.1
    refine ⟨hl, .inr ⟨k, cap, cur, rfl, h1, ?_, h3⟩⟩
    rw [m.block k hk (fun e => hg (by rw [← e]; rfl)) (hs k rfl)]
    exact h2
theorem hold_mv {w w' : World} {g g' : Nat} {s x : Value} {bs : List Nat} {f : Nat} (h : Hold w g s bs f) (m : Mv w w' g' x) (hg : g ≠ g') (hx : x.ownBlock ≠ some g) (hs : s.ownBlock ≠ some g') (hsx : ∀ k, s.ownBlock = some k → x.ownBlock ≠ some k) : Hold w' g s bs f := by
  have hb := m.block g h.lt hg hx
  exact ⟨Nat.lt_of_lt_of_le h.lt m.size, (World.cell?_of_block hb).trans h.c0, (World.cell?_of_block hb).trans h.c1, (World.frozen?_of_block hb).trans h.z0, (World.frozen?_of_block hb).trans h.z1, own_mv h.own m hs hsx⟩
theorem wt_mv {w w' : World} {g g' : Nat} {s x : Value} {n : Nat} {β : Nat → Bool} (h : Wt w g s n β) (m : Mv w w' g' x) (hg : g ≠ g') (hx : x.ownBlock ≠ some g) (hs : s.ownBlock ≠ some g') (hsx : ∀ k, s.ownBlock = some k → x.ownBlock ≠ some k) : Wt w' g s n β := by
  obtain ⟨bs, f, h1, h2⟩ := h
  exact ⟨bs, f, hold_mv h1 m hg hx hs hsx, h2⟩
theorem wt_drew {w : World} {g : Nat} {s : Value} {n : Nat} {β : Nat → Bool} (h : Wt w g s n β) : Wt w.drew g s n β := by
  obtain ⟨bs, f, h1, h2⟩ := h
  exact ⟨bs, f, h1.drewN 1, h2⟩

/-- What the law holds at the head of a round. -/
structure At (W : World) (g : Nat) (wr : World) (x sw : Value) (m : Nat) (β : Nat → Bool) : Prop where
  wt : Wt wr g sw m β
  own : wr.ownsRow (g + 1) 5 1 x m (u8s (bl β m))
  apart : ∀ k, x.ownBlock = some k → sw.ownBlock ≠ some k
  below : Below W.heap.size W wr
  first : W.heap.size ≤ g

theorem At.drewN {W wr : World} {g m : Nat} {x sw : Value} {β : Nat → Bool} (h : At W g wr x sw m β) (n : Nat) : At W g (wr.drewN n) x sw m β := by
  obtain ⟨⟨bs, f, h1, h2⟩, h3, h4, h5, h6⟩ := h
  exact ⟨⟨bs, f, h1.drewN n, h2⟩, h3, h4, ⟨h5.os, h5.tape, h5.output, h5.size, h5.block⟩, h6⟩
theorem len_wt (w : World) (g : Nat) (s : Value) (m : Nat) (β : Nat → Bool) (h : Wt w g s m β) (hm : m ≤ 1048576 * 65) :
    Calls Try.prog 13 #[.pointer (some ⟨g, 0, none⟩)] w fun e w' => e = .returned (.int .i64 (m : Nat)) ∧ ∃ n, w' = w.drewN n := by
  obtain ⟨bs, f, h1, h2, h3, h4, h5⟩ := h
  have := len13 w g s bs f h1 (by omega) (by omega) (by omega)
  rwa [show 8 * bs.length - f = m from by omega] at this

theorem own_below {w w' : World} {B : Nat} {v : Value} {n : Nat} {xs : List Value} (h : w.ownsRow B 5 1 v n xs) (b : Below w.heap.size w w') : w'.ownsRow B 5 1 v n xs :=
  h.kept (row := none) ⟨b.os, b.tape, b.output, b.size, fun k hk _ => b.block k hk⟩ (by
    by_cases e : v.ownBlock = none
    · exact .inl e
    · exact .inr e)
/-- What the law's last line calls. -/
theorem last_two {W wr : World} {g m : Nat} {x sw : Value} {β : Nat → Bool} (h : At W g wr x sw m β) (hm : m ≤ 1048576 * 64) : ∃ S : ByteArray,
    (Calls Try.prog 14 #[.pointer (some ⟨g, 0, none⟩)] wr fun e w' => ∃ v, e = .returned v ∧ (∀ W, Below w'.heap.size w' W → (convert 26 9 v).run Try.prog W = .ok (.string S) W) ∧ Below wr.heap.size wr w') ∧
    ∀ w2, Below wr.heap.size wr w2 → Calls Try.prog 15 #[x] w2 fun e w' => ∃ v, e = .returned v ∧ (convert 26 9 v).run Try.prog w' = .ok (.string S) w' ∧ Below w2.heap.size w2 w' := by
  obtain ⟨⟨bs, f, h1, h2, h3, h4, h5⟩, own, ap, bl, hf⟩ := h
  refine ⟨str bs, (bytes14 wr g sw bs f h1 (by omega)).mono ?_, fun w2 b2 => (rbytes15 w2 (g + 1) x m β (own_below own b2) (by omega)).mono ?_⟩
  · rintro e w' ⟨v, rfl, ho, b⟩
    exact ⟨v, rfl, fun W hW => conv_own (own_below ho hW), b⟩
  · rintro e w' ⟨v, bs', rfl, ho, hl, hh, b⟩
    obtain rfl : bs' = bs := hh.unique (h2.congr fun i hi => by
      unfold cut
      split
      · rfl
      · exact h5 i (by omega)) (by omega)
    exact ⟨v, rfl, conv_own ho, b⟩

set_option maxRecDepth 100000 in
set_option maxHeartbeats 4000000 in
theorem writes3 (W : World) (a : Option Addr) (len cap : Nat) (V : Nat → Nat) (N : Nat → Int) (h : Ps W a len V N) (hl : len ≤ 1048576) :
    Calls Try.prog 3 #[.slice a len cap] W fun e w' => e = .returned (.bool true) ∧ Below W.heap.size W w' := by
  obtain ⟨hVN, hcell⟩ := h
  have HVN := Lib.hid hVN
  have HC := Lib.hid hcell
  clear hVN hcell
  go_enter Try.func3, Try.ntmps3
  go_wp2_with (go_at_call 9; refine (awake9 _).mono ?_; rintro e w1 ⟨rfl, b1⟩)
  refine (new_wt _).mono ?_
  rintro e w2 ⟨rfl, hw2, b2⟩
  have A0 : At W w1.heap.size w2 (.slice none 0 0) (.slice none 0 0) 0 (fun _ => false) :=
    ⟨hw2, World.ownsRow_nil _ _ _ _, fun k e => by simp [Value.ownBlock] at e, b1.trans (b2.mono b1.size), b1.size⟩
  have HA0 := Lib.hid A0
  obtain ⟨g, hg⟩ : ∃ g, g = w1.heap.size := ⟨_, rfl⟩
  rw [← hg] at HA0 ⊢
  clear A0 hw2 b1 b2 hg
  go_wp2_with fail
  go_loopw [4, 11] (fun x i wr => ∃ k m β sw, k ≤ len ∧ m ≤ 64 * k ∧ i = .int .i64 (k : Nat) ∧ At W g wr x sw m β) (fun _ i _ => len - (intOf i).toNat)
  case atStart => exact ⟨0, 0, _, _, Nat.zero_le _, Nat.le_refl _, rfl, HA0.out⟩
  case round =>
    obtain ⟨k, m, β, sw, hk, hm, rfl, hA⟩ := hrel
    clear HA0
    by_cases hkl : k < len
    · obtain ⟨b, off, rfl, hbW, hcell⟩ := HC.out.resolve_left (by omega)
      obtain ⟨c1, c2⟩ := hcell k hkl
      clear hcell
      obtain ⟨hv, hn1, hn2⟩ := HVN.out k
      obtain ⟨v, hve⟩ : ∃ v, v = V k := ⟨_, rfl⟩
      obtain ⟨n, hne⟩ : ∃ n, n = N k := ⟨_, rfl⟩
      rw [← hve] at hv c1
      rw [← hne] at hn1 hn2 c2
      clear hve hne
      have e1 : wr.cell? ⟨b, off + k * 2, none⟩ = some (.int .u64 (v : Nat)) := by rw [hA.below.cell (by exact hbW)]; exact c1
      have e2 : wr.cell? ⟨b, off + k * 2 + 1, none⟩ = some (.int .i64 n) := by rw [hA.below.cell (by exact hbW)]; exact c2
      have HA := Lib.hid hA
      have HPUT : Hid _ := Lib.hid (put_wt wr.drew g sw m β v _ n (wt_drew hA.wt) hv hn1 hn2 rfl (by omega))
      clear hA c1 c2
      have HB8 : Hid (∀ w5, Mv wr.drew w5 g sw → Below W.heap.size wr.drew w5) := Lib.hid fun w5 m5 => m5.below HA.out.first (fun q e => by have := Wt.own HA.out.wt q e; have := HA.out.first; omega) (by have := Wt.lt HA.out.wt; exact this)
      go_wp2_with fail
      go_region_held (fun w' => w'.cell? ⟨b, off + k * 2, none⟩ = some (.int .u64 (v : Nat)) ∧ w'.cell? ⟨b, off + k * 2 + 1, none⟩ = some (.int .i64 n)) (first | exact ⟨e1, e2⟩ | exact ⟨f1, f2⟩)
        (first | (go_at_call 11; refine HPUT.out.mono ?_; rintro e w5 ⟨rfl, s5, h5, m5, o5⟩; have f1 := ((HB8.out _ m5).cell (p := ⟨b, off + k * 2, none⟩) hbW).trans e1; have f2 := ((HB8.out _ m5).cell (p := ⟨b, off + k * 2 + 1, none⟩) hbW).trans e2))
      have A5 : Hid (∃ N', N' = (min n 64).toNat ∧ Wt w5 g s5 (m + N') (put β m v N' 0) ∧ w5.ownsRow (g + 1) 5 1 u4 m (u8s (bl β m)) ∧ (∀ q, u4.ownBlock = some q → s5.ownBlock ≠ some q) ∧ Below W.heap.size W w5 ∧ g < w5.heap.size) := by
        have hA := HA.out
        have hx : ∀ q, u4.ownBlock = some q → g + 1 ≤ q ∧ q < wr.heap.size := hA.own.lt
        refine Lib.hid ⟨_, rfl, h5, own_mv hA.own.drew m5 (fun e => by have := hx g e; omega) hA.apart, fun q e => ?_, hA.below.drew.trans (HB8.out _ m5), Wt.lt h5⟩
        rcases o5 with o5 | ⟨q', o5, hq'⟩
        · rw [o5]; exact hA.apart q e
        · rw [o5]; intro e'; cases e'; have := hx _ e; exact absurd this.2 (by show ¬ q < wr.heap.size; have : wr.heap.size ≤ q := hq'; omega)
      clear HPUT HB8 h5 m5 o5
      obtain ⟨N', hN', wt5, own5, ap5, bl5, gl5⟩ := A5.out
      have hN64 : N' ≤ 64 := by omega
      have HRP : Hid _ := Lib.hid (rput12 w5.drew (g + 1) u4 m v N' β own5.drew (by exact gl5) hv n hn1 hn2 hN' (by omega))
      have HB12 : Hid (∀ w6, Mv w5.drew w6 w5.drew.heap.size u4 → Below W.heap.size w5.drew w6) := Lib.hid fun w6 m6 =>
        mv_below m6 (by have := bl5.size; exact this) (fun q e => by have := (HA.out.own.lt q e).1; have := HA.out.first; omega) (by have := bl5.size; exact this)
      have WT5 := Lib.hid wt5
      have OW5 := Lib.hid own5
      have AP5 := Lib.hid ap5
      have BL5 := Lib.hid bl5
      clear wt5 own5 ap5 bl5 hN' A5
      go_wp2_with fail
      go_region_held (fun w' => w'.cell? ⟨b, off + k * 2, none⟩ = some (.int .u64 (v : Nat)) ∧ w'.cell? ⟨b, off + k * 2 + 1, none⟩ = some (.int .i64 n)) (first | exact ⟨f1, f2⟩ | exact ⟨h1, h2⟩)
        (first | (go_at_call 12; refine HRP.out.mono ?_; rintro e w6 ⟨x6, rfl, own6, m6, o6⟩; have h1 := ((HB12.out _ m6).cell (p := ⟨b, off + k * 2, none⟩) hbW).trans f1; have h2 := ((HB12.out _ m6).cell (p := ⟨b, off + k * 2 + 1, none⟩) hbW).trans f2))
      have A6 : Hid (At W g w6 x6 s5 (m + N') (put β m v N' 0)) := by
        have hx : ∀ q, u4.ownBlock = some q → g + 1 ≤ q ∧ q < w5.heap.size := OW5.out.lt
        have hs : ∀ q, s5.ownBlock = some q → g + 1 ≤ q ∧ q < w5.heap.size := Wt.own WT5.out
        have hg5 : g < w5.heap.size := Wt.lt WT5.out
        refine Lib.hid ⟨wt_mv (wt_drew WT5.out) m6 (fun e => by have : g = w5.heap.size := e; omega) (fun e => by have := hx g e; omega) (fun e => by have := hs _ e; have h : w5.heap.size < w5.heap.size := this.2; omega) (fun q e e' => AP5.out q e' e), own6, fun q e e' => ?_, BL5.out.drew.trans (HB12.out _ m6), HA.out.first⟩
        rcases o6 with o6 | ⟨q', o6, hq'⟩
        · rw [o6] at e; exact AP5.out q e e'
        · rw [o6] at e
          have hqq : q' = q := by simpa using e
          have := hs q e'
          have hq2 : w5.heap.size ≤ q' := hq'
          omega
      have hform : ∃ a6 c6, x6 = .slice a6 (m + N') c6 := by
        rcases Go.Joins.ownsRow_forms own6 with ⟨rfl, h0⟩ | ⟨q, c, rfl⟩
        · exact ⟨none, 0, by rw [h0]⟩
        · exact ⟨_, _, rfl⟩
      obtain ⟨a6, c6, rfl⟩ := hform
      obtain ⟨M, hM⟩ : ∃ M, M = m + N' := ⟨_, rfl⟩
      have hMk : M ≤ 64 * (k + 1) := by omega
      rw [← hM] at A6 ⊢
      clear own6 m6 o6 h1 h2 f1 f2 HRP HB12 WT5 OW5 AP5 BL5 HA e1 e2 hM
      go_wp2_with fail
      refine (len_wt w6 g s5 M _ A6.out.wt (by omega)).mono ?_
      rintro e w7 ⟨rfl, q7, rfl⟩
      go_wp2_with fail
      go_roundw
      case rel => exact ⟨k + 1, M, _, s5, by omega, hMk, by go_num, A6.out.drewN _⟩
      case measure => simp [intOf]; omega
    · obtain rfl : k = len := by omega
      clear hkl
      have hAA := Lib.hid hA
      clear hA
      obtain ⟨S, K14, K15⟩ := last_two (hAA.out.drewN 1) (by omega)
      have H14 := Lib.hid K14
      have H15 := Lib.hid K15
      clear K14 K15
      go_wp2_with fail
      go_region_with (first
        | (go_at_call 14; refine H14.out.mono ?_; rintro e w14 ⟨v14, rfl, P14, b14⟩; have q14 := P14 w14 (Below.refl _ _); have HP := Lib.hid P14; clear P14)
        | (go_at_call 15; refine (H15.out _ b14).mono ?_; rintro e w15 ⟨v15, rfl, q15, b15⟩; have q14' := HP.out w15 b15))
      all_goals
        go_wp2_with fail
        go_ret
        exact ⟨rfl, (hAA.out.below.drew.trans (b14.mono (by have := hAA.out.below.size; exact this))).trans (b15.mono (by have := hAA.out.below.size; have h2 := b14.size; have h3 : wr.heap.size ≤ w14.heap.size := h2; omega))⟩
end Lw
end Go.Proofs.Ytbpkoneenihfcaa
