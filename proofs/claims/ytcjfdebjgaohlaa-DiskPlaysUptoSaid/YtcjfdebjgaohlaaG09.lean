import Derived.Test.YtcjfdebjgaohlaaG08
import Derived.Test.YtcjfdebjgaohlaaG03
import Derived.Test.YtcjfdebjgaohlaaG04
import Derived.Deep.RegionLaw

/- The document's disk: Sync and Cut. -/
namespace Go.Proofs.Ytcjfdebjgaohlaa
open Go.RowKit Go.Maps Go.ChangeMaps Go.MapKept
namespace Yd
open Jb Jm Jd Jw Jx Jn J1 J9 Ya Yb Yc

theorem opr_on (w : World) (T : Nat → Prop) (g : Nat) (t : Dt) (h : Wk w T g t) (hl : opTE t = 0) :
    Calls Try.prog 39 #[.pointer (some ⟨g, 0, none⟩)] w fun e w' => e = .returned (.int .i64 0) ∧ Wk w' T g (opT t) ∧ Chg w w' T := by
  have O := operation48 w g t h.cs
  rw [hl] at O
  refine O.mono ?_
  rintro e w' ⟨rfl, k1, k2⟩
  exact ⟨rfl, h.nums k2 k1 (opT_fvv t) (opT_L t), k2.imp fun k hk _ => hk ▸ h.tg⟩
theorem opr_off (w : World) (T : Nat → Prop) (g : Nat) (t : Dt) (h : Wk w T g t) (hl : opTE t = 8) :
    Calls Try.prog 39 #[.pointer (some ⟨g, 0, none⟩)] w fun e w' => e = .returned (.int .i64 8) ∧ Wk w' T g (opT t) ∧ Chg w w' T := by
  have O := operation48 w g t h.cs
  rw [hl] at O
  refine O.mono ?_
  rintro e w' ⟨rfl, k1, k2⟩
  exact ⟨rfl, h.nums k2 k1 (opT_fvv t) (opT_L t), k2.imp fun k hk _ => hk ▸ h.tg⟩
set_option maxRecDepth 100000
theorem rsync_down (w : World) (T : Nat → Prop) (g : Nat) (s : ByteArray) (t : Dt) (h : Wk w T g t) (hd : t.down = true) :
    Calls Try.prog 14 #[.pointer (some ⟨g, 0, none⟩), .string s] w fun e w' => e = .returned (.int .i64 8) ∧ w' = w := by
  have F := Lib.hid (there_down w g s t h.cs hd)
  clear h hd
  go_enter Try.func14, Try.ntmps14
  go_wp2_with (go_at_call 42; refine (F.out).mono ?_; rintro e w ⟨rfl, rfl⟩)
  go_ret
  first | trivial | exact ⟨rfl, rfl⟩
theorem rsync_none (w : World) (T : Nat → Prop) (g : Nat) (s : ByteArray) (t : Dt) (h : Wk w T g t) (hd : t.down = false) (hA : At1 t.L s t.L.length) (hb : t.L.length ≤ 1000000000) :
    Calls Try.prog 14 #[.pointer (some ⟨g, 0, none⟩), .string s] w fun e w' => e = .returned (.int .i64 6) ∧ w' = w := by
  have F := Lib.hid (there_none w T g s t h hd hA hb)
  clear h hd hA hb
  go_enter Try.func14, Try.ntmps14
  go_wp2_with (go_at_call 42; refine (F.out).mono ?_; rintro e w ⟨rfl, rfl⟩)
  go_ret
  first | trivial | exact ⟨rfl, rfl⟩
theorem rsync_lost (w : World) (T : Nat → Prop) (g : Nat) (s : ByteArray) (t : Dt) (h : Wk w T g t) (hd : t.down = false) (A : Nat) (hA : At1 t.L s A) (hlt : A < t.L.length) (hb : t.L.length ≤ 1000000000) (hl : opTE t = 8) :
    Calls Try.prog 14 #[.pointer (some ⟨g, 0, none⟩), .string s] w fun e w' => e = .returned (.int .i64 8) ∧ Wk w' T g (opT t) ∧ Chg w w' T := by
  have F := Lib.hid (there_some w T g s t h hd A hA hlt hb)
  have O := Lib.hid (opr_off w T g t h hl)
  clear h hd hA hb hlt hl
  go_enter Try.func14, Try.ntmps14
  go_wp2_with (first | (go_at_call 42; refine (F.out).mono ?_; rintro e w ⟨rfl, rfl⟩) | (go_at_call 39; refine (O.out).mono ?_; rintro e w' ⟨rfl, k1, k2⟩))
  go_ret
  exact ⟨rfl, k1, k2⟩
theorem rsync_on (w : World) (T : Nat → Prop) (g : Nat) (s : ByteArray) (t : Dt) (h : Wk w T g t) (hd : t.down = false) (A : Nat) (hA : At1 t.L s A) (hlt : A < t.L.length) (hb : t.L.length ≤ 1000000000) (hl : opTE t = 0) :
    Calls Try.prog 14 #[.pointer (some ⟨g, 0, none⟩), .string s] w fun e w' => e = .returned (.int .i64 0) ∧
      Wk w' T g { opT t with L := t.L.set A ⟨(t.L.getD A e0).name, (t.L.getD A e0).bv, (t.L.getD A e0).bs, (t.L.getD A e0).bs.length⟩ } ∧ Chg w w' T := by
  have F := Lib.hid (there_some w T g s t h hd A hA hlt hb)
  have O := Lib.hid (opr_on w T g t h hl)
  obtain ⟨ea, ec, he⟩ := (h.ent _ (mem_getD hlt)).1.forms
  rcases row_at h.row with ⟨hL, _⟩ | ⟨q, c, hv, hc, hq, _, _, hcell⟩
  · rw [hL] at hlt; simp at hlt
  obtain ⟨n, hn⟩ : ∃ n, n = t.L.length := ⟨_, rfl⟩
  obtain ⟨l, hl⟩ : ∃ l, l = (t.L.getD A e0).bs.length := ⟨_, rfl⟩
  obtain ⟨K, hK⟩ : ∃ K, K = (t.L.getD A e0).syn := ⟨_, rfl⟩
  have hqg : q ≠ g := (h.rb q (by rw [hv]; rfl)).2
  have CE : Hid (∀ w1, Wk w1 T g (opT t) → w1.cell? ⟨g, 0, none⟩ = some (.slice (some ⟨q, 0, none⟩) n c) ∧ w1.cell? ⟨q, A * 3 + 1, none⟩ = some (.slice ea l ec) ∧ w1.cell? ⟨q, A * 3 + 2, none⟩ = some (.int .i64 (K : Nat)) ∧ w1.frozen? ⟨q, A * 3 + 2, none⟩ = false) := Lib.hid fun w1 k => by
    have e1 := k.cs.c0
    rw [opT_fvv, hv] at e1
    have hr := k.row
    rw [opT_L, opT_fvv] at hr
    rcases row_at hr with ⟨hL, _⟩ | ⟨q', c', hv', _, _, _, hz, hcell'⟩
    · rw [hL] at hlt; simp at hlt
    · rw [hv] at hv'
      cases hv'
      obtain ⟨_, x2, x3⟩ := hcell' A hlt
      exact ⟨by rw [hn]; exact e1, by rw [hl, ← he]; exact x2, by rw [hK]; exact x3, hz _⟩
  have FIN : Hid (∀ w1 w', Wk w1 T g (opT t) → Chg w w1 T → w' = w1.setCell ⟨q, A * 3 + 2, none⟩ (.int .i64 (l : Nat)) → Wk w' T g { opT t with L := t.L.set A ⟨(t.L.getD A e0).name, (t.L.getD A e0).bv, (t.L.getD A e0).bs, (t.L.getD A e0).bs.length⟩ } ∧ Chg w w' T) := Lib.hid fun w1 w' k1 k2 hw => by
    have hv1 : (opT t).fvv = .slice (some ⟨q, 0, none⟩) (opT t).L.length c := by rw [opT_fvv, opT_L]; exact hv
    have hlt1 : A < (opT t).L.length := by rw [opT_L]; exact hlt
    obtain ⟨s1, s2, s3, s4⟩ := k1.ent _ (mem_getD hlt1)
    have hro := k1.row
    rw [hv1] at hro
    have hro2 := (hro.stored (A * 3 + 2) (.int .i64 (l : Nat))).1
    rw [ecs_set2 _ A l hlt1, ← hv1, ← hw] at hro2
    have hTq : T q := (k1.rb q (by rw [hv1]; rfl)).1
    have k3 := Wk.turn k1 hv1 hlt1 (w' := w') (bv' := ((opT t).L.getD A e0).bv) (bs' := ((opT t).L.getD A e0).bs) (k' := l) (T' := T) (by rw [hw]; simp) (by rw [hw]; exact heap_setCell_ne (fun e => hqg e.symm)) hro2 (fun k hk => by rw [hw]; exact heap_setCell_ne hk) (fun _ hk => hk) k1.lt s1 s2 s3 (by rw [opT_L, hl]; exact Nat.le_refl _)
    rw [opT_L, hl] at k3
    refine ⟨k3, ?_⟩
    rw [hw]
    exact k2.setCell hTq _
  have hA0 : (0 : Int) ≤ (A : Int) := by omega
  have hAn : A < n := by omega
  clear h hd hA hb hlt hv hc hq hcell he hn hl hK
  go_enter Try.func14, Try.ntmps14
  go_wp2_with (first | (go_at_call 42; refine (F.out).mono ?_; rintro e w ⟨rfl, rfl⟩) | (go_at_call 39; refine (O.out).mono ?_; rintro e w1 ⟨rfl, k1, k2⟩; obtain ⟨r1, r2, r3, r4⟩ := CE.out w1 k1; have K1 := Lib.hid k1; have K2 := Lib.hid k2; clear k1 k2))
  go_region
  all_goals
    go_wp2_with fail
    go_ret
    have fin := FIN.out w1 _ K1.out K2.out rfl
    exact ⟨rfl, fin.1.move (Nat.le_refl _) (fun _ _ => rfl), fin.2.drew⟩
end Yd
end Go.Proofs.Ytcjfdebjgaohlaa

/- The document's disk: Cut. -/
namespace Go.Proofs.Ytcjfdebjgaohlaa
open Go.RowKit Go.Maps Go.ChangeMaps Go.MapKept
namespace Ye
open Jb Jm Jd Jw Jx Jn J1 J9 Ya Yb Yc Yd

set_option maxRecDepth 100000
theorem rcut_down (w : World) (T : Nat → Prop) (g : Nat) (s : ByteArray) (n : Int) (t : Dt) (h : Wk w T g t) (hd : t.down = true) :
    Calls Try.prog 20 #[.pointer (some ⟨g, 0, none⟩), .string s, .int .i64 n] w fun e w' => e = .returned (.int .i64 8) ∧ w' = w := by
  have F := Lib.hid (there_down w g s t h.cs hd)
  clear h hd
  go_enter Try.func20, Try.ntmps20
  go_wp2_with (go_at_call 42; refine (F.out).mono ?_; rintro e w ⟨rfl, rfl⟩)
  go_ret
  first | trivial | exact ⟨rfl, rfl⟩
theorem rcut_none (w : World) (T : Nat → Prop) (g : Nat) (s : ByteArray) (n : Int) (t : Dt) (h : Wk w T g t) (hd : t.down = false) (hA : At1 t.L s t.L.length) (hb : t.L.length ≤ 1000000000) :
    Calls Try.prog 20 #[.pointer (some ⟨g, 0, none⟩), .string s, .int .i64 n] w fun e w' => e = .returned (.int .i64 6) ∧ w' = w := by
  have F := Lib.hid (there_none w T g s t h hd hA hb)
  clear h hd hA hb
  go_enter Try.func20, Try.ntmps20
  go_wp2_with (go_at_call 42; refine (F.out).mono ?_; rintro e w ⟨rfl, rfl⟩)
  go_ret
  first | trivial | exact ⟨rfl, rfl⟩
theorem rcut_range (w : World) (T : Nat → Prop) (g : Nat) (s : ByteArray) (n : Int) (t : Dt) (h : Wk w T g t) (hd : t.down = false) (A : Nat) (hA : At1 t.L s A) (hlt : A < t.L.length) (hb : t.L.length ≤ 1000000000) (hn : n < 0 ∨ ((t.L.getD A e0).bs.length : Int) < n) :
    Calls Try.prog 20 #[.pointer (some ⟨g, 0, none⟩), .string s, .int .i64 n] w fun e w' => e = .returned (.int .i64 3) ∧ w' = w := by
  have F := Lib.hid (there_some w T g s t h hd A hA hlt hb)
  have c0 := h.cs.c0
  obtain ⟨ea, ec, he⟩ := (h.ent _ (mem_getD hlt)).1.forms
  rcases row_at h.row with ⟨hL, _⟩ | ⟨q, c, hv, hc, hq, _, _, hcell⟩
  · rw [hL] at hlt; simp at hlt
  have cn := (hcell A hlt).2.1
  rw [he] at cn
  rw [hv] at c0
  obtain ⟨m, hm⟩ : ∃ m, m = t.L.length := ⟨_, rfl⟩
  obtain ⟨l, hll⟩ : ∃ l, l = (t.L.getD A e0).bs.length := ⟨_, rfl⟩
  have hA0 : (0 : Int) ≤ (A : Int) := by omega
  have hAn : A < m := by omega
  rw [← hll] at cn hn
  rw [← hm] at c0
  by_cases h0 : n < 0
  · clear h hd hA hb hlt hv hc hq hcell he hm hll hn
    go_enter Try.func20, Try.ntmps20
    go_wp2_with (go_at_call 42; refine (F.out).mono ?_; rintro e w ⟨rfl, rfl⟩)
    go_ret
    first | trivial | exact ⟨rfl, rfl⟩
  · have h1 : (l : Int) < n := by omega
    clear h hd hA hb hlt hv hc hq hcell he hm hll hn
    go_enter Try.func20, Try.ntmps20
    go_wp2_with (go_at_call 42; refine (F.out).mono ?_; rintro e w ⟨rfl, rfl⟩)
    go_ret
    first | trivial | exact ⟨rfl, rfl⟩
theorem rcut_lost (w : World) (T : Nat → Prop) (g : Nat) (s : ByteArray) (n : Nat) (t : Dt) (h : Wk w T g t) (hd : t.down = false) (A : Nat) (hA : At1 t.L s A) (hlt : A < t.L.length) (hb : t.L.length ≤ 1000000000) (hn : n ≤ (t.L.getD A e0).bs.length) (hl : opTE t = 8) :
    Calls Try.prog 20 #[.pointer (some ⟨g, 0, none⟩), .string s, .int .i64 (n : Nat)] w fun e w' => e = .returned (.int .i64 8) ∧ Wk w' T g (opT t) ∧ Chg w w' T := by
  have F := Lib.hid (there_some w T g s t h hd A hA hlt hb)
  have c0 := h.cs.c0
  obtain ⟨ea, ec, he⟩ := (h.ent _ (mem_getD hlt)).1.forms
  rcases row_at h.row with ⟨hL, _⟩ | ⟨q, c, hv, hc, hq, _, _, hcell⟩
  · rw [hL] at hlt; simp at hlt
  have cn := (hcell A hlt).2.1
  rw [he] at cn
  rw [hv] at c0
  obtain ⟨m, hm⟩ : ∃ m, m = t.L.length := ⟨_, rfl⟩
  obtain ⟨l, hll⟩ : ∃ l, l = (t.L.getD A e0).bs.length := ⟨_, rfl⟩
  have hA0 : (0 : Int) ≤ (A : Int) := by omega
  have hAn : A < m := by omega
  have O := Lib.hid (opr_off w T g t h hl)
  rw [← hll] at cn hn
  rw [← hm] at c0
  have q1 : ¬ (l : Int) < (n : Int) := by omega
  have q2 : ¬ l < n := by omega
  have q3 : ¬ (n : Int) < 0 := by omega
  clear h hd hA hb hlt hv hc hq hcell he hm hll hn hl
  go_enter Try.func20, Try.ntmps20
  go_wp2_with (first | (go_at_call 42; refine (F.out).mono ?_; rintro e w ⟨rfl, rfl⟩) | (go_at_call 39; refine (O.out).mono ?_; rintro e w' ⟨rfl, k1, k2⟩))
  go_ret
  exact ⟨rfl, k1, k2⟩
/-- What is left of a source. -/
theorem src_take {w : World} {R : Nat → Prop} {a : Option Addr} {c : Nat} {bs : List Nat} (h : Src w R (.slice a bs.length c) bs) (n : Nat) (hn : n ≤ bs.length) : Src w R (.slice a n c) (bs.take n) := by
  have hl : (bs.take n).length = n := by rw [List.length_take]; omega
  rcases h with ⟨rfl, _⟩ | ⟨h0, b, off, c', e, hc, hR, hcell⟩
  · simp at hn; subst hn; exact .inl ⟨rfl, _, _, rfl⟩
  · cases e
    by_cases h0 : n = 0
    · subst h0; exact .inl ⟨by simp, _, _, rfl⟩
    · refine .inr ⟨by omega, b, off, c, by rw [hl], by omega, hR, fun i hi => ?_⟩
      rw [hl] at hi
      rw [hcell i (by omega)]
      simp [Jb.g, List.getD_eq_getElem?_getD, hi]
theorem rcut_on (w : World) (T : Nat → Prop) (g : Nat) (s : ByteArray) (n : Nat) (t : Dt) (h : Wk w T g t) (hd : t.down = false) (A : Nat) (hA : At1 t.L s A) (hlt : A < t.L.length) (hb : t.L.length ≤ 1000000000) (hn : n ≤ (t.L.getD A e0).bs.length) (hl : opTE t = 0) :
    Calls Try.prog 20 #[.pointer (some ⟨g, 0, none⟩), .string s, .int .i64 (n : Nat)] w fun e w' => e = .returned (.int .i64 0) ∧
      (∃ bv, Wk w' T g { opT t with L := t.L.set A ⟨(t.L.getD A e0).name, bv, (t.L.getD A e0).bs.take n, min (t.L.getD A e0).syn n⟩ }) ∧ Chg w w' T := by
  have F := Lib.hid (there_some w T g s t h hd A hA hlt hb)
  have c0 := h.cs.c0
  obtain ⟨ea, ec, he⟩ := (h.ent _ (mem_getD hlt)).1.forms
  rcases row_at h.row with ⟨hL, _⟩ | ⟨q, c, hv, hc, hq, _, _, hcell⟩
  · rw [hL] at hlt; simp at hlt
  have cn := (hcell A hlt).2.1
  rw [he] at cn
  rw [hv] at c0
  obtain ⟨m, hm⟩ : ∃ m, m = t.L.length := ⟨_, rfl⟩
  obtain ⟨l, hll⟩ : ∃ l, l = (t.L.getD A e0).bs.length := ⟨_, rfl⟩
  have hA0 : (0 : Int) ≤ (A : Int) := by omega
  have hAn : A < m := by omega
  have O := Lib.hid (opr_on w T g t h hl)
  obtain ⟨K, hK⟩ : ∃ K, K = (t.L.getD A e0).syn := ⟨_, rfl⟩
  have hqg : q ≠ g := (h.rb q (by rw [hv]; rfl)).2
  have hle : l ≤ ec := by
    obtain ⟨a1, a2, _, _⟩ := h.ent _ (mem_getD hlt)
    rw [he] at a1 a2
    rcases a1 with ⟨e1, _⟩ | ⟨_, b', off', c', e, hcc, _⟩
    · rw [e1] at hll; simp at hll; omega
    · cases e; omega
  have CE : Hid (∀ w1, Wk w1 T g (opT t) → w1.cell? ⟨g, 0, none⟩ = some (.slice (some ⟨q, 0, none⟩) m c) ∧ w1.cell? ⟨q, A * 3 + 1, none⟩ = some (.slice ea l ec) ∧ w1.frozen? ⟨q, A * 3 + 1, none⟩ = false ∧ w1.cell? ⟨q, A * 3 + 2, none⟩ = some (.int .i64 (K : Nat)) ∧ w1.frozen? ⟨q, A * 3 + 2, none⟩ = false) := Lib.hid fun w1 k => by
    have e1 := k.cs.c0
    rw [opT_fvv, hv] at e1
    have hr := k.row
    rw [opT_L, opT_fvv] at hr
    rcases row_at hr with ⟨hL, _⟩ | ⟨q', c', hv', _, _, _, hz, hcell'⟩
    · rw [hL] at hlt; simp at hlt
    · rw [hv] at hv'
      cases hv'
      obtain ⟨_, x2, x3⟩ := hcell' A hlt
      exact ⟨by rw [hm]; exact e1, by rw [hll, ← he]; exact x2, hz _, by rw [hK]; exact x3, hz _⟩
  have FIN : Hid (∀ w1 w', Wk w1 T g (opT t) → Chg w w1 T → w' = (w1.setCell ⟨q, A * 3 + 1, none⟩ (.slice ea n ec)).setCell ⟨q, A * 3 + 2, none⟩ (.int .i64 (min K n : Nat)) → (∃ bv, Wk w' T g { opT t with L := t.L.set A ⟨(t.L.getD A e0).name, bv, (t.L.getD A e0).bs.take n, min (t.L.getD A e0).syn n⟩ }) ∧ Chg w w' T) := Lib.hid fun w1 w' k1 k2 hw => by
    have hv1 : (opT t).fvv = .slice (some ⟨q, 0, none⟩) (opT t).L.length c := by rw [opT_fvv, opT_L]; exact hv
    have hlt1 : A < (opT t).L.length := by rw [opT_L]; exact hlt
    obtain ⟨s1, s2, s3, s4⟩ := k1.ent _ (mem_getD hlt1)
    have hro := k1.row
    rw [hv1] at hro
    have hro1 := (hro.stored (A * 3 + 1) (.slice ea n ec)).1
    have hro2 := (hro1.stored (A * 3 + 2) (.int .i64 (min K n : Nat))).1
    rw [ecs_set _ A _ ((t.L.getD A e0).bs.take n) _ hlt1, ← hv1, ← hw] at hro2
    have hTq : T q := (k1.rb q (by rw [hv1]; rfl)).1
    rw [opT_L, he] at s1 s2
    rw [opT_L] at s3 s4
    have k3 := Wk.turn k1 hv1 hlt1 (w' := w') (bv' := .slice ea n ec) (bs' := (t.L.getD A e0).bs.take n) (k' := min K n) (T' := T) (by rw [hw]; simp) (by rw [hw]; exact (heap_setCell_ne (fun e => hqg e.symm)).trans (heap_setCell_ne (fun e => hqg e.symm))) hro2 (fun k hk => by rw [hw]; exact (heap_setCell_ne hk).trans (heap_setCell_ne hk)) (fun _ hk => hk) k1.lt (src_take s1 n hn)
      (fun c' e => by injection e with e1 e2 e3; have := s2 ec (by rw [e1]); omega) (fun x hx => s3 x (List.mem_of_mem_take hx)) (by rw [List.length_take]; omega)
    rw [opT_L, hK] at k3
    refine ⟨⟨_, k3⟩, ?_⟩
    rw [hw]
    exact (k2.setCell hTq _).setCell hTq _
  have hmin : ∀ (ty : TypeId) (z : World), (Builtin.min_ #[3, 3] ty #[.int .i64 (K : Nat), .int .i64 (n : Nat)]).run Try.prog z = .ok (.int .i64 (min K n : Nat)) z := by
    intro ty z
    rw [run_min_int2]
    have e : (if ((n : Nat) : Int) < (K : Int) then ((n : Nat) : Int) else (K : Int)) = (min K n : Nat) := by split <;> omega
    rw [e]
  have hmi : (min (K : Int) (n : Int)) = ((min K n : Nat) : Int) := by omega
  have HMI := Lib.hid hmi
  rw [← hll] at cn hn
  rw [← hm] at c0
  have q1 : ¬ (l : Int) < (n : Int) := by omega
  have q2 : ¬ l < n := by omega
  have q3 : ¬ (n : Int) < 0 := by omega
  have q4 : n ≤ ec := by omega
  clear h hd hA hb hlt hv hc hq hcell he hm hll hn hl hK hmi hle
  go_enter Try.func20, Try.ntmps20
  go_wp2_with (first | (go_at_call 42; refine (F.out).mono ?_; rintro e w ⟨rfl, rfl⟩) | (go_at_call 39; refine (O.out).mono ?_; rintro e w1 ⟨rfl, k1, k2⟩; obtain ⟨r1, r2, r3, r4, r5⟩ := CE.out w1 k1; have K1 := Lib.hid k1; have K2 := Lib.hid k2; clear k1 k2))
  go_region
  all_goals
    go_wp2_with fail
    go_region
    all_goals
      go_wp2_with fail
      go_ret
      have fin := FIN.out w1 _ K1.out K2.out rfl
      obtain ⟨⟨bv, f1⟩, f2⟩ := fin
      exact ⟨rfl, ⟨bv, f1.move (Nat.le_refl _) (fun _ _ => rfl)⟩, f2.drew.drew⟩
end Ye
end Go.Proofs.Ytcjfdebjgaohlaa

/- The document's disk: a file is taken out of the row. -/
namespace Go.Proofs.Ytcjfdebjgaohlaa
open Go.RowKit Go.Maps Go.ChangeMaps Go.MapKept
namespace Yf
open Jb Jm Jd Jw Jx Jn J1 J9 Ya Yb Yc Yd Ye Jh

theorem info74 : (Try.prog.info? 65).map (fun i => (i.zero, i.size, i.bytes)) = some (some (.agg #[.string ⟨#[]⟩, .slice none 0 0, .int .i64 0]), 3, 48) := by kernel_rfl
/-- A slice that holds these files. -/
def RS (w : World) (v : Value) (M : List En) : Prop :=
  (M = [] ∧ (v = .slice none 0 0 ∨ ∃ a c, v = .slice (some a) 0 c)) ∨ ∃ q o c, v = .slice (some ⟨q, o, none⟩) M.length c ∧ ∀ i, i < M.length → EAt w q (o + i * 3) (M.getD i e0)
theorem RS.move {w w' : World} {v : Value} {M : List En} (h : RS w v M) (f : ∀ q o c, v = .slice (some ⟨q, o, none⟩) M.length c → w'.heap[q]? = w.heap[q]?) : RS w' v M := by
  rcases h with h | ⟨q, o, c, e, hc⟩
  · exact .inl h
  · exact .inr ⟨q, o, c, e, fun i hi => (hc i hi).of_block (f q o c e)⟩
theorem run_append_rows (w : World) (v : Value) (M0 : List En) (hown : w.ownsRow 0 65 3 v M0.length (ecs M0)) (src : Value) (M : List En) (hs : RS w src M) (h1 : ∀ e ∈ M, e.bv.oneCell' = true) (hb : M0.length + M.length ≤ 2000000000) (ty : TypeId) :
    ∃ v' w', (Builtin.append_ #[43, 43] ty #[v, src]).run Try.prog w = .ok v' w' ∧ w'.ownsRow 0 65 3 v' (M0 ++ M).length (ecs (M0 ++ M)) ∧ w.grownBy w' v.ownBlock ∧ (v'.ownBlock = v.ownBlock ∨ v'.ownBlock = some w.heap.size) := by
  obtain ⟨i0, hi, hz0, hz1, hz2⟩ := info_parts info74
  rw [ecs_app, List.length_append]
  rcases hs with ⟨rfl, rfl | ⟨a, c, rfl⟩⟩ | ⟨q, o, c, rfl, hc⟩
  · have hrun := run_append_owned_none (P := Try.prog) (w := w) 0 43 ty 65 i0 3 Try.underlying43 hi v _ _ hown
    exact ⟨v, w, hrun, by simpa [ecs] using hown, World.grownBy.refl _ _, .inl rfl⟩
  · obtain ⟨v', w', hrun, r1, r2, _, r4⟩ := run_append_own_at (P := Try.prog) w 0 43 ty 65 i0 _ 3 48 Try.underlying43 hi hz0 hz1 hz2 rfl (by decide) v _ _ hown a 0 c [] rfl (by simp) (by simp) (by unfold maxLen; omega) (by simp at hb; omega) (Nat.zero_le _)
    exact ⟨v', w', hrun, r1, r2, r4⟩
  · have hcell : ∀ j u, (ecs M)[j]? = some u → w.cell? (Addr.add ⟨q, o, none⟩ j) = some u := by
      intro j u hj
      have hjl : j < M.length * 3 := by have := (List.getElem?_eq_some_iff.1 hj).1; rwa [ecs_len] at this
      have hjm : j = (j / 3) * 3 + j % 3 := by omega
      have hj3 : j / 3 < M.length := by omega
      have hr : j % 3 < 3 := Nat.mod_lt _ (by decide)
      have eA : (Addr.add ⟨q, o, none⟩ j) = ⟨q, o + j, none⟩ := by by_cases hi0 : j = 0 <;> simp [Addr.add, hi0]
      rw [eA]
      rw [hjm, ecs_get M (j / 3) (j % 3) hj3 hr] at hj
      obtain ⟨x1, x2, x3⟩ := hc (j / 3) hj3
      rcases (show j % 3 = 0 ∨ j % 3 = 1 ∨ j % 3 = 2 by omega) with e | e | e
      · rw [e] at hj; rw [← hj, show o + j = o + j / 3 * 3 by omega, x1]; rfl
      · rw [e] at hj; rw [← hj, show o + j = o + j / 3 * 3 + 1 by omega, x2]; rfl
      · rw [e] at hj; rw [← hj, show o + j = o + j / 3 * 3 + 2 by omega, x3]; rfl
    have hone : ∀ u ∈ ecs M, u.oneCell' = true := by
      intro u hu
      unfold ecs at hu
      obtain ⟨e, he, hu⟩ := List.mem_flatMap.1 hu
      simp only [ec, List.mem_cons, List.not_mem_nil, or_false] at hu
      rcases hu with rfl | rfl | rfl
      · rfl
      · exact h1 e he
      · rfl
    obtain ⟨v', w', hrun, r1, r2, _, r4⟩ := run_append_own_at (P := Try.prog) w 0 43 ty 65 i0 _ 3 48 Try.underlying43 hi hz0 hz1 hz2 rfl (by decide) v _ _ hown ⟨q, o, none⟩ M.length c (ecs M) (ecs_len M) hcell hone (by unfold maxLen; omega) (by omega) (Nat.zero_le _)
    exact ⟨v', w', hrun, r1, r2, r4⟩
theorem rs_take {w : World} {q c : Nat} {L : List En} (h : ∀ i, i < L.length → EAt w q (i * 3) (L.getD i e0)) (k : Nat) (hk : k ≤ L.length) : RS w (.slice (some ⟨q, 0, none⟩) k c) (L.take k) := by
  have hl : (L.take k).length = k := by rw [List.length_take]; omega
  refine .inr ⟨q, 0, c, by rw [hl], fun i hi => ?_⟩
  rw [hl] at hi
  have e : (L.take k).getD i e0 = L.getD i e0 := by simp [List.getD_eq_getElem?_getD, hi]
  rw [e, Nat.zero_add]
  exact h i (by omega)
theorem rs_drop {w : World} {q c : Nat} {L : List En} (h : ∀ i, i < L.length → EAt w q (i * 3) (L.getD i e0)) (k : Nat) : RS w (.slice (some ⟨q, k * 3, none⟩) (L.length - k) c) (L.drop k) := by
  refine .inr ⟨q, k * 3, c, by rw [List.length_drop], fun i hi => ?_⟩
  rw [List.length_drop] at hi
  have e : (L.drop k).getD i e0 = L.getD (k + i) e0 := by simp [List.getD_eq_getElem?_getD, List.getElem?_drop]
  rw [e, show k * 3 + i * 3 = (k + i) * 3 by omega]
  exact h (k + i) (by omega)
/-- A new row with some of the old files, in the place of the old one. -/
theorem Wk.row_new {w w' : World} {T : Nat → Prop} {g : Nat} {t : Dt} (h : Wk w T g t) {v : Value} {M : List En} (hs : w.heap.size ≤ w'.heap.size) (hc : Wc w' g { t with fvv := v }) (ho : w'.ownsRow 0 65 3 v M.length (ecs M)) (hb : ∀ k, k < w.heap.size → k ≠ g → w'.heap[k]? = w.heap[k]?)
    (hv : ∀ k, v.ownBlock = some k → w.heap.size ≤ k ∧ k < w'.heap.size)
    (hM : ∀ e ∈ M, e ∈ t.L ∨ (Src w (fun k => T k ∧ k ≠ g) e.bv e.bs ∧ (∀ c, e.bv = .slice none e.bs.length c → c = 0) ∧ (∀ x ∈ e.bs, x < 256) ∧ e.syn ≤ e.bs.length)) : Wk w' (New T w w') g { t with fvv := v, L := M } := by
  refine ⟨⟨hc.c0, hc.c1, hc.c2, hc.c3, hc.c4, hc.z, hc.br, hc.bf, hc.fz⟩, .inl h.tg, fun k hk => ?_, ho, fun k hk => ?_, fun e he => ?_⟩
  · rcases hk with hk | hk
    · exact Nat.lt_of_lt_of_le (h.lt k hk) hs
    · exact hk.2
  · have := hv k hk
    exact ⟨.inr this, fun e => by have := h.lt g h.tg; omega⟩
  · have key : Src w (fun k => T k ∧ k ≠ g) e.bv e.bs ∧ (∀ c, e.bv = .slice none e.bs.length c → c = 0) ∧ (∀ x ∈ e.bs, x < 256) ∧ e.syn ≤ e.bs.length := by
      rcases hM e he with hm | hm
      · obtain ⟨a, r⟩ := h.ent e hm
        exact ⟨a.imp fun k hk => ⟨hk.1, hk.2.1⟩, r⟩
      · exact hm
    obtain ⟨a, r⟩ := key
    refine ⟨(a.move fun k hk hl => hb k hl hk.2).imp fun k hk => ⟨.inl hk.1, hk.2, fun e' => ?_⟩, r⟩
    have := hv k e'
    have := h.lt k hk.1
    omega
end Yf
end Go.Proofs.Ytcjfdebjgaohlaa
