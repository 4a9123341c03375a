import Derived.Test.YtcjfdebjgaohlaaG10
import Derived.Test.YtcjfdebjgaohlaaG06

/- The document's disk: Rename. -/
namespace Go.Proofs.Ytcjfdebjgaohlaa
open Go.RowKit Go.Maps Go.ChangeMaps Go.MapKept
namespace Yj
open Jb Jm Jd Jw Jx Jn J1 J6 J9 Ya Yb Yc Yd Ye Jh Yf Yg Yh Yi

theorem ne_beq {s t : ByteArray} (h : s ≠ t) : (s.toList == t.toList) = false := beq_ne h
theorem Fits.move {w w' : World} {T T' : Nat → Prop} {g : Nat} {t t' : Dt} {e : En} (h : Fits w T g t e) (hT : ∀ k, T k → T' k) (f : ∀ k, T k → k ≠ g → w'.heap[k]? = w.heap[k]?) : Fits w' T' g t' e :=
  ⟨(h.1.move fun k hk _ => f k hk.1 hk.2).imp fun k hk => ⟨hT k hk.1, hk.2⟩, h.2⟩
theorem Fits.of_ent {w : World} {T : Nat → Prop} {g : Nat} {t : Dt} (h : Wk w T g t) {e : En} (he : e ∈ t.L) (t' : Dt) (s : ByteArray) : Fits w T g t' ⟨s, e.bv, e.bs, e.syn⟩ := by
  obtain ⟨a, r⟩ := h.ent e he
  exact ⟨a.imp fun k hk => ⟨hk.1, hk.2.1⟩, r⟩
set_option maxRecDepth 100000
theorem rren_down (w : World) (T : Nat → Prop) (g : Nat) (s z : ByteArray) (t : Dt) (h : Wk w T g t) (hd : t.down = true) :
    Calls Try.prog 16 #[.pointer (some ⟨g, 0, none⟩), .string s, .string z] w fun e w' => e = .returned (.int .i64 8) ∧ w' = w := by
  have F := Lib.hid (there_down w g s t h.cs hd)
  clear h hd
  go_enter Try.func16, Try.ntmps16
  go_wp2_with (go_at_call 42; refine (F.out).mono ?_; rintro e w ⟨rfl, rfl⟩)
  go_ret
  first | trivial | exact ⟨rfl, rfl⟩
theorem rren_none (w : World) (T : Nat → Prop) (g : Nat) (s z : ByteArray) (t : Dt) (h : Wk w T g t) (hd : t.down = false) (hA : At1 t.L s t.L.length) (hb : t.L.length ≤ 1000000000) :
    Calls Try.prog 16 #[.pointer (some ⟨g, 0, none⟩), .string s, .string z] w fun e w' => e = .returned (.int .i64 6) ∧ w' = w := by
  have F := Lib.hid (there_none w T g s t h hd hA hb)
  clear h hd hA hb
  go_enter Try.func16, Try.ntmps16
  go_wp2_with (go_at_call 42; refine (F.out).mono ?_; rintro e w ⟨rfl, rfl⟩)
  go_ret
  first | trivial | exact ⟨rfl, rfl⟩
theorem rren_bad (w : World) (T : Nat → Prop) (g : Nat) (s z : ByteArray) (t : Dt) (h : Wk w T g t) (hd : t.down = false) (A : Nat) (hA : At1 t.L s A) (hlt : A < t.L.length) (hb : t.L.length ≤ 1000000000)
    (hz : z.size ≤ 140737488355328) (hn : isNm z = false) :
    Calls Try.prog 16 #[.pointer (some ⟨g, 0, none⟩), .string s, .string z] w fun e w' => e = .returned (.int .i64 1) ∧ w' = w := by
  have F := Lib.hid (there_some w T g s t h hd A hA hlt hb)
  have N := Lib.hid (name17 w z hz)
  rw [hn] at N
  clear h hd hA hb hlt hz hn
  go_enter Try.func16, Try.ntmps16
  go_wp2_with (first | (go_at_call 42; refine (F.out).mono ?_; rintro e w ⟨rfl, rfl⟩) | (go_at_call 38; refine (N.out).mono ?_; rintro e w ⟨rfl, rfl⟩))
  go_ret
  first | trivial | exact ⟨rfl, rfl⟩
theorem rren_lost (w : World) (T : Nat → Prop) (g : Nat) (s z : ByteArray) (t : Dt) (h : Wk w T g t) (hd : t.down = false) (A : Nat) (hA : At1 t.L s A) (hlt : A < t.L.length) (hb : t.L.length ≤ 1000000000)
    (hz : z.size ≤ 140737488355328) (hn : isNm z = true) (hl : opTE t = 8) :
    Calls Try.prog 16 #[.pointer (some ⟨g, 0, none⟩), .string s, .string z] w fun e w' => e = .returned (.int .i64 8) ∧ Wk w' T g (opT t) ∧ Chg w w' T := by
  have F := Lib.hid (there_some w T g s t h hd A hA hlt hb)
  have N := Lib.hid (name17 w z hz)
  have O := Lib.hid (opr_off w T g t h hl)
  rw [hn] at N
  clear h hd hA hb hlt hl hz hn
  go_enter Try.func16, Try.ntmps16
  go_wp2_with (first | (go_at_call 42; refine (F.out).mono ?_; rintro e w ⟨rfl, rfl⟩) | (go_at_call 38; refine (N.out).mono ?_; rintro e w ⟨rfl, rfl⟩) | (go_at_call 39; refine (O.out).mono ?_; rintro e w' ⟨rfl, k1, k2⟩))
  go_ret
  exact ⟨rfl, k1, k2⟩
theorem rren_same (w : World) (T : Nat → Prop) (g : Nat) (s : ByteArray) (t : Dt) (h : Wk w T g t) (hd : t.down = false) (A : Nat) (hA : At1 t.L s A) (hlt : A < t.L.length) (hb : t.L.length ≤ 1000000000)
    (hz : s.size ≤ 140737488355328) (hn : isNm s = true) (hl : opTE t = 0) :
    Calls Try.prog 16 #[.pointer (some ⟨g, 0, none⟩), .string s, .string s] w fun e w' => e = .returned (.int .i64 0) ∧ Wk w' T g (opT t) ∧ Chg w w' T := by
  have F := Lib.hid (there_some w T g s t h hd A hA hlt hb)
  have N := Lib.hid (name17 w s hz)
  have O := Lib.hid (opr_on w T g t h hl)
  rw [hn] at N
  have e2 := beq_same s
  clear h hd hA hb hlt hl hz hn
  go_enter Try.func16, Try.ntmps16
  go_wp2_with (first | (go_at_call 42; refine (F.out).mono ?_; rintro e w ⟨rfl, rfl⟩) | (go_at_call 38; refine (N.out).mono ?_; rintro e w ⟨rfl, rfl⟩) | (go_at_call 39; refine (O.out).mono ?_; rintro e w' ⟨rfl, k1, k2⟩))
  go_ret
  exact ⟨rfl, k1, k2⟩
/-- The row without its file at A. -/
def del (L : List En) (A : Nat) : List En := L.take A ++ L.drop (A + 1)
/-- The row with a file at C. -/
def ins (L : List En) (C : Nat) (e : En) : List En := L.take C ++ [e] ++ L.drop C
theorem del_len {L : List En} {A : Nat} (h : A < L.length) : (del L A).length + 1 = L.length := rem_len L A h
theorem rren_new (w : World) (T : Nat → Prop) (g : Nat) (s z : ByteArray) (t : Dt) (h : Wk w T g t) (hd : t.down = false) (A : Nat) (hA : At1 t.L s A) (hlt : A < t.L.length) (hb : t.L.length ≤ 1000000000)
    (hz : z.size ≤ 140737488355328) (hn : isNm z = true) (hl : opTE t = 0) (hsz : s ≠ z) (hB : At1 (del t.L A) z (del t.L A).length) (C : Nat) (hC : Pos (del t.L A) z C) :
    Calls Try.prog 16 #[.pointer (some ⟨g, 0, none⟩), .string s, .string z] w fun e w' => e = .returned (.int .i64 0) ∧
      (∃ v, Wk w' (New T w w') g { opT t with fvv := v, L := ins (del t.L A) C ⟨z, (t.L.getD A e0).bv, (t.L.getD A e0).bs, (t.L.getD A e0).syn⟩ }) ∧ Chg w w' T := by
  have F := Lib.hid (there_some w T g s t h hd A hA hlt hb)
  have N := Lib.hid (name17 w z hz)
  have O := Lib.hid (opr_on w T g t h hl)
  rw [hn] at N
  have e2 := ne_beq hsz
  have K := Lib.hid (fun (wa : World) (k1 : Wk wa T g (opT t)) => take52 wa T g (opT t) k1 A (by rw [opT_L]; exact hlt) (by rw [opT_L]; exact hb))
  rw [opT_L] at K
  have HF := Lib.hid (fun (wa : World) (k1 : Wk wa T g (opT t)) (t' : Dt) => Fits.of_ent k1 (e := t.L.getD A e0) (by rw [opT_L]; exact mem_getD hlt) t' z)
  have HT := Lib.hid (fun k hk => h.lt k hk)
  have HG := Lib.hid h.tg
  have HBB := Lib.hid (And.intro hb (del_len hlt))
  have HB := Lib.hid hB
  have HC := Lib.hid hC
  obtain ⟨ea, ec, he⟩ := (h.ent _ (mem_getD hlt)).1.forms
  obtain ⟨E, hE⟩ : ∃ E, E = t.L.getD A e0 := ⟨_, rfl⟩
  obtain ⟨l, hll⟩ : ∃ l, l = E.bs.length := ⟨_, rfl⟩
  rw [← hE] at K HF he ⊢
  rw [← hll] at he
  have HE := Lib.hid he
  rw [he] at K
  clear h hd hA hb hlt hl hz hn hsz hB hC hE hll he
  go_enter Try.func16, Try.ntmps16
  go_upto_region 11 with (first | (go_at_call 42; refine (F.out).mono ?_; rintro e w ⟨rfl, rfl⟩) | (go_at_call 38; refine (N.out).mono ?_; rintro e w ⟨rfl, rfl⟩) | (go_at_call 39; refine (O.out).mono ?_; rintro e wa ⟨rfl, k1, k2⟩) | (go_at_call 45; refine (K.out _ k1).mono ?_; rintro e wb ⟨rfl, j1, j2⟩))
  obtain ⟨vb, j1⟩ := j1
  have hbel := (Below.refl wb.heap.size wb).alloc (o := .cells #[.string z, .slice ea l ec, .int .i64 (E.syn : Nat)] 65) (Nat.le_refl _)
  have j3 : Wk (wb.alloc (.cells #[.string z, .slice ea l ec, .int .i64 (E.syn : Nat)] 65)) (New T wa wb) g { opT t with fvv := vb, L := del t.L A } := Wk.below j1 hbel (Nat.le_refl _)
  have ff : Fits (wb.alloc (.cells #[.string z, .slice ea l ec, .int .i64 (E.syn : Nat)] 65)) (New T wa wb) g { opT t with fvv := vb, L := del t.L A } ⟨z, E.bv, E.bs, E.syn⟩ :=
    Fits.move (HF.out wa k1 { opT t with fvv := vb, L := del t.L A }) (fun k hk => .inl hk) fun k hk hn => (hbel.block k (by have := k1.lt k hk; have := j2.size; omega)).trans (j2.block k (k1.lt k hk) hn)
  have cc := heap_alloc_new wb (.cells #[.string z, .slice ea l ec, .int .i64 (E.syn : Nat)] 65)
  have hsz : wb.heap.size < (wb.alloc (.cells #[.string z, .slice ea l ec, .int .i64 (E.syn : Nat)] 65)).heap.size := by simp
  obtain ⟨wc, hwc⟩ : ∃ wc, wc = wb.alloc (.cells #[.string z, .slice ea l ec, .int .i64 (E.syn : Nat)] 65) := ⟨_, rfl⟩
  rw [← hwc] at j3 ff cc hbel hsz ⊢
  clear hwc j1 K HF
  have FN := Lib.hid (find49 wc _ g _ j3 z _ HB.out (by have := HBB.out; show (del t.L A).length ≤ _; omega))
  rw [show atI (del t.L A) (del t.L A).length = -1 by unfold atI; simp] at FN
  have PT := Lib.hid (put41 wc _ g _ j3 ⟨z, E.bv, E.bs, E.syn⟩ ff (by have := HBB.out; show (del t.L A).length ≤ _; omega) C HC.out)
  rw [HE.out] at PT
  have m0 := Go.Joins.cell_of_block cc 0
  have m1 := Go.Joins.cell_of_block cc 1
  have m2 := Go.Joins.cell_of_block cc 2
  go_wp2_with (first | (go_at_call 40; refine (FN.out).mono ?_; rintro e wc ⟨rfl, rfl⟩) | (go_at_call 41; refine (PT.out).mono ?_; rintro e w' ⟨rfl, p1, p2⟩))
  go_ret
  obtain ⟨v, p1⟩ := p1
  rw [← HE.out] at p1
  have c1 : Chg w wc T := (k2.trans (S := T) j2 (fun k hk _ => hk ▸ HG.out)).trans (S' := T) ⟨hbel.os, hbel.tape, hbel.output, hbel.size, fun k hk _ => hbel.block k hk⟩ (fun k hk _ => hk)
  refine ⟨rfl, ⟨v, Wk.wide p1 (fun k hk => ?_) c1.size p2.size HT.out⟩, c1.trans p2 (fun k hk _ => hk ▸ HG.out)⟩
  rcases hk with hk | hk
  · exact .inl hk
  · exact .inr ⟨by have := k2.size; omega, by omega⟩

theorem rren_over (w : World) (T : Nat → Prop) (g : Nat) (s z : ByteArray) (t : Dt) (h : Wk w T g t) (hd : t.down = false) (A : Nat) (hA : At1 t.L s A) (hlt : A < t.L.length) (hb : t.L.length ≤ 1000000000)
    (hz : z.size ≤ 140737488355328) (hn : isNm z = true) (hl : opTE t = 0) (hsz : s ≠ z) (B : Nat) (hB : At1 (del t.L A) z B) (hBl : B < (del t.L A).length) (C : Nat) (hC : Pos (del (del t.L A) B) z C) :
    Calls Try.prog 16 #[.pointer (some ⟨g, 0, none⟩), .string s, .string z] w fun e w' => e = .returned (.int .i64 0) ∧
      (∃ v, Wk w' (New T w w') g { opT t with fvv := v, L := ins (del (del t.L A) B) C ⟨z, (t.L.getD A e0).bv, (t.L.getD A e0).bs, (t.L.getD A e0).syn⟩ }) ∧ Chg w w' T := by
  have F := Lib.hid (there_some w T g s t h hd A hA hlt hb)
  have N := Lib.hid (name17 w z hz)
  have O := Lib.hid (opr_on w T g t h hl)
  rw [hn] at N
  have e2 := ne_beq hsz
  have K := Lib.hid (fun (wa : World) (k1 : Wk wa T g (opT t)) => take52 wa T g (opT t) k1 A (by rw [opT_L]; exact hlt) (by rw [opT_L]; exact hb))
  rw [opT_L] at K
  have HF := Lib.hid (fun (wa : World) (k1 : Wk wa T g (opT t)) (t' : Dt) => Fits.of_ent k1 (e := t.L.getD A e0) (by rw [opT_L]; exact mem_getD hlt) t' z)
  have HT := Lib.hid (fun k hk => h.lt k hk)
  have HG := Lib.hid h.tg
  have HBB := Lib.hid (And.intro hb (del_len hlt))
  have HB := Lib.hid hB
  have HC := Lib.hid hC
  obtain ⟨ea, ec, he⟩ := (h.ent _ (mem_getD hlt)).1.forms
  obtain ⟨E, hE⟩ : ∃ E, E = t.L.getD A e0 := ⟨_, rfl⟩
  obtain ⟨l, hll⟩ : ∃ l, l = E.bs.length := ⟨_, rfl⟩
  rw [← hE] at K HF he ⊢
  rw [← hll] at he
  have HE := Lib.hid he
  rw [he] at K
  have HBl := Lib.hid hBl
  clear h hd hA hb hlt hl hz hn hsz hB hC hBl hE hll he
  go_enter Try.func16, Try.ntmps16
  go_upto_region 11 with (first | (go_at_call 42; refine (F.out).mono ?_; rintro e w ⟨rfl, rfl⟩) | (go_at_call 38; refine (N.out).mono ?_; rintro e w ⟨rfl, rfl⟩) | (go_at_call 39; refine (O.out).mono ?_; rintro e wa ⟨rfl, k1, k2⟩) | (go_at_call 45; refine (K.out _ k1).mono ?_; rintro e wb ⟨rfl, j1, j2⟩))
  obtain ⟨vb, j1⟩ := j1
  have hbel := (Below.refl wb.heap.size wb).alloc (o := .cells #[.string z, .slice ea l ec, .int .i64 (E.syn : Nat)] 65) (Nat.le_refl _)
  have j3 : Wk (wb.alloc (.cells #[.string z, .slice ea l ec, .int .i64 (E.syn : Nat)] 65)) (New T wa wb) g { opT t with fvv := vb, L := del t.L A } := Wk.below j1 hbel (Nat.le_refl _)
  have ff : Fits (wb.alloc (.cells #[.string z, .slice ea l ec, .int .i64 (E.syn : Nat)] 65)) (New T wa wb) g { opT t with fvv := vb, L := del t.L A } ⟨z, E.bv, E.bs, E.syn⟩ :=
    Fits.move (HF.out wa k1 { opT t with fvv := vb, L := del t.L A }) (fun k hk => .inl hk) fun k hk hn => (hbel.block k (by have := k1.lt k hk; have := j2.size; omega)).trans (j2.block k (k1.lt k hk) hn)
  have cc := heap_alloc_new wb (.cells #[.string z, .slice ea l ec, .int .i64 (E.syn : Nat)] 65)
  have hsz : wb.heap.size < (wb.alloc (.cells #[.string z, .slice ea l ec, .int .i64 (E.syn : Nat)] 65)).heap.size := by simp
  obtain ⟨wc, hwc⟩ : ∃ wc, wc = wb.alloc (.cells #[.string z, .slice ea l ec, .int .i64 (E.syn : Nat)] 65) := ⟨_, rfl⟩
  rw [← hwc] at j3 ff cc hbel hsz ⊢
  clear hwc j1 K HF
  have FN := Lib.hid (find49 wc _ g _ j3 z _ HB.out (by have := HBB.out; show (del t.L A).length ≤ _; omega))
  rw [show atI (del t.L A) B = (B : Int) by unfold atI; rw [if_pos HBl.out]] at FN
  have hB0 : (0 : Int) ≤ (B : Int) := by omega
  have TK := Lib.hid (take52 wc _ g _ j3 B HBl.out (by have := HBB.out; show (del t.L A).length ≤ _; omega))
  go_upto_region 14 with (first | (go_at_call 40; refine (FN.out).mono ?_; rintro e wc ⟨rfl, rfl⟩) | (go_at_call 45; refine (TK.out).mono ?_; rintro e wd ⟨rfl, q1, q2⟩))
  obtain ⟨vd, q1⟩ := q1
  have q1 : Wk wd (New (New T wa wb) wc wd) g { opT t with fvv := vd, L := del (del t.L A) B } := q1
  have hgb : g < wb.heap.size := by have := k1.lt g HG.out; have := j2.size; omega
  have cd := (q2.block wb.heap.size hsz (by omega)).trans cc
  have fd : Fits wd (New (New T wa wb) wc wd) g { opT t with fvv := vd, L := del (del t.L A) B } ⟨z, E.bv, E.bs, E.syn⟩ := Fits.move ff (fun k hk => .inl hk) fun k hk hn => q2.block k (j3.lt k hk) hn
  have hDL := del_len HBl.out
  have PT := Lib.hid (put41 wd _ g _ q1 ⟨z, E.bv, E.bs, E.syn⟩ fd (by have := HBB.out; show (del (del t.L A) B).length ≤ _; omega) C HC.out)
  rw [HE.out] at PT
  have m0 := Go.Joins.cell_of_block cd 0
  have m1 := Go.Joins.cell_of_block cd 1
  have m2 := Go.Joins.cell_of_block cd 2
  clear hDL
  go_wp2_with (go_at_call 41; refine (PT.out).mono ?_; rintro e w' ⟨rfl, p1, p2⟩)
  go_ret
  obtain ⟨v, p1⟩ := p1
  rw [← HE.out] at p1
  have c1 : Chg w wc T := (k2.trans (S := T) j2 (fun k hk _ => hk ▸ HG.out)).trans (S' := T) ⟨hbel.os, hbel.tape, hbel.output, hbel.size, fun k hk _ => hbel.block k hk⟩ (fun k hk _ => hk)
  have c2 : Chg w wd T := c1.trans q2 (fun k hk _ => hk ▸ HG.out)
  refine ⟨rfl, ⟨v, Wk.wide p1 (fun k hk => ?_) c2.size p2.size HT.out⟩, c2.trans p2 (fun k hk _ => hk ▸ HG.out)⟩
  rcases hk with (hk | hk) | hk
  · exact .inl hk
  · exact .inr ⟨by have := k2.size; omega, by have := q2.size; omega⟩
  · exact .inr ⟨by have := c1.size; omega, hk.2⟩
end Yj
end Go.Proofs.Ytcjfdebjgaohlaa

/- The document's row of files as a function of names. -/
namespace Go.Proofs.Ytcjfdebjgaohlaa
open Go.RowKit Go.Maps Go.ChangeMaps Go.MapKept
namespace Yn
open Jb Jm Jd Jw Jx Jn J1 J2 J6 J9 Ya Yb Yc Yd Ye Yf Yg Yh Yi Yj

def nsL (L : List En) : List (List UInt8) := L.map fun e => e.name.data.toList
def lkL : List En → FT
  | [] => fun _ => none
  | x :: r => upd (lkL r) x.name (x.bs, x.syn)
theorem nm_name (s : ByteArray) : nm s.data.toList = s := by unfold nm; simp
theorem name_inj {s t : ByteArray} (h : s.data.toList = t.data.toList) : s = t := by rw [← nm_name s, ← nm_name t, h]
theorem upd_upd (F : FT) (s : ByteArray) (a b : List Nat × Nat) : upd (upd F s a) s b = upd F s b := by
  funext x; unfold upd; split <;> rfl
theorem upd_comm (F : FT) {s t : ByteArray} (h : s ≠ t) (a b : List Nat × Nat) : upd (upd F s a) t b = upd (upd F t b) s a := by
  funext x
  unfold upd
  by_cases h1 : x = t
  · have : x ≠ s := fun e => h (e.symm.trans h1)
    rw [if_pos h1, if_neg this, if_pos h1]
  · by_cases h2 : x = s
    · rw [if_neg h1, if_pos h2, if_pos h2]
    · rw [if_neg h1, if_neg h2, if_neg h2, if_neg h1]
theorem nsL_getD {L : List En} {k : Nat} (h : k < L.length) : (nsL L)[k]? = some (L.getD k e0).name.data.toList := by
  unfold nsL
  rw [List.getElem?_map, List.getElem?_eq_getElem h]
  simp [List.getD_eq_getElem?_getD, h]
theorem mem_nsL {L : List En} {k : Nat} (h : k < L.length) : (L.getD k e0).name.data.toList ∈ nsL L := List.mem_map.2 ⟨_, mem_getD h, rfl⟩
theorem lk_none {L : List En} {s : ByteArray} (h : s.data.toList ∉ nsL L) : lkL L s = none := by
  induction L with
  | nil => rfl
  | cons x r ih =>
    simp only [nsL, List.map_cons, List.mem_cons, not_or] at h
    show upd (lkL r) x.name (x.bs, x.syn) s = none
    rw [upd_other (fun e => h.1 (by rw [e]))]
    exact ih h.2
theorem lk_some {L : List En} {s : ByteArray} (h : lkL L s ≠ none) : s.data.toList ∈ nsL L := Classical.not_not.1 fun hn => h (lk_none hn)
theorem lk_at {L : List En} (hn : (nsL L).Nodup) : ∀ {k : Nat}, k < L.length → lkL L (L.getD k e0).name = some ((L.getD k e0).bs, (L.getD k e0).syn) := by
  induction L with
  | nil => intro k h; simp at h
  | cons x r ih =>
    intro k h
    obtain ⟨h1, h2⟩ := List.nodup_cons.1 hn
    cases k with
    | zero => exact upd_same _ _ _
    | succ k =>
      have hk : k < r.length := by simpa using h
      have e : (x :: r).getD (k + 1) e0 = r.getD k e0 := by simp [List.getD_eq_getElem?_getD]
      rw [e]
      show upd (lkL r) x.name (x.bs, x.syn) _ = _
      rw [upd_other (fun e => h1 (by have := mem_nsL hk; rw [e] at this; exact this))]
      exact ih h2 hk
theorem ns_set {L : List En} {k : Nat} (h : k < L.length) (bv : Value) (bs : List Nat) (m : Nat) : nsL (L.set k ⟨(L.getD k e0).name, bv, bs, m⟩) = nsL L := by
  unfold nsL
  rw [List.map_set]
  apply List.ext_getElem?
  intro i
  rw [List.getElem?_set]
  split
  · rename_i e
    subst e
    rw [if_pos (by simpa using h)]
    exact (nsL_getD h).symm
  · rfl
theorem lk_set {L : List En} (hn : (nsL L).Nodup) : ∀ {k : Nat}, k < L.length → ∀ (bv : Value) (bs : List Nat) (m : Nat), lkL (L.set k ⟨(L.getD k e0).name, bv, bs, m⟩) = upd (lkL L) (L.getD k e0).name (bs, m) := by
  induction L with
  | nil => intro k h; simp at h
  | cons x r ih =>
    intro k h bv bs m
    obtain ⟨h1, h2⟩ := List.nodup_cons.1 hn
    cases k with
    | zero =>
      show upd (lkL r) x.name (bs, m) = upd (upd (lkL r) x.name (x.bs, x.syn)) x.name (bs, m)
      rw [upd_upd]
    | succ k =>
      have hk : k < r.length := by simpa using h
      have e : (x :: r).getD (k + 1) e0 = r.getD k e0 := by simp [List.getD_eq_getElem?_getD]
      have hne : (r.getD k e0).name ≠ x.name := fun e => h1 (by have := mem_nsL hk; rw [e] at this; exact this)
      rw [e]
      show upd (lkL (r.set k ⟨(r.getD k e0).name, bv, bs, m⟩)) x.name (x.bs, x.syn) = _
      rw [ih h2 hk, upd_comm _ hne]
      rfl
theorem lk_app (L M : List En) (s : ByteArray) : lkL (L ++ M) s = (lkL L s).or (lkL M s) := by
  induction L with
  | nil => rfl
  | cons x r ih =>
    show upd (lkL (r ++ M)) x.name (x.bs, x.syn) s = (upd (lkL r) x.name (x.bs, x.syn) s).or _
    unfold upd
    split
    · rfl
    · exact ih
theorem split_at {L : List En} {A : Nat} (h : A < L.length) : L = L.take A ++ L.getD A e0 :: L.drop (A + 1) := by
  have e : L.getD A e0 = L[A] := by simp [List.getD_eq_getElem?_getD, h]
  rw [e, List.getElem_cons_drop h, List.take_append_drop]
theorem ns_app (L M : List En) : nsL (L ++ M) = nsL L ++ nsL M := by simp [nsL]
theorem ns_del {L : List En} {A : Nat} : (nsL (del L A)).Sublist (nsL L) := by
  unfold del nsL
  refine List.Sublist.map _ ?_
  have h2 : (L.take A ++ L.drop (A + 1)).Sublist (L.take A ++ L.drop A) := (List.Sublist.refl _).append (by
    rw [show L.drop (A + 1) = (L.drop A).drop 1 by rw [List.drop_drop]]
    exact List.drop_sublist _ _)
  rwa [List.take_append_drop] at h2
/-- Rising names. -/
def Up (L : List En) : Prop := (nsL L).Pairwise (· < ·)
theorem Up.nodup {L : List En} (h : Up L) : (nsL L).Nodup := h.imp fun {a b} hab e => by subst e; exact List.lt_irrefl a hab
theorem Up.del {L : List En} (h : Up L) (A : Nat) : Up (del L A) := List.Pairwise.sublist ns_del h
theorem lk_del {L : List En} (hn : (nsL L).Nodup) {A : Nat} (h : A < L.length) : lkL (del L A) = fun s => if s = (L.getD A e0).name then none else lkL L s := by
  have hs := split_at h
  funext s
  have e1 : lkL L s = (lkL (L.take A) s).or (upd (lkL (L.drop (A + 1))) (L.getD A e0).name ((L.getD A e0).bs, (L.getD A e0).syn) s) := by
    conv => lhs; rw [hs]
    exact lk_app _ _ _
  have e2 : lkL (del L A) s = (lkL (L.take A) s).or (lkL (L.drop (A + 1)) s) := lk_app _ _ _
  rw [hs, ns_app] at hn
  have hn2 := List.nodup_append.1 hn
  rw [e2]
  by_cases hsn : s = (L.getD A e0).name
  · rw [if_pos hsn, hsn, lk_none, lk_none]
    · rfl
    · exact (List.nodup_cons.1 hn2.2.1).1
    · intro hm
      exact hn2.2.2 _ hm _ (List.mem_cons_self ..) rfl
  · rw [if_neg hsn, e1, upd_other hsn]
theorem lk_ins {L : List En} {C : Nat} {e : En} (hn : e.name.data.toList ∉ nsL L) : lkL (ins L C e) = upd (lkL L) e.name (e.bs, e.syn) := by
  funext s
  have e1 : lkL L s = (lkL (L.take C) s).or (lkL (L.drop C) s) := by
    conv => lhs; rw [← List.take_append_drop C L]
    exact lk_app _ _ _
  have e2 : lkL (ins L C e) s = ((lkL (L.take C) s).or (lkL [e] s)).or (lkL (L.drop C) s) := by
    unfold ins
    rw [lk_app, lk_app]
  have e3 : lkL [e] s = upd (fun _ => none) e.name (e.bs, e.syn) s := rfl
  rw [e2, e3]
  by_cases hs : s = e.name
  · rw [hs, upd_same, upd_same, lk_none]
    · rfl
    · intro hm
      refine hn ?_
      have : nsL L = nsL (L.take C) ++ nsL (L.drop C) := by rw [← ns_app, List.take_append_drop]
      rw [this]
      exact List.mem_append_left _ hm
  · rw [upd_other hs, upd_other hs, e1]
    simp
theorem less_iff (a b : ByteArray) : Less a b ↔ a.data.toList < b.data.toList := by
  unfold Less
  rw [Go.Proofs.bytesLess_eq, ByteArray.toList_eq, ByteArray.toList_eq]
  simp
theorem Up.ins {L : List En} (h : Up L) {e : En} {C : Nat} (hC : Pos L e.name C) (hn : e.name.data.toList ∉ nsL L) : Up (ins L C e) := by
  obtain ⟨h1, h2, h3⟩ := hC
  have hns : nsL L = nsL (L.take C) ++ nsL (L.drop C) := by rw [← ns_app, List.take_append_drop]
  have hup := h
  unfold Up at hup
  rw [hns] at hup
  obtain ⟨p1, p2, p3⟩ := List.pairwise_append.1 hup
  have lo : ∀ x ∈ nsL (L.take C), x < e.name.data.toList := by
    intro x hx
    obtain ⟨y, hy, rfl⟩ := List.mem_map.1 hx
    obtain ⟨i, hi, rfl⟩ := List.mem_iff_getElem.1 hy
    rw [List.length_take] at hi
    have := h2 i (by omega)
    rw [less_iff] at this
    rw [List.getElem_take]
    have e : L.getD i e0 = L[i]'(by omega) := by simp [List.getD_eq_getElem?_getD, show i < L.length by omega]
    rwa [e] at this
  have hi : ∀ x ∈ nsL (L.drop C), e.name.data.toList < x := by
    intro x hx
    by_cases hCl : C < L.length
    · have h4 := h3 hCl
      rw [less_iff] at h4
      have hx0 : L.drop C = L.getD C e0 :: L.drop (C + 1) := by
        have e : L.getD C e0 = L[C] := by simp [List.getD_eq_getElem?_getD, hCl]
        rw [e, List.getElem_cons_drop hCl]
      have ha : e.name.data.toList < (L.getD C e0).name.data.toList := by
        rcases Std.lt_trichotomy e.name.data.toList (L.getD C e0).name.data.toList with h | h | h
        · exact h
        · exact absurd (by rw [h]; exact mem_nsL hCl) hn
        · exact absurd h h4
      rw [hx0] at hx p2
      rcases List.mem_cons.1 hx with rfl | hx
      · exact ha
      · exact List.lt_trans ha ((List.pairwise_cons.1 p2).1 _ hx)
    · rw [List.drop_eq_nil_iff.2 (by omega)] at hx
      simp [nsL] at hx
  unfold Up Yj.ins
  rw [ns_app, ns_app]
  refine List.pairwise_append.2 ⟨List.pairwise_append.2 ⟨p1, by simp [nsL], fun a ha b hb => ?_⟩, p2, fun a ha b hb => ?_⟩
  · obtain rfl : b = e.name.data.toList := by simpa [nsL] using hb
    exact lo a ha
  · rcases List.mem_append.1 ha with ha | ha
    · exact p3 a ha b hb
    · obtain rfl : a = e.name.data.toList := by simpa [nsL] using ha
      exact hi b hb
theorem at1_none {L : List En} {s : ByteArray} (h : At1 L s L.length) : lkL L s = none := by
  refine lk_none fun hm => ?_
  obtain ⟨y, hy, e⟩ := List.mem_map.1 hm
  obtain ⟨i, hi, rfl⟩ := List.mem_iff_getElem.1 hy
  have e2 : L.getD i e0 = L[i] := by simp [List.getD_eq_getElem?_getD, hi]
  exact h.2.2 i hi (by rw [e2]; exact name_inj e)
theorem at1_some {L : List En} (hn : (nsL L).Nodup) {s : ByteArray} {A : Nat} (h : At1 L s A) (hA : A < L.length) : lkL L s = some ((L.getD A e0).bs, (L.getD A e0).syn) := by
  rw [← h.2.1 hA]
  exact lk_at hn hA
/-- The names of the row are the names of its function. -/
theorem names_lk {L : List En} (h : Up L) : Names (lkL L) (nsL L) := by
  refine ⟨h, fun x => ⟨fun hx hn => ?_, fun hx => ?_⟩⟩
  · obtain ⟨y, hy, rfl⟩ := List.mem_map.1 hx
    obtain ⟨i, hi, rfl⟩ := List.mem_iff_getElem.1 hy
    have e2 : L.getD i e0 = L[i] := by simp [List.getD_eq_getElem?_getD, hi]
    have := lk_at h.nodup hi
    rw [e2] at this
    rw [nm_name] at hn
    rw [hn] at this
    cases this
  · have := lk_some hx
    simpa [nm] using this
theorem tot_lk {L : List En} (h : (nsL L).Nodup) : tot (lkL L) (nsL L) = sumL L := by
  have key : ∀ (F : FT) (M : List En), (∀ e ∈ M, F e.name = some (e.bs, e.syn)) → tot F (nsL M) = sumL M := by
    intro F M hM
    induction M with
    | nil => rfl
    | cons x r ih =>
      have e : tot F (nsL (x :: r)) = lenAt F x.name.data.toList + tot F (nsL r) := by simp [tot, nsL]
      have e2 : sumL (x :: r) = x.bs.length + sumL r := by simp [sumL]
      rw [e, e2, ih fun e he => hM e (List.mem_cons_of_mem _ he)]
      unfold lenAt
      rw [nm_name, hM x (List.mem_cons_self ..)]
      rfl
  refine key _ _ fun e he => ?_
  obtain ⟨i, hi, rfl⟩ := List.mem_iff_getElem.1 he
  have e2 : L.getD i e0 = L[i] := by simp [List.getD_eq_getElem?_getD, hi]
  have := lk_at h hi
  rwa [e2] at this
end Yn
end Go.Proofs.Ytcjfdebjgaohlaa

/- The document's disk: Append. -/
namespace Go.Proofs.Ytcjfdebjgaohlaa
open Go.RowKit Go.Maps Go.ChangeMaps Go.MapKept
namespace Yk
open Jb Jm Jd Jw Jx Jn J1 J6 J9 Ya Yb Yc Yd Ye Jh Yf Yg Yh Yi Yj

/-- A new slice of these bytes, behind the world w2. -/
def Bn (w2 : World) (xs : List Nat) (v : Value) (w : World) : Prop :=
  w.ownsRow 0 5 1 v xs.length (u8s xs) ∧ Below w2.heap.size w2 w ∧ (∀ k, v.ownBlock = some k → w2.heap.size ≤ k ∧ k < w.heap.size) ∧ ∃ a m k, v = .slice a m k
theorem Bn.fresh {w2 w : World} (b : Below w2.heap.size w2 w) : Bn w2 [] (.slice (some ⟨w.heap.size, 0, none⟩) 0 0) (w.alloc (.cells #[] 5)).drew := by
  have o := World.ownsRow_lit (base := 0) (e := 5) (size := 1) w #[] 0 (Nat.zero_le _) (by unfold maxLen; omega) rfl
  refine ⟨o.drew, (b.alloc b.size _).drew, fun k hk => ?_, _, _, _, rfl⟩
  cases hk
  exact ⟨b.size, by simp⟩
theorem Bn.append {w2 w : World} {xs : List Nat} {v : Value} (h : Bn w2 xs v w) {R : Nat → Prop} {ad : Option Addr} {c : Nat} {bs : List Nat} (hs : Src w R (.slice ad bs.length c) bs) (n : Nat) (hn : n ≤ bs.length) (hnil : ad = none → c = 0) (hb : xs.length + n ≤ 140737488355328) (ty : TypeId) :
    ∃ v' w', (Builtin.append_ #[29, 29] ty #[v, .slice ad n c]).run Try.prog w = .ok v' w' ∧ Bn w2 (xs ++ bs.take n) v' w' := by
  obtain ⟨o, b, hv, _⟩ := h
  obtain ⟨v', w', hrun, r1, r2, r3⟩ := run_append w v xs o R ad c bs hs n hn hnil hb ty
  have bel : Below w2.heap.size w2 w' := Below.grown b r2 b.size (fun r hr => (hv r hr).1)
  have r1' : w'.ownsRow 0 5 1 v' (xs ++ bs.take n).length (u8s (xs ++ bs.take n)) := by rw [List.length_append]; exact r1
  obtain ⟨a, c', e⟩ := own_forms r1'
  refine ⟨v', w', hrun, r1', bel, fun k hk => ?_, _, _, _, e⟩
  refine ⟨?_, (own_lt r1' hk).2⟩
  rcases r3 with e | e
  · exact (hv k (by rw [← e]; exact hk)).1
  · rw [e] at hk; cases hk; exact b.size
theorem ecs_set1 (L : List En) : ∀ (A : Nat) (bv' : Value) (bs' : List Nat), A < L.length →
    (ecs L).set (A * 3 + 1) bv' = ecs (L.set A ⟨(L.getD A e0).name, bv', bs', (L.getD A e0).syn⟩) := by
  induction L with
  | nil => intro A _ _ h; simp at h
  | cons x r ih =>
    intro A bv' bs' h
    have e : ecs (x :: r) = .string x.name :: x.bv :: .int .i64 (x.syn : Nat) :: ecs r := rfl
    cases A with
    | zero => rfl
    | succ A =>
      have e2 : ecs ((x :: r).set (A + 1) ⟨((x :: r).getD (A + 1) e0).name, bv', bs', ((x :: r).getD (A + 1) e0).syn⟩) = .string x.name :: x.bv :: .int .i64 (x.syn : Nat) :: ecs (r.set A ⟨(r.getD A e0).name, bv', bs', (r.getD A e0).syn⟩) := by
        simp [ecs, ec, List.getD_eq_getElem?_getD]
      rw [e2, ← ih A bv' bs' (by simpa using h), e]
      rw [show (A + 1) * 3 + 1 = (A * 3 + 1) + 1 + 1 + 1 by omega]
      rfl
/-- The file's new bytes stand in the row. -/
theorem add_fin {wx w4 : World} {Tx : Nat → Prop} {g q c A : Nat} {tx : Dt} (kx : Wk wx Tx g tx) (hv : tx.fvv = .slice (some ⟨q, 0, none⟩) tx.L.length c) (hA : A < tx.L.length) {v : Value} {xs : List Nat} (hB : Bn wx xs v w4) (hby : ∀ x ∈ xs, x < 256) (hk : (tx.L.getD A e0).syn ≤ xs.length) :
    Wk (w4.setCell ⟨q, A * 3 + 1, none⟩ v) (New Tx wx (w4.setCell ⟨q, A * 3 + 1, none⟩ v)) g { tx with L := tx.L.set A ⟨(tx.L.getD A e0).name, v, xs, (tx.L.getD A e0).syn⟩ } ∧ Chg wx (w4.setCell ⟨q, A * 3 + 1, none⟩ v) Tx := by
  obtain ⟨o, bel, hvb, _⟩ := hB
  have hq : tx.fvv.ownBlock = some q := by rw [hv]; rfl
  obtain ⟨hTq, hqg⟩ := kx.rb q hq
  have hg := kx.lt g kx.tg
  have k4 : Wk w4 Tx g tx := kx.below bel (Nat.le_refl _)
  have hro := k4.row
  rw [hv] at hro
  have hro1 := (hro.stored (A * 3 + 1) v).1
  rw [ecs_set1 _ A v xs hA, ← hv] at hro1
  have hsz : (w4.setCell ⟨q, A * 3 + 1, none⟩ v).heap.size = w4.heap.size := by simp
  have k5 := Wk.turn k4 hv hA (w' := w4.setCell ⟨q, A * 3 + 1, none⟩ v) (bv' := v) (bs' := xs) (k' := (tx.L.getD A e0).syn) (T' := New Tx wx w4) hsz (heap_setCell_ne (fun e => hqg e.symm)) hro1 (fun k hk => heap_setCell_ne hk) (fun _ hk => .inl hk) (fun k hk => by
    rcases hk with hk | hk
    · have := kx.lt k hk; have := bel.size; omega
    · exact hk.2) ((src_own o).imp fun k hk => ⟨.inr (hvb k hk.2), fun e => by have := (hvb k hk.2).1; omega, fun e => by
      have := (hvb k hk.2).1
      have := kx.lt k (kx.rb k e).1
      omega⟩) (fun c' e => by
      rcases o with ⟨_, ⟨e', _⟩ | ⟨g', c'', cur, e', _⟩⟩
      · rw [e'] at e; injection e with _ _ e3; exact e3.symm
      · rw [e'] at e; cases e) hby hk
  refine ⟨k5.set (fun k hk => ?_) (fun k hk => ?_), ⟨bel.os, bel.tape, bel.output, by rw [hsz]; exact bel.size, fun k hk hn => (heap_setCell_ne (fun e => hn (by rw [e]; exact hTq))).trans (bel.block k hk)⟩⟩
  · rcases hk with hk | hk
    · exact .inl hk
    · exact .inr ⟨hk.1, by rw [hsz]; exact hk.2⟩
  · rcases hk with hk | hk
    · have := kx.lt k hk; have := bel.size; rw [hsz]; omega
    · exact hk.2
set_option maxRecDepth 100000
theorem radd_down (w : World) (g : Nat) (s : ByteArray) (v : Value) (t : Dt) (h : Wc w g t) (hd : t.down = true) :
    Calls Try.prog 13 #[.pointer (some ⟨g, 0, none⟩), .string s, v] w fun e w' => e = .returned (.tuple #[.int .i64 0, .int .i64 8]) ∧ w' = w := by
  have c4 := h.c4
  rw [hd] at c4
  clear h hd
  go_enter Try.func13, Try.ntmps13
  go_wp2_with fail
  refine bodyPost_ret (v := .tuple #[.int .i64 0, .int .i64 8]) (by simp [results, Try.results13, go_sem]) rfl ⟨rfl, rfl⟩
theorem radd_bad (w : World) (g : Nat) (s : ByteArray) (v : Value) (t : Dt) (h : Wc w g t) (hd : t.down = false) (hz : s.size ≤ 140737488355328) (hn : isNm s = false) :
    Calls Try.prog 13 #[.pointer (some ⟨g, 0, none⟩), .string s, v] w fun e w' => e = .returned (.tuple #[.int .i64 0, .int .i64 1]) ∧ w' = w := by
  have c4 := h.c4
  rw [hd] at c4
  have N := Lib.hid (name17 w s hz)
  rw [hn] at N
  clear h hd hz hn
  go_enter Try.func13, Try.ntmps13
  go_wp2_with (go_at_call 38; refine (N.out).mono ?_; rintro e w ⟨rfl, rfl⟩)
  refine bodyPost_ret (v := .tuple #[.int .i64 0, .int .i64 1]) (by simp [results, Try.results13, go_sem]) rfl ⟨rfl, rfl⟩
theorem radd_lost (w : World) (T : Nat → Prop) (g : Nat) (s : ByteArray) (v : Value) (t : Dt) (h : Wk w T g t) (hd : t.down = false) (hz : s.size ≤ 140737488355328) (hn : isNm s = true) (hl : opTE t = 8) :
    Calls Try.prog 13 #[.pointer (some ⟨g, 0, none⟩), .string s, v] w fun e w' => e = .returned (.tuple #[.int .i64 0, .int .i64 8]) ∧ Wk w' T g (opT t) ∧ Chg w w' T := by
  have c4 := h.cs.c4
  rw [hd] at c4
  have N := Lib.hid (name17 w s hz)
  rw [hn] at N
  have O := Lib.hid (opr_off w T g t h hl)
  clear h hd hz hn hl
  go_enter Try.func13, Try.ntmps13
  go_wp2_with (first | (go_at_call 38; refine (N.out).mono ?_; rintro e w ⟨rfl, rfl⟩) | (go_at_call 39; refine (O.out).mono ?_; rintro e w' ⟨rfl, k1, k2⟩))
  refine bodyPost_ret (v := .tuple #[.int .i64 0, .int .i64 8]) (by simp [results, Try.results13, go_sem]) rfl ⟨rfl, k1, k2⟩
theorem sumL_ins (L : List En) (C : Nat) (e : En) : sumL (ins L C e) = sumL L + e.bs.length := by
  have : sumL L = sumL (L.take C) + sumL (L.drop C) := by
    unfold sumL
    rw [← List.sum_append, ← List.map_append, List.take_append_drop]
  rw [this]
  simp [ins, sumL]
  omega

set_option maxHeartbeats 4000000 in
theorem radd_old (w : World) (T : Nat → Prop) (g : Nat) (t : Dt) (h : Wk w T g t) (s : ByteArray) (hd : t.down = false) (hz : s.size ≤ 140737488355328) (hnm : isNm s = true) (hl : opTE t = 0) (hb : t.L.length ≤ 999999999)
    (v : Value) (bs : List Nat) (R : Nat → Prop) (hR : ∀ k, R k → ¬ T k ∧ k < w.heap.size) (hs : Src w R v bs) (hcap : ∀ c, v = .slice none bs.length c → c = 0) (hby : ∀ x ∈ bs, x < 256) (hB : sumL t.L + bs.length ≤ 140737488355328)
    (A : Nat) (hA : At1 t.L s A) (hlt : A < t.L.length) (Lx : List En) (hLx : Lx = t.L) :
    Calls Try.prog 13 #[.pointer (some ⟨g, 0, none⟩), .string s, v] w fun e w' => e = .returned (.tuple #[.int .i64 (min bs.length (t.room - sumL t.L) : Nat), .int .i64 (if t.room - sumL t.L < bs.length then 7 else 0 : Nat)]) ∧
      (∃ vv bv, Wk w' (New T w w') g { opT t with fvv := vv, L := Lx.set A ⟨(Lx.getD A e0).name, bv, (Lx.getD A e0).bs ++ bs.take (min bs.length (t.room - sumL t.L)), (Lx.getD A e0).syn⟩ }) ∧ Chg w w' T := by
  have c4 := h.cs.c4
  rw [hd] at c4
  have N := Lib.hid (name17 w s hz)
  rw [hnm] at N
  have O := Lib.hid (opr_on w T g t h hl)
  have hsum : sumL Lx = sumL t.L := by rw [hLx]
  have hlen : Lx.length ≤ 1000000000 := by rw [hLx]; omega
  have hAx : A < Lx.length := by rw [hLx]; exact hlt
  have FN := Lib.hid (fun (wa : World) (k1 : Wk wa T g (opT t)) => (show Calls Try.prog 40 #[.pointer (some ⟨g, 0, none⟩), .string s] wa fun e w' => e = .returned (.int .i64 (A : Nat)) ∧ w' = wa from by
    have F := find49 wa T g (opT t) k1 s A (by rw [opT_L]; exact hA) (by rw [opT_L]; omega)
    rwa [show atI (opT t).L A = (A : Int) by unfold atI; rw [opT_L, if_pos hlt]] at F))
  obtain ⟨ad, ac, hvf⟩ := hs.forms
  obtain ⟨l, hll⟩ : ∃ l, l = bs.length := ⟨_, rfl⟩
  obtain ⟨U, hU⟩ : ∃ U, U = sumL t.L := ⟨_, rfl⟩
  obtain ⟨Rm, hRm⟩ : ∃ Rm, Rm = t.room := ⟨_, rfl⟩
  obtain ⟨fr, hfr⟩ : ∃ fr, fr = Rm - U := ⟨_, rfl⟩
  obtain ⟨n, hne⟩ : ∃ n, n = min l fr := ⟨_, rfl⟩
  have br := h.cs.br
  have hnc : n ≤ ac := by
    rcases hs with ⟨e0, _⟩ | ⟨_, b, off, c', e, hc, _⟩
    · rw [e0] at hll; simp at hll; omega
    · rw [hvf] at e; cases e; omega
  have q1 : IntKind.i64.wrap ((Rm : Int) - (U : Nat)) = (Rm : Int) - U := by rw [IntKind.wrap_i64]; omega
  have hmx : ∀ (ty : TypeId) (y : World), (Builtin.max_ #[3, 3] ty #[.int .i64 ((Rm : Int) - U), .int .i64 0]).run Try.prog y = .ok (.int .i64 (fr : Nat)) y := by
    intro ty y
    rw [run_max_int2]
    have e : (if (0 : Int) > (Rm : Int) - U then 0 else (Rm : Int) - U) = (fr : Nat) := by split <;> omega
    rw [e]
  have hmn : ∀ (ty : TypeId) (y : World), (Builtin.min_ #[3, 3] ty #[.int .i64 (l : Nat), .int .i64 (fr : Nat)]).run Try.prog y = .ok (.int .i64 (n : Nat)) y := by
    intro ty y
    rw [run_min_int2]
    have e : (if (fr : Int) < (l : Int) then (fr : Int) else (l : Int)) = (n : Nat) := by split <;> omega
    rw [e]
  -- the world behind the row is as it shall be
  have AT : Hid (∀ wx Tx tx, Wk wx Tx g tx → tx.L = Lx → tx.room = Rm → Chg w wx T → (∀ k, Tx k → New T w wx k) →
      ∃ q c m ea l0 ec, tx.fvv = .slice (some ⟨q, 0, none⟩) m c ∧ m = Lx.length ∧ l0 = (Lx.getD A e0).bs.length ∧ wx.cell? ⟨g, 0, none⟩ = some (.slice (some ⟨q, 0, none⟩) m c) ∧ wx.cell? ⟨g, 1, none⟩ = some (.int .i64 (Rm : Nat)) ∧ q < wx.heap.size ∧
        wx.cell? ⟨q, A * 3 + 1, none⟩ = some (.slice ea l0 ec) ∧ wx.frozen? ⟨q, A * 3 + 1, none⟩ = false ∧ A < m ∧ l0 ≤ ec ∧
        Calls Try.prog 31 #[.pointer (some ⟨g, 0, none⟩)] wx.drew (fun e w' => e = .returned (.int .i64 (U : Nat)) ∧ w' = wx.drew) ∧
        (∀ ty, ∃ v' w', (Builtin.append_ #[29, 29] ty #[.slice (some ⟨wx.drew.heap.size, 0, none⟩) 0 0, .slice ea l0 ec]).run Try.prog (wx.drew.alloc (.cells #[] 5)).drew = .ok v' w' ∧ Bn wx.drew (Lx.getD A e0).bs v' w') ∧
        (∀ v2 w4, Bn wx.drew (Lx.getD A e0).bs v2 w4 → ∀ ty, ∃ v' w', (Builtin.append_ #[29, 29] ty #[v2, .slice ad n ac]).run Try.prog w4 = .ok v' w' ∧ Bn wx.drew ((Lx.getD A e0).bs ++ bs.take n) v' w') ∧
        (∀ v2 w4, Bn wx.drew ((Lx.getD A e0).bs ++ bs.take n) v2 w4 → (∃ vv bv, Wk (w4.setCell ⟨q, A * 3 + 1, none⟩ v2) (New T w (w4.setCell ⟨q, A * 3 + 1, none⟩ v2)) g { tx with fvv := vv, L := Lx.set A ⟨(Lx.getD A e0).name, bv, (Lx.getD A e0).bs ++ bs.take n, (Lx.getD A e0).syn⟩ }) ∧ Chg w (w4.setCell ⟨q, A * 3 + 1, none⟩ v2) T)) := Lib.hid fun wx Tx tx kx hL hRx cx hTx => by
    rw [← hL] at hAx hlen hsum ⊢
    obtain ⟨a1, a2, a3, a4⟩ := kx.ent _ (mem_getD hAx)
    obtain ⟨ea, ec, he⟩ := a1.forms
    have hx0 := kx.cs.c0
    rcases row_cases kx.row with ⟨hL0, _⟩ | ⟨q, c, hv, hc, hq, hcell⟩
    · rw [hL0] at hAx; simp at hAx
    rw [hv] at hx0
    have kd : Wk wx.drew Tx g tx := kx.move (Nat.le_refl _) (fun _ _ => rfl)
    have hle : sumL (tx.L.take (A + 1)) ≤ sumL tx.L := sumL_le _ _
    rw [sumL_take _ _ hAx] at hle
    have hn : n ≤ bs.length := by omega
    refine ⟨q, c, _, ea, _, ec, hv, rfl, rfl, hx0, by rw [← hRx]; exact kx.cs.c1, hq, by rw [← he]; exact (hcell A hAx).2.1, ?_, hAx, ?_, ?_, fun ty => ?_, fun v2 w4 r ty => ?_, fun v2 w4 r => ?_⟩
    · rcases row_at kx.row with ⟨hL0, _⟩ | ⟨q', c', hv', _, _, _, hz, _⟩
      · rw [hL0] at hAx; simp at hAx
      · rw [hv] at hv'; cases hv'; exact hz _
    · rw [he] at a1
      rcases a1 with ⟨e1, _⟩ | ⟨_, b', off', c', e, hcc, _⟩
      · rw [e1]; simp
      · cases e; omega
    · rw [hU, ← hsum]
      exact used36 wx.drew Tx g tx kd hlen (by omega)
    · have r0 := Bn.fresh (w2 := wx.drew) (Below.refl _ _)
      obtain ⟨v', w', x1, x2⟩ := Bn.append (R := fun k => Tx k ∧ k ≠ g ∧ tx.fvv.ownBlock ≠ some k) (ad := ea) (c := ec) (bs := (tx.L.getD A e0).bs) r0 (by
        rw [← he]
        exact a1.move fun k hk hkl => r0.2.1.block k hkl) (tx.L.getD A e0).bs.length (Nat.le_refl _) (fun e => a2 ec (by rw [he, e])) (by show 0 + _ ≤ _; omega) ty
      rw [List.nil_append, List.take_length] at x2
      exact ⟨v', w', x1, x2⟩
    · refine Bn.append (R := R) r (bs := bs) ?_ n hn (fun e => hcap ac (by rw [hvf, e])) (by omega) ty
      rw [← hvf]
      exact hs.move fun k hk hkl => (r.2.1.block k (Nat.lt_of_lt_of_le hkl cx.size)).trans (cx.block k hkl (hR k hk).1)
    · obtain ⟨f1, f2⟩ := add_fin kd hv hAx r (fun x hx => by
        rcases List.mem_append.1 hx with hx | hx
        · exact a3 x hx
        · exact hby x (List.mem_of_mem_take hx)) (by rw [List.length_append]; omega)
      have f2 : Chg wx (w4.setCell ⟨q, A * 3 + 1, none⟩ v2) Tx := ⟨f2.os, f2.tape, f2.output, f2.size, f2.block⟩
      have hTl : ∀ k, Tx k → ¬ T k → w.heap.size ≤ k := fun k hk hn => by
        rcases hTx k hk with h1 | h1
        · exact absurd h1 hn
        · exact h1.1
      have s1 := cx.size
      have s2 := f2.size
      refine ⟨⟨tx.fvv, v2, f1.set (fun k hk => ?_) (fun k hk => ?_)⟩, cx.trans f2 (fun k hk hkl => ?_)⟩
      · rcases hk with hk | hk
        · rcases hTx k hk with h1 | h1
          · exact .inl h1
          · exact .inr ⟨h1.1, Nat.lt_of_lt_of_le h1.2 s2⟩
        · exact .inr ⟨Nat.le_trans s1 hk.1, hk.2⟩
      · rcases hk with hk | hk
        · exact Nat.lt_of_lt_of_le (h.lt k hk) (Nat.le_trans s1 s2)
        · exact hk.2
      · rcases hTx k hk with h1 | h1
        · exact h1
        · omega
  rw [← hRm, ← hU, ← hfr, ← hll, ← hne, hvf, ← hll]
  obtain ⟨er, her⟩ : ∃ er : Nat, er = (if fr < l then 7 else 0) := ⟨_, rfl⟩
  rw [← her]
  have HER := Lib.hid her
  have HNQ := Lib.hid hne
  have HG := Lib.hid (And.intro h.tg h.lt)
  have hRo : (opT t).room = Rm := by rw [opT_room, hRm]
  have HRo := Lib.hid hRo
  have HOL := Lib.hid (show (opT t).L = t.L from opT_L t)
  have HLX := Lib.hid hLx
  clear her h hd hz hnm hl hs hcap hby hB hA hLx hsum hlen hAx hU hRm hfr hne br hvf hll hRo hR hlt hb
  have q4 : (n < l) = (fr < l) := by have := HNQ.out; apply propext; omega
  have q5 : ((n : Int) < (l : Int)) = (fr < l) := by have := HNQ.out; apply propext; omega
  go_enter Try.func13, Try.ntmps13
  go_upto_region 11 with (first | (go_at_call 38; refine (N.out).mono ?_; rintro e w ⟨rfl, rfl⟩) | (go_at_call 39; refine (O.out).mono ?_; rintro e wa ⟨rfl, k1, k2⟩) | (go_at_call 40; refine (FN.out _ k1).mono ?_; rintro e wx ⟨rfl, rfl⟩))
  have ax := AT.out wx _ _ k1 (by rw [HOL.out, HLX.out]) HRo.out k2 (fun k hk => .inl hk)
  clear k1 k2
  obtain ⟨q, c, m, ea, l0, ec, hv, hm, hl0, d0, d1, hq, d2, d3, hAm, hle, US, AP1, AP2, FIN⟩ := ax
  have US := Lib.hid US
  have AP1 := Lib.hid AP1
  have AP2 := Lib.hid AP2
  have FIN := Lib.hid FIN
  have HV := Lib.hid (And.intro hv (And.intro hm hl0))
  have HFR := Lib.hid (fun (y : World) (hy : Below wx.drew.heap.size wx.drew y) => (show y.cell? ⟨q, A * 3 + 1, none⟩ = some (.slice ea l0 ec) ∧ y.frozen? ⟨q, A * 3 + 1, none⟩ = false from
    ⟨(hy.cell (p := ⟨q, A * 3 + 1, none⟩) hq).trans d2, (World.frozen?_of_block (hy.block q hq)).trans d3⟩))
  have bA := (Below.refl wx.heap.size wx).alloc (o := .cells #[] 5) (Nat.le_refl _)
  have dA := (HFR.out (wx.alloc (.cells #[] 5)) ⟨bA.os, bA.tape, bA.output, bA.size, bA.block⟩).1
  clear hv hm hl0 hq bA
  have hA0 : (0 : Int) ≤ (A : Int) := by omega
  go_region_with (go_at_call 31; refine (US.out).mono ?_; rintro e wy ⟨rfl, hwy⟩; subst hwy)
  all_goals
    go_upto_region 13 with (fail)
    go_region_law (first
      | (refine step_append rfl (.tmp 51) (.tmp 55) 29 rfl (.slice (some ⟨wx.heap.size, 0, none⟩) 0 0) (.slice ea l0 ec) (by simp [Act.eval]) (by simp [Act.eval]) (Bn wx.drew (Lx.getD A e0).bs) AP1.out ?_; intro v2 w4 r2; have R2 := Lib.hid r2; clear r2)
      | (refine step_append rfl (.tmp 56) (.tmp 59) 29 rfl v2 (.slice ad n ac) (by simp [Act.eval]) (by simp [Act.eval]) (Bn wx.drew ((Lx.getD A e0).bs ++ bs.take n)) (AP2.out v2 w4 R2.out) ?_; intro v3 w5 r3; have R3 := Lib.hid r3; obtain ⟨_, b5, _, ya, ym, yk, hyv⟩ := r3; subst hyv; obtain ⟨e5, f5⟩ := HFR.out w5 b5; clear b5))
    all_goals
      obtain ⟨⟨vv, bv, fk⟩, fc⟩ := FIN.out _ _ R3.out
      have FK := Lib.hid (And.intro fk fc)
      clear fk fc
      by_cases hq : fr < l
      case' pos =>
        have q6 : n < l := by rw [q4]; exact hq
        have e7 : er = 7 := by rw [HER.out, if_pos hq]
        clear q4 q5 hq HER
        have e7 := Lib.hid e7
        go_wp2_with fail
        refine bodyPost_ret (v := .tuple #[.int .i64 (n : Nat), .int .i64 7]) (by simp [results, Try.results13, go_sem]) rfl ⟨by rw [e7.out]; rfl, ⟨vv, bv, FK.out.1⟩, FK.out.2⟩
      case' neg =>
        have q6 : ¬ n < l := by rw [q4]; exact hq
        have e7 : er = 0 := by rw [HER.out, if_neg hq]
        clear q4 q5 hq HER
        have e7 := Lib.hid e7
        go_wp2_with fail
        refine bodyPost_ret (v := .tuple #[.int .i64 (n : Nat), .int .i64 0]) (by simp [results, Try.results13, go_sem]) rfl ⟨by rw [e7.out]; rfl, ⟨vv, bv, FK.out.1⟩, FK.out.2⟩

set_option maxHeartbeats 4000000 in
theorem radd_new (w : World) (T : Nat → Prop) (g : Nat) (t : Dt) (h : Wk w T g t) (s : ByteArray) (hd : t.down = false) (hz : s.size ≤ 140737488355328) (hnm : isNm s = true) (hl : opTE t = 0) (hb : t.L.length ≤ 999999999)
    (v : Value) (bs : List Nat) (R : Nat → Prop) (hR : ∀ k, R k → ¬ T k ∧ k < w.heap.size) (hs : Src w R v bs) (hcap : ∀ c, v = .slice none bs.length c → c = 0) (hby : ∀ x ∈ bs, x < 256) (hB : sumL t.L + bs.length ≤ 140737488355328)
    (hA : At1 t.L s t.L.length) (A : Nat) (hC : Pos t.L s A) (Lx : List En) (hLx : Lx = ins t.L A ⟨s, .slice none 0 0, [], 0⟩) :
    Calls Try.prog 13 #[.pointer (some ⟨g, 0, none⟩), .string s, v] w fun e w' => e = .returned (.tuple #[.int .i64 (min bs.length (t.room - sumL t.L) : Nat), .int .i64 (if t.room - sumL t.L < bs.length then 7 else 0 : Nat)]) ∧
      (∃ vv bv, Wk w' (New T w w') g { opT t with fvv := vv, L := Lx.set A ⟨(Lx.getD A e0).name, bv, (Lx.getD A e0).bs ++ bs.take (min bs.length (t.room - sumL t.L)), (Lx.getD A e0).syn⟩ }) ∧ Chg w w' T := by
  have c4 := h.cs.c4
  rw [hd] at c4
  have N := Lib.hid (name17 w s hz)
  rw [hnm] at N
  have O := Lib.hid (opr_on w T g t h hl)
  have hsum : sumL Lx = sumL t.L := by rw [hLx, sumL_ins]; rfl
  have hlen : Lx.length ≤ 1000000000 := by
    have := hC.1
    rw [hLx]; simp [ins]; omega
  have hAx : A < Lx.length := by
    have := hC.1
    rw [hLx]; simp [ins]; omega
  have FN := Lib.hid (fun (wa : World) (k1 : Wk wa T g (opT t)) => (show Calls Try.prog 40 #[.pointer (some ⟨g, 0, none⟩), .string s] wa fun e w' => e = .returned (.int .i64 (-1)) ∧ w' = wa from by
    have F := find49 wa T g (opT t) k1 s (opT t).L.length (by rw [opT_L]; exact hA) (by rw [opT_L]; omega)
    rwa [show atI (opT t).L (opT t).L.length = -1 by unfold atI; simp] at F))
  have PT := Lib.hid (fun (wa : World) (k1 : Wk wa T g (opT t)) => (show Calls Try.prog 41 #[.pointer (some ⟨g, 0, none⟩), .agg #[.string s, .slice none 0 0, .int .i64 0]] wa fun r w' => r = .returned (.int .i64 (A : Nat)) ∧
      (∃ v, Wk w' (New T wa w') g { opT t with fvv := v, L := Lx }) ∧ Chg wa w' T from by
    refine (put41 wa T g (opT t) k1 ⟨s, .slice none 0 0, [], 0⟩ ⟨.inl ⟨rfl, _, _, rfl⟩, fun c e => by injection e with _ _ e3; exact e3.symm, fun x hx => by simp at hx, Nat.le_refl _⟩ (by rw [opT_L]; omega) A (by rw [opT_L]; exact hC)).mono ?_
    rintro e w' ⟨e1, ⟨v, k⟩, c⟩
    rw [opT_L] at k
    exact ⟨e1, ⟨v, by rw [hLx]; exact k⟩, c.imp fun k hk _ => hk ▸ k1.tg⟩))
  obtain ⟨ad, ac, hvf⟩ := hs.forms
  obtain ⟨l, hll⟩ : ∃ l, l = bs.length := ⟨_, rfl⟩
  obtain ⟨U, hU⟩ : ∃ U, U = sumL t.L := ⟨_, rfl⟩
  obtain ⟨Rm, hRm⟩ : ∃ Rm, Rm = t.room := ⟨_, rfl⟩
  obtain ⟨fr, hfr⟩ : ∃ fr, fr = Rm - U := ⟨_, rfl⟩
  obtain ⟨n, hne⟩ : ∃ n, n = min l fr := ⟨_, rfl⟩
  have br := h.cs.br
  have hnc : n ≤ ac := by
    rcases hs with ⟨e0, _⟩ | ⟨_, b, off, c', e, hc, _⟩
    · rw [e0] at hll; simp at hll; omega
    · rw [hvf] at e; cases e; omega
  have q1 : IntKind.i64.wrap ((Rm : Int) - (U : Nat)) = (Rm : Int) - U := by rw [IntKind.wrap_i64]; omega
  have hmx : ∀ (ty : TypeId) (y : World), (Builtin.max_ #[3, 3] ty #[.int .i64 ((Rm : Int) - U), .int .i64 0]).run Try.prog y = .ok (.int .i64 (fr : Nat)) y := by
    intro ty y
    rw [run_max_int2]
    have e : (if (0 : Int) > (Rm : Int) - U then 0 else (Rm : Int) - U) = (fr : Nat) := by split <;> omega
    rw [e]
  have hmn : ∀ (ty : TypeId) (y : World), (Builtin.min_ #[3, 3] ty #[.int .i64 (l : Nat), .int .i64 (fr : Nat)]).run Try.prog y = .ok (.int .i64 (n : Nat)) y := by
    intro ty y
    rw [run_min_int2]
    have e : (if (fr : Int) < (l : Int) then (fr : Int) else (l : Int)) = (n : Nat) := by split <;> omega
    rw [e]
  -- the world behind the row is as it shall be
  have AT : Hid (∀ wx Tx tx, Wk wx Tx g tx → tx.L = Lx → tx.room = Rm → Chg w wx T → (∀ k, Tx k → New T w wx k) →
      ∃ q c m ea l0 ec, tx.fvv = .slice (some ⟨q, 0, none⟩) m c ∧ m = Lx.length ∧ l0 = (Lx.getD A e0).bs.length ∧ wx.cell? ⟨g, 0, none⟩ = some (.slice (some ⟨q, 0, none⟩) m c) ∧ wx.cell? ⟨g, 1, none⟩ = some (.int .i64 (Rm : Nat)) ∧ q < wx.heap.size ∧
        wx.cell? ⟨q, A * 3 + 1, none⟩ = some (.slice ea l0 ec) ∧ wx.frozen? ⟨q, A * 3 + 1, none⟩ = false ∧ A < m ∧ l0 ≤ ec ∧
        Calls Try.prog 31 #[.pointer (some ⟨g, 0, none⟩)] wx.drew (fun e w' => e = .returned (.int .i64 (U : Nat)) ∧ w' = wx.drew) ∧
        (∀ ty, ∃ v' w', (Builtin.append_ #[29, 29] ty #[.slice (some ⟨wx.drew.heap.size, 0, none⟩) 0 0, .slice ea l0 ec]).run Try.prog (wx.drew.alloc (.cells #[] 5)).drew = .ok v' w' ∧ Bn wx.drew (Lx.getD A e0).bs v' w') ∧
        (∀ v2 w4, Bn wx.drew (Lx.getD A e0).bs v2 w4 → ∀ ty, ∃ v' w', (Builtin.append_ #[29, 29] ty #[v2, .slice ad n ac]).run Try.prog w4 = .ok v' w' ∧ Bn wx.drew ((Lx.getD A e0).bs ++ bs.take n) v' w') ∧
        (∀ v2 w4, Bn wx.drew ((Lx.getD A e0).bs ++ bs.take n) v2 w4 → (∃ vv bv, Wk (w4.setCell ⟨q, A * 3 + 1, none⟩ v2) (New T w (w4.setCell ⟨q, A * 3 + 1, none⟩ v2)) g { tx with fvv := vv, L := Lx.set A ⟨(Lx.getD A e0).name, bv, (Lx.getD A e0).bs ++ bs.take n, (Lx.getD A e0).syn⟩ }) ∧ Chg w (w4.setCell ⟨q, A * 3 + 1, none⟩ v2) T)) := Lib.hid fun wx Tx tx kx hL hRx cx hTx => by
    rw [← hL] at hAx hlen hsum ⊢
    obtain ⟨a1, a2, a3, a4⟩ := kx.ent _ (mem_getD hAx)
    obtain ⟨ea, ec, he⟩ := a1.forms
    have hx0 := kx.cs.c0
    rcases row_cases kx.row with ⟨hL0, _⟩ | ⟨q, c, hv, hc, hq, hcell⟩
    · rw [hL0] at hAx; simp at hAx
    rw [hv] at hx0
    have kd : Wk wx.drew Tx g tx := kx.move (Nat.le_refl _) (fun _ _ => rfl)
    have hle : sumL (tx.L.take (A + 1)) ≤ sumL tx.L := sumL_le _ _
    rw [sumL_take _ _ hAx] at hle
    have hn : n ≤ bs.length := by omega
    refine ⟨q, c, _, ea, _, ec, hv, rfl, rfl, hx0, by rw [← hRx]; exact kx.cs.c1, hq, by rw [← he]; exact (hcell A hAx).2.1, ?_, hAx, ?_, ?_, fun ty => ?_, fun v2 w4 r ty => ?_, fun v2 w4 r => ?_⟩
    · rcases row_at kx.row with ⟨hL0, _⟩ | ⟨q', c', hv', _, _, _, hz, _⟩
      · rw [hL0] at hAx; simp at hAx
      · rw [hv] at hv'; cases hv'; exact hz _
    · rw [he] at a1
      rcases a1 with ⟨e1, _⟩ | ⟨_, b', off', c', e, hcc, _⟩
      · rw [e1]; simp
      · cases e; omega
    · rw [hU, ← hsum]
      exact used36 wx.drew Tx g tx kd hlen (by omega)
    · have r0 := Bn.fresh (w2 := wx.drew) (Below.refl _ _)
      obtain ⟨v', w', x1, x2⟩ := Bn.append (R := fun k => Tx k ∧ k ≠ g ∧ tx.fvv.ownBlock ≠ some k) (ad := ea) (c := ec) (bs := (tx.L.getD A e0).bs) r0 (by
        rw [← he]
        exact a1.move fun k hk hkl => r0.2.1.block k hkl) (tx.L.getD A e0).bs.length (Nat.le_refl _) (fun e => a2 ec (by rw [he, e])) (by show 0 + _ ≤ _; omega) ty
      rw [List.nil_append, List.take_length] at x2
      exact ⟨v', w', x1, x2⟩
    · refine Bn.append (R := R) r (bs := bs) ?_ n hn (fun e => hcap ac (by rw [hvf, e])) (by omega) ty
      rw [← hvf]
      exact hs.move fun k hk hkl => (r.2.1.block k (Nat.lt_of_lt_of_le hkl cx.size)).trans (cx.block k hkl (hR k hk).1)
    · obtain ⟨f1, f2⟩ := add_fin kd hv hAx r (fun x hx => by
        rcases List.mem_append.1 hx with hx | hx
        · exact a3 x hx
        · exact hby x (List.mem_of_mem_take hx)) (by rw [List.length_append]; omega)
      have f2 : Chg wx (w4.setCell ⟨q, A * 3 + 1, none⟩ v2) Tx := ⟨f2.os, f2.tape, f2.output, f2.size, f2.block⟩
      have hTl : ∀ k, Tx k → ¬ T k → w.heap.size ≤ k := fun k hk hn => by
        rcases hTx k hk with h1 | h1
        · exact absurd h1 hn
        · exact h1.1
      have s1 := cx.size
      have s2 := f2.size
      refine ⟨⟨tx.fvv, v2, f1.set (fun k hk => ?_) (fun k hk => ?_)⟩, cx.trans f2 (fun k hk hkl => ?_)⟩
      · rcases hk with hk | hk
        · rcases hTx k hk with h1 | h1
          · exact .inl h1
          · exact .inr ⟨h1.1, Nat.lt_of_lt_of_le h1.2 s2⟩
        · exact .inr ⟨Nat.le_trans s1 hk.1, hk.2⟩
      · rcases hk with hk | hk
        · exact Nat.lt_of_lt_of_le (h.lt k hk) (Nat.le_trans s1 s2)
        · exact hk.2
      · rcases hTx k hk with h1 | h1
        · exact h1
        · omega
  rw [← hRm, ← hU, ← hfr, ← hll, ← hne, hvf, ← hll]
  obtain ⟨er, her⟩ : ∃ er : Nat, er = (if fr < l then 7 else 0) := ⟨_, rfl⟩
  rw [← her]
  have HER := Lib.hid her
  have HNQ := Lib.hid hne
  have HG := Lib.hid (And.intro h.tg h.lt)
  have hRo : (opT t).room = Rm := by rw [opT_room, hRm]
  have HRo := Lib.hid hRo
  have HOL := Lib.hid (show (opT t).L = t.L from opT_L t)
  have HLX := Lib.hid hLx
  clear her h hd hz hnm hl hs hcap hby hB hA hLx hsum hlen hAx hU hRm hfr hne br hvf hll hRo hR hC hb
  have q4 : (n < l) = (fr < l) := by have := HNQ.out; apply propext; omega
  have q5 : ((n : Int) < (l : Int)) = (fr < l) := by have := HNQ.out; apply propext; omega
  go_enter Try.func13, Try.ntmps13
  go_upto_region 11 with (first | (go_at_call 38; refine (N.out).mono ?_; rintro e w ⟨rfl, rfl⟩) | (go_at_call 39; refine (O.out).mono ?_; rintro e wa ⟨rfl, k1, k2⟩) | (go_at_call 40; refine (FN.out _ k1).mono ?_; rintro e wa ⟨rfl, rfl⟩) | (go_at_call 41; refine (PT.out _ k1).mono ?_; rintro e wx ⟨rfl, ⟨vx, kx⟩, cx⟩))
  have ax := AT.out wx _ _ kx rfl HRo.out (k2.trans cx fun _ hk _ => hk) (fun k hk => by
    rcases hk with hk | hk
    · exact .inl hk
    · exact .inr ⟨Nat.le_trans k2.size hk.1, hk.2⟩)
  clear k1 k2 kx cx
  obtain ⟨q, c, m, ea, l0, ec, hv, hm, hl0, d0, d1, hq, d2, d3, hAm, hle, US, AP1, AP2, FIN⟩ := ax
  have US := Lib.hid US
  have AP1 := Lib.hid AP1
  have AP2 := Lib.hid AP2
  have FIN := Lib.hid FIN
  have HV := Lib.hid (And.intro hv (And.intro hm hl0))
  have HFR := Lib.hid (fun (y : World) (hy : Below wx.drew.heap.size wx.drew y) => (show y.cell? ⟨q, A * 3 + 1, none⟩ = some (.slice ea l0 ec) ∧ y.frozen? ⟨q, A * 3 + 1, none⟩ = false from
    ⟨(hy.cell (p := ⟨q, A * 3 + 1, none⟩) hq).trans d2, (World.frozen?_of_block (hy.block q hq)).trans d3⟩))
  have bA := (Below.refl wx.heap.size wx).alloc (o := .cells #[] 5) (Nat.le_refl _)
  have dA := (HFR.out (wx.alloc (.cells #[] 5)) ⟨bA.os, bA.tape, bA.output, bA.size, bA.block⟩).1
  clear hv hm hl0 hq bA
  have hA0 : (0 : Int) ≤ (A : Int) := by omega
  go_region_with (go_at_call 31; refine (US.out).mono ?_; rintro e wy ⟨rfl, hwy⟩; subst hwy)
  all_goals
    go_upto_region 13 with (fail)
    go_region_law (first
      | (refine step_append rfl (.tmp 51) (.tmp 55) 29 rfl (.slice (some ⟨wx.heap.size, 0, none⟩) 0 0) (.slice ea l0 ec) (by simp [Act.eval]) (by simp [Act.eval]) (Bn wx.drew (Lx.getD A e0).bs) AP1.out ?_; intro v2 w4 r2; have R2 := Lib.hid r2; clear r2)
      | (refine step_append rfl (.tmp 56) (.tmp 59) 29 rfl v2 (.slice ad n ac) (by simp [Act.eval]) (by simp [Act.eval]) (Bn wx.drew ((Lx.getD A e0).bs ++ bs.take n)) (AP2.out v2 w4 R2.out) ?_; intro v3 w5 r3; have R3 := Lib.hid r3; obtain ⟨_, b5, _, ya, ym, yk, hyv⟩ := r3; subst hyv; obtain ⟨e5, f5⟩ := HFR.out w5 b5; clear b5))
    all_goals
      obtain ⟨⟨vv, bv, fk⟩, fc⟩ := FIN.out _ _ R3.out
      have FK := Lib.hid (And.intro fk fc)
      clear fk fc
      by_cases hq : fr < l
      case' pos =>
        have q6 : n < l := by rw [q4]; exact hq
        have e7 : er = 7 := by rw [HER.out, if_pos hq]
        clear q4 q5 hq HER
        have e7 := Lib.hid e7
        go_wp2_with fail
        refine bodyPost_ret (v := .tuple #[.int .i64 (n : Nat), .int .i64 7]) (by simp [results, Try.results13, go_sem]) rfl ⟨by rw [e7.out]; rfl, ⟨vv, bv, FK.out.1⟩, FK.out.2⟩
      case' neg =>
        have q6 : ¬ n < l := by rw [q4]; exact hq
        have e7 : er = 0 := by rw [HER.out, if_neg hq]
        clear q4 q5 hq HER
        have e7 := Lib.hid e7
        go_wp2_with fail
        refine bodyPost_ret (v := .tuple #[.int .i64 (n : Nat), .int .i64 0]) (by simp [results, Try.results13, go_sem]) rfl ⟨by rw [e7.out]; rfl, ⟨vv, bv, FK.out.1⟩, FK.out.2⟩
end Yk
end Go.Proofs.Ytcjfdebjgaohlaa
