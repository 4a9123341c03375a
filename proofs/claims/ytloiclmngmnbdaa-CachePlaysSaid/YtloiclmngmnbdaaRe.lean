/- Delete, by what is seen; the document's cache without points. -/
import Derived.Test.YtloiclmngmnbdaaRd
import Derived.Test.YtloiclmngmnbdaaTb
namespace Go.Proofs.Ytloiclmngmnbdaa
open Go.RowKit Go.Maps Go.ChangeMaps Go.MapKept
namespace Re
open Jb Ca Ck Ct Cd Ls Lb Lc Ld Li Lj Lk Lm Ln Lo Lp Cq Cr Da Db Dc Ce Cs De Df Dg Dh Ra Rb Rc Rd Tb

theorem _root_.Go.Proofs.Ytloiclmngmnbdaa.Tb.Of.del {V : Vw} {T : Tab} (h : Of V T) (s : Ky) (a b : Int) : Of (delV V s a b) (tset T s (cut a b (V.P s))) := by
  unfold delV
  refine ⟨tset_srt h.srt _ _, fun y => ?_, ?_, fun c hc => ?_⟩
  · dsimp only
    rw [tget_tset h.srt]
    by_cases e : y = s
    · rw [if_pos e, if_pos e]
    · rw [if_neg e, if_neg e, h.get]
  · have h1 := tsum_tset h.srt s (cut a b (V.P s))
    have h2 := len_split (V.P s) a b
    have h3 := h.get s
    have h4 := h.sum
    rw [← h3] at h1
    dsimp only
    omega
  · rcases mem_tset hc with ⟨rfl, e⟩ | hc
    · exact e
    · exact h.ne c hc
theorem Of.zero (m : Nat) : Of (V0 m) [] := ⟨List.Pairwise.nil, fun y => rfl, rfl, fun c hc => by cases hc⟩
theorem deleteD (w : World) (S : Nat → Prop) (g N : Nat) (V : Vw) (h : DV w S g N V) (s : Ky) (hs : ok s) (a b : Int) (hl : (V.P s).length ≤ 1000000) (hsz : (V.P s).length ≤ V.size) : Calls Try.prog 21 #[.pointer (some ⟨g, 0, none⟩), .string s.1, .string s.2, .int .i64 a, .int .i64 b] w fun e w' => e = .returned (.int .i64 ((rng a b (V.P s)).length : Nat)) ∧ DV w' (New S w w') g N (delV V s a b) ∧ Chg w w' S := by
  obtain ⟨d, rfl, h⟩ := h
  cases hF : d.F s with
  | none =>
    have e1 : (vw d).P s = [] := by show pts (d.F s) = []; rw [hF]; rfl
    rw [e1, delV_none (by rw [e1]; rfl)]
    refine (delete21_none w S g N d h s hs a b hF).mono ?_
    rintro e w' ⟨rfl, bl⟩
    have sz := bl.size
    refine ⟨rfl, ⟨d, rfl, (h.below bl (Nat.le_refl _)).set (fun k hk => .inl hk) (fun k hk => ?_)⟩, Chg.of_below bl (Nat.le_refl _) _⟩
    rcases hk with hk | hk
    · have := h.lt k hk; omega
    · exact hk.2
  | some f =>
    have e1 : (vw d).P s = f.L := by show pts (d.F s) = f.L; rw [hF]; rfl
    rw [e1] at hl hsz ⊢
    refine (delete21_some w S g N d h s hs a b f hF hl hsz).mono ?_
    rintro e w' ⟨rfl, d', v, k, c⟩
    exact ⟨rfl, ⟨d', v, k⟩, c⟩
set_option maxRecDepth 100000
/-- The document's cache without points, for none. -/
structure R0 (w : World) (r : Nat) : Prop where
  c0 : w.cell? ⟨r, 0, none⟩ = some (.slice none 0 0)
  c1 : w.cell? ⟨r, 1, none⟩ = some (.int .i64 0)
  z0 : w.frozen? ⟨r, 0, none⟩ = false
theorem R0.below {w w' : World} {r B : Nat} (h : R0 w r) (b : Below B w w') (hB : r < B) : R0 w' r :=
  ⟨(World.cell?_of_block (b.block r hB)).trans h.c0, (World.cell?_of_block (b.block r hB)).trans h.c1, (World.frozen?_of_block (b.block r hB)).trans h.z0⟩
theorem refnew10 (w : World) : Calls Try.prog 10 #[.int .i64 0] w fun e w' => e = .returned (.pointer (some ⟨w.heap.size, 0, none⟩)) ∧ R0 w' w.heap.size ∧ Below w.heap.size w w' := by
  have hm : ∀ (ty : TypeId) (y : World), (Builtin.max_ #[3, 3] ty #[.int .i64 0, .int .i64 0]).run Try.prog y = .ok (.int .i64 0) y := by
    intro ty y
    rw [run_max_int2]
    rfl
  go_enter Try.func10, Try.ntmps10
  go_wp2_with fail
  go_ret
  exact ⟨rfl, ⟨new_cell _ _ _ 0 _ rfl, new_cell _ _ _ 1 _ rfl, frozen_of_row _ _ _ _ _ (heap_alloc_new _ _)⟩, (Below.refl _ w).alloc (Nat.le_refl _) _⟩
theorem refat27 (w : World) (r : Nat) (h : R0 w r) (s f : ByteArray) : Calls Try.prog 27 #[.pointer (some ⟨r, 0, none⟩), .string s, .string f] w fun e w' => e = .returned (.tuple #[.int .i64 0, .bool false]) ∧ ∃ n, w' = w.drewN n := by
  have c0 := h.c0
  clear h
  go_enter Try.func27, Try.ntmps27
  go_wp2_with fail
  refine wp_loop_rounds 1 ?_
  rw [rounds_succ]
  go_wp2_with fail
  go_quiet (fail)
  go_wp2_with fail
  go_ret2
  exact ⟨rfl, _, rfl⟩
theorem refget16 (w : World) (r : Nat) (h : R0 w r) (s f : ByteArray) (a b : Int) : Calls Try.prog 16 #[.pointer (some ⟨r, 0, none⟩), .string s, .string f, .int .i64 a, .int .i64 b] w fun e w' => e = .returned (.slice none 0 0) ∧ ∃ n, w' = w.drewN n := by
  have H := Lib.hid (refat27 w r h s f)
  clear h
  go_enter Try.func16, Try.ntmps16
  go_wp2_with (go_at_call 27; refine (H.out).mono ?_; rintro e w' ⟨rfl, n, rfl⟩)
  go_ret
  exact ⟨rfl, _, rfl⟩
theorem refsize13 (w : World) (r : Nat) (h : R0 w r) : Calls Try.prog 13 #[.pointer (some ⟨r, 0, none⟩)] w fun e w' => e = .returned (.int .i64 0) ∧ w' = w := by
  have c0 := h.c0
  clear h
  go_enter Try.func13, Try.ntmps13
  go_wp2_with fail
  refine wp_loop_rounds 1 ?_
  rw [rounds_succ]
  go_wp2_with fail
  go_ret
  simp
theorem refput22 (w : World) (r : Nat) (h : R0 w r) (s f : ByteArray) (p : Pnt) (hp : Wp p) : Calls Try.prog 22 #[.pointer (some ⟨r, 0, none⟩), .string s, .string f, pa p] w fun e w' => (∃ x : Int, e = .returned (.int .i64 x)) ∧ Below w.heap.size w w' := by
  have FO := Lib.hid (fun w => Cf.refformed14 w p.2 hp.2)
  have AT := Lib.hid (fun w h => refat27 w r h s f)
  have GE := Lib.hid (fun w h => refget16 w r h s f p.1 p.1)
  have SI := Lib.hid (fun w h => refsize13 w r h)
  have hb : Below w.heap.size w (w.alloc (.cells #[.int .i64 p.1, .int .i64 p.2.1, .int .u64 (p.2.2.1 : Nat), .string (str p.2.2.2)] 32)) := (Below.refl _ w).alloc (Nat.le_refl _) _
  have rl : r < w.heap.size := cell_lt h.c0
  have HB := Lib.hid hb
  have BXO := Lib.hid (fun w1 (b : Below (w.heap.size + 1) (w.alloc (.cells #[.int .i64 p.1, .int .i64 p.2.1, .int .u64 (p.2.2.1 : Nat), .string (str p.2.2.2)] 32)) w1) => box_of (w := w) (p := p) b)
  have H0 := Lib.hid h
  obtain ⟨x0, x1, x2, x3⟩ := p
  unfold pa
  unfold va at FO
  simp only at FO GE BXO HB ⊢
  obtain ⟨q, hq⟩ : ∃ q, q = formed ((x1, x2, x3) : Vl) := ⟨_, rfl⟩
  rw [← hq] at FO
  clear h hb hp hq
  cases q with
  | false =>
    go_enter Try.func22, Try.ntmps22
    go_wp2_with fail
    refine (FO.out _).mono ?_
    rintro e w1 ⟨rfl, b1⟩
    have BX := Lib.hid (BXO.out w1 (by rw [World.size_alloc] at b1; exact b1))
    clear b1
    go_wp2_with fail
    go_ret
    exact ⟨⟨_, rfl⟩, BX.out.bl⟩
  | true =>
    go_enter Try.func22, Try.ntmps22
    go_wp2_with fail
    refine (FO.out _).mono ?_
    rintro e w1 ⟨rfl, b1⟩
    have BX := Lib.hid (BXO.out w1 (by rw [World.size_alloc] at b1; exact b1))
    have R1 := Lib.hid (H0.out.below BX.out.bl rl)
    clear b1
    go_wp2_with fail
    refine (AT.out w1 R1.out).mono ?_
    rintro e w2 ⟨rfl, n, rfl⟩
    go_wp2_with fail
    go_quiet (fail)
    go_wp2_with fail
    obtain ⟨W, hW⟩ : ∃ W, W = (w1.drewN n).drewN nq := ⟨_, rfl⟩
    have RW : Hid (R0 W r ∧ Box w W (x0, x1, x2, x3)) := Lib.hid (by rw [hW]; exact ⟨⟨R1.out.c0, R1.out.c1, R1.out.z0⟩, ⟨bdn (bdn BX.out.bl _) _, BX.out.b0, BX.out.b1, BX.out.b2, BX.out.b3, BX.out.lt⟩⟩)
    first | rw [← hW] | (simp only [World.drewN_drewN] at hW ⊢; rw [← hW])
    clear hW
    have kX : W.drew.cell? ⟨r, 1, none⟩ = some (.int .i64 0) ∧ W.drew.cell? ⟨w.heap.size, 0, none⟩ = some (.int .i64 x0) := ⟨RW.out.1.c1, RW.out.2.b0⟩
    have KX := Lib.hid kX
    go_region_held (fun y => y.cell? ⟨r, 1, none⟩ = some (.int .i64 0) ∧ y.cell? ⟨w.heap.size, 0, none⟩ = some (.int .i64 x0))
      (first | exact kX | exact KX.out)
      (first | (go_at_call 16; refine (GE.out W.drew ⟨RW.out.1.c0, RW.out.1.c1, RW.out.1.z0⟩).mono ?_; rintro e w3 ⟨rfl, m, rfl⟩) | (go_at_call 13; refine (SI.out (W.drewN (1 + m)) ⟨RW.out.1.c0, RW.out.1.c1, RW.out.1.z0⟩).mono ?_; rintro e w4 ⟨rfl, rfl⟩))
    go_wp2_with fail
    go_ret
    exact ⟨⟨_, rfl⟩, bdn RW.out.2.bl _⟩
theorem reftake41 (w : World) (r : Nat) (h : R0 w r) (s f : ByteArray) (a b : Int) : Calls Try.prog 41 #[.pointer (some ⟨r, 0, none⟩), .string s, .string f, .bool false, .int .i64 a, .int .i64 b] w fun e w' => e = .returned (.int .i64 0) ∧ ∃ n, w' = (w.drewN n).setCell ⟨r, 0, none⟩ (.slice none 0 0) := by
  have c0 := h.c0
  have z0 := h.z0
  clear h
  go_enter Try.func41, Try.ntmps41
  go_wp2_with fail
  refine wp_loop_rounds 1 ?_
  rw [rounds_succ]
  go_wp2_with fail
  go_ret
  exact ⟨rfl, 0, rfl⟩
theorem refdel23 (w : World) (r : Nat) (h : R0 w r) (s f : ByteArray) (a b : Int) : Calls Try.prog 23 #[.pointer (some ⟨r, 0, none⟩), .string s, .string f, .int .i64 a, .int .i64 b] w fun e w' => (∃ x : Int, e = .returned (.int .i64 x)) ∧ ∃ n, w' = (w.drewN n).setCell ⟨r, 0, none⟩ (.slice none 0 0) := by
  have TK := Lib.hid (reftake41 w r h s f a b)
  clear h
  go_enter Try.func23, Try.ntmps23
  go_wp2_with (go_at_call 41; refine (TK.out).mono ?_; rintro e w' ⟨rfl, n, rfl⟩)
  go_ret
  exact ⟨⟨_, rfl⟩, _, rfl⟩
theorem refclear24 (w : World) (r : Nat) (h : R0 w r) : Calls Try.prog 24 #[.pointer (some ⟨r, 0, none⟩)] w fun e w' => e = .returned (.tuple #[]) ∧ w' = w.setCell ⟨r, 0, none⟩ (.slice none 0 0) := by
  have c0 := h.c0
  have z0 := h.z0
  clear h
  go_enter Try.func24, Try.ntmps24
  go_wp2_with fail
  refine bodyPost_end (v := .tuple #[]) (by simp [results, Try.results24, go_sem]) rfl ⟨rfl, rfl⟩
end Re
end Go.Proofs.Ytloiclmngmnbdaa
