/- group; Add; New. -/
import Derived.Test.YtalanjhpacjmmaaGreatKk
namespace Go.Proofs.YtalanjhpacjmmaaGreat
set_option maxRecDepth 100000
open Go.RowKit Go.Maps Go.ChangeMaps Go.MapKept Go.Sort Go.Shelf
namespace Kl
open Jb Ka Kb Kc Kd Kf Kg Kh Ki Kj Kk Sa Sb Sg

/-- A new group. -/
theorem grp_new (w : World) (t : TypeId) : Bk (w.alloc (.cells #[.map none, .int .i64 0, .map none, .int .i64 0] t)) w.heap.size 0 none 0 (fun _ => none) ∧ Bk (w.alloc (.cells #[.map none, .int .i64 0, .map none, .int .i64 0] t)) w.heap.size 2 none 0 (fun _ => none) := by
  have hf : ∀ i, (w.alloc (.cells #[.map none, .int .i64 0, .map none, .int .i64 0] t)).frozen? ⟨w.heap.size, i, none⟩ = false := fun i => by
    rw [World.frozen?, show (w.alloc (.cells #[.map none, .int .i64 0, .map none, .int .i64 0] t)).heap[w.heap.size]? = _ from heap_alloc_new _ _]; simp
  exact ⟨⟨new_cell _ _ _ 0 _ rfl, ⟨0, by omega, new_cell _ _ _ 1 _ rfl⟩, hf, fun m e => (nomatch e), fun _ _ => rfl, fun m e => (nomatch e)⟩,
    ⟨new_cell _ _ _ 2 _ rfl, ⟨0, by omega, new_cell _ _ _ 3 _ rfl⟩, hf, fun m e => (nomatch e), fun _ _ => rfl, fun m e => (nomatch e)⟩⟩
theorem group_old (w : World) (B N x g : Nat) (A : As) (C : Cs) (Q : Qs) (kd : Ks) (h : Ix w B N x A C Q kd) (n : Tx) (hn : n.size ≤ maxLen) (hg : A (.grp n) = some g) :
    Calls Tryz.prog 37 #[.pointer (some ⟨x, 0, none⟩), .string n] w fun e w' => e = .returned (.pointer (some ⟨g, 0, none⟩)) ∧ w' = w := by
  have b := h.mem.bk .G x h.idx
  have H1 := Lib.hid (has_G w x N _ _ b n hn)
  have H2 := Lib.hid (get_G w x N _ _ b n hn)
  rw [h.G n, hg] at H1 H2
  simp only [po, Option.map_some, Option.isSome_some, Option.getD_some, pv] at H1 H2
  clear h hn hg b
  go_enter Tryz.func37, Tryz.ntmps37
  go_wp2_with (first
    | (go_at_call 69; refine H1.out.mono ?_; clear H1; rintro e w1 ⟨rfl, rfl⟩)
    | (go_at_call 70; refine H2.out.mono ?_; clear H2; rintro e w1 ⟨rfl, rfl⟩))
  go_ret
  trivial
theorem group_new (w : World) (B N x : Nat) (A : As) (C : Cs) (Q : Qs) (kd : Ks) (h : Ix w B N x A C Q kd) (n : Tx) (hn : n.size ≤ maxLen) (hg : A (.grp n) = none) :
    Calls Tryz.prog 37 #[.pointer (some ⟨x, 0, none⟩), .string n] w fun e w' => ∃ g, e = .returned (.pointer (some ⟨g, 0, none⟩)) ∧ Below w.heap.size w w' ∧ w.heap.size ≤ g ∧ Bk w' g 0 none 0 (fun _ => none) ∧ Bk w' g 2 none 0 (fun _ => none) := by
  have b := h.mem.bk .G x h.idx
  have H1 := Lib.hid (has_G w x N _ _ b n hn)
  rw [h.G n, hg] at H1
  simp only [po, Option.map_none, Option.isSome_none] at H1
  clear h hn hg b
  go_enter Tryz.func37, Tryz.ntmps37
  go_wp2_with (first
    | (go_at_call 69; refine H1.out.mono ?_; clear H1; rintro e w ⟨rfl, rfl⟩))
  go_ret
  exact ⟨_, rfl, (Below.refl _ w).alloc (Nat.le_refl _) _, Nat.le_refl _, (grp_new w _).1, (grp_new w _).2⟩
theorem group_nil (w : World) (n : Tx) :
    Calls Tryz.prog 37 #[.pointer none, .string n] w fun e w' => ∃ g, e = .returned (.pointer (some ⟨g, 0, none⟩)) ∧ Below w.heap.size w w' ∧ w.heap.size ≤ g ∧ Bk w' g 0 none 0 (fun _ => none) ∧ Bk w' g 2 none 0 (fun _ => none) := by
  go_enter Tryz.func37, Tryz.ntmps37
  go_wp2_with fail
  go_ret
  exact ⟨_, rfl, (Below.refl _ w).alloc (Nat.le_refl _) _, Nat.le_refl _, (grp_new w _).1, (grp_new w _).2⟩
/-- The group of a name, for who reads. -/
theorem group_rd (w : World) (B N x : Nat) (A : As) (C : Cs) (Q : Qs) (kd : Ks) (h : Ix w B N x A C Q kd) (n : Tx) (hn : n.size ≤ maxLen) :
    Calls Tryz.prog 37 #[.pointer (some ⟨x, 0, none⟩), .string n] w fun e w' => ∃ g ms mt, e = .returned (.pointer (some ⟨g, 0, none⟩)) ∧ Below w.heap.size w w' ∧ Bk w' g 0 ms N (SE A C n) ∧ Bk w' g 2 mt N (TE A n) := by
  cases hg : A (.grp n) with
  | some g =>
    refine (group_old w B N x g A C Q kd h n hn hg).mono ?_
    rintro e w' ⟨rfl, rfl⟩
    refine ⟨g, _, _, rfl, Below.refl _ _, (h.mem.bk (.S n) g hg).ext fun t => ?_, (h.mem.bk (.T n) g hg).ext fun k => ?_⟩
    · unfold SE; rw [if_neg (by rw [hg]; simp)]
    · exact h.lk.T n k (by rw [hg]; simp)
  | none =>
    refine (group_new w B N x A C Q kd h n hn hg).mono ?_
    rintro e w' ⟨g, rfl, b, _, b0, b2⟩
    refine ⟨g, _, _, rfl, b, (b0.mono (Nat.zero_le _)).ext fun t => ?_, (b2.mono (Nat.zero_le _)).ext fun k => ?_⟩
    · unfold SE; rw [if_pos hg]
    · unfold TE
      have : A (.vb n k) = none := by
        by_cases e : A (.vb n k) = none
        · exact e
        · obtain ⟨v, t, hp⟩ := (h.lk.hv n k).1 e
          exact absurd hg (h.lk.hg n k v t hp)
      rw [this]; rfl
/-- The group of a name, for who adds. -/
theorem group_add (w : World) (B N x : Nat) (A : As) (C : Cs) (Q : Qs) (kd : Ks) (h : Ix w B N x A C Q kd) (hB : B ≤ w.heap.size) (n : Tx) (hn : n.size ≤ maxLen) :
    Calls Tryz.prog 37 #[.pointer (some ⟨x, 0, none⟩), .string n] w fun e w' => ∃ g A' C', e = .returned (.pointer (some ⟨g, 0, none⟩)) ∧ Below w.heap.size w w' ∧ Rdy w' B N x A' C' Q kd n g ∧ Own w w' A A' ∧ ∀ t, C' (.S n) t = SE A C n t := by
  cases hg : A (.grp n) with
  | some g =>
    refine (group_old w B N x g A C Q kd h n hn hg).mono ?_
    rintro e w' ⟨rfl, rfl⟩
    exact ⟨g, A, C, rfl, Below.refl _ _, h.rdy hg, Own.refl _ _, fun t => by unfold SE; rw [if_neg (by rw [hg]; simp)]⟩
  | none =>
    refine (group_new w B N x A C Q kd h n hn hg).mono ?_
    rintro e w' ⟨g, rfl, b, l, b0, b2⟩
    obtain ⟨A', C', r, o⟩ := h.rdy_new hg b hB l b0 b2
    refine ⟨g, A', C', rfl, b, r, o, fun t => ?_⟩
    unfold SE
    rw [if_pos hg]
    by_cases e : C' (.S n) t = none
    · exact e
    · obtain ⟨s, hs, e1, _⟩ := r.S1 n t (by rw [r.at_]; simp) e
      exact absurd hg ((h.hg n).2 ⟨s, hs, e1⟩)
/-- A series that comes in. -/
structure In (w : World) (s : Sr) (v : Value) : Prop where
  ti : Ti w v s.2
  n : s.1.size ≤ 140737488355328
  t : ∀ x ∈ s.2, x.1.size ≤ 140737488355328 ∧ x.2.size ≤ 140737488355328
  l : s.2.length ≤ 140737488355328
theorem In.below {w w' : World} {s : Sr} {v : Value} (h : In w s v) (b : Below w.heap.size w w') : In w' s v := ⟨h.ti.below b, h.n, h.t, h.l⟩
theorem text_in (w : World) (s : Sr) (v : Value) (h : In w s v) : Calls Tryz.prog 36 #[.agg #[.string s.1, v]] w fun e w' => e = .returned (.tuple #[.string (tstr s), .int .i64 (terr s)]) ∧ Below w.heap.size w w' := Sg.text10 w s.1 v s.2 h.ti h.n h.t h.l
theorem add_bad (w : World) (p : Option Addr) (s : Sr) (v : Value) (h : In w s v) (hf : fm s = false) :
    Calls Tryz.prog 11 #[.pointer p, .agg #[.string s.1, v]] w fun e w' => e = .returned (.tuple #[.bool false, .int .i64 1]) ∧ Below w.heap.size w w' := by
  obtain ⟨n, L⟩ := s
  obtain ⟨a, c, rfl⟩ := h.ti.forms
  obtain ⟨m, hm⟩ : ∃ m, m = L.length := ⟨_, rfl⟩
  obtain ⟨W, hW⟩ : ∃ W, W = w.alloc (.cells #[.string n, .slice a m c] 30) := ⟨_, rfl⟩
  obtain ⟨y, hy⟩ : ∃ y, y = w.heap.size := ⟨_, rfl⟩
  have bW : Below w.heap.size w W := by rw [hW]; exact (Below.refl _ w).alloc (Nat.le_refl _) _
  have c0 : W.cell? ⟨y, 0, none⟩ = some (.string n) := by rw [hW, hy]; exact new_cell _ _ _ 0 _ rfl
  have c1 : W.cell? ⟨y, 1, none⟩ = some (.slice a m c) := by rw [hW, hy]; exact new_cell _ _ _ 1 _ rfl
  have T := Lib.hid (text_in W (n, L) _ (h.below bW))
  simp only at T ⊢
  rw [show terr (n, L) = 1 by rw [terr, hf]; rfl, ← hm] at T
  rw [← hm]
  have BW := Lib.hid bW
  clear h hf bW hm
  have qe : ∀ z : World, (binOp .eql 24 (.pointer p) (.pointer none)).run Tryz.prog z = .ok (.bool p.isNone) z := fun z => by
    cases p with
    | none => first | rfl | go_simp
    | some q => first | rfl | go_simp
  obtain ⟨E, hE⟩ : ∃ E, E = p.isNone := ⟨_, rfl⟩
  rw [← hE] at qe
  clear hE
  cases E <;>
  · go_enter Tryz.func11, Tryz.ntmps11
    go_upto_region 1 with (fail)
    rw [← hW, ← hy]
    clear hW hy
    go_wp2_with (go_at_call 36; refine T.out.mono ?_; clear T; rintro e w1 ⟨rfl, b1⟩; have B1 := Lib.hid b1; clear b1)
    go_ret2
    exact ⟨rfl, BW.out.trans (B1.out.mono BW.out.size)⟩
end Kl
end Go.Proofs.YtalanjhpacjmmaaGreat
