import Derived.Test.YtcjfdebjgaohlaaG02
import Derived.WalkSpells

/- drop and made: the map turns. -/
namespace Go.Proofs.Ytcjfdebjgaohlaa
open Go.RowKit Go.Maps Go.ChangeMaps Go.MapKept
namespace Je
open Jb Jm Jd Jw Jx Jn

theorem mt_block {w w' : World} {m k : Nat} (h : w.mapTurned w' m) (hk : k ≠ m) : w'.heap[k]? = w.heap[k]? := by
  obtain ⟨es, clock, es', clock', hb, rfl⟩ := h
  exact heap_setBlock_other hb _ hk
theorem mt_size {w w' : World} {m : Nat} (h : w.mapTurned w' m) : w'.heap.size = w.heap.size := by
  obtain ⟨es, clock, es', clock', hb, rfl⟩ := h
  simp [setBlock]
theorem drop_none (w : World) (S : Nat → Prop) (g N : Nat) (d : St) (h : Dk w S g N d) (s : ByteArray) (hs : s.size ≤ 140737488355328) (hF : d.F s = none) :
    Calls Try.prog 43 #[.pointer (some ⟨g, 0, none⟩), .string s] w fun e w' => e = .returned (.tuple #[]) ∧ w' = w := by
  have c0 := h.cs.c0
  have hl := h.look (s := s) (by unfold maxLen; omega)
  rw [hF] at hl
  simp only [pt, Option.map_none] at hl
  clear h hs
  go_enter Try.func43, Try.ntmps43
  go_wp2_with fail
  refine bodyPost_end (v := .tuple #[]) (by simp [results, Try.results43, go_sem]) rfl ⟨rfl, rfl⟩
set_option maxRecDepth 100000 in
theorem drop_some (w : World) (S : Nat → Prop) (g N : Nat) (d : St) (h : Dk w S g N d) (s : ByteArray) (hs : s.size ≤ 140737488355328) (f : Fi) (hF : d.F s = some f) (hu : f.bs.length ≤ d.used) :
    Calls Try.prog 43 #[.pointer (some ⟨g, 0, none⟩), .string s] w fun e w' => e = .returned (.tuple #[]) ∧ Dk w' (New S w w') g N { d with F := fun x => if x = s then none else d.F x, used := d.used - f.bs.length } ∧ Chg w w' S := by
  have hml : s.size ≤ maxLen := by unfold maxLen; omega
  have c0 := h.cs.c0
  have hl := h.look hml
  rw [hF] at hl
  simp only [pt, Option.map_some] at hl
  obtain ⟨fm, fg, fs⟩ := h.fm s f hF
  have c1 := h.cs.c1
  have z1 := h.cs.z 1
  have f0 := fm.c0
  have bu := h.cs.bu
  have hne : f.blk ≠ g := fun e => fg (.inl e.symm)
  rcases h.fv with ⟨a, b⟩ | ⟨m, hfv, hSm, hmg, hi⟩
  · rw [b s] at hF; cases hF
  rw [hfv] at c0 hl
  obtain ⟨b, hbk⟩ : ∃ b, b = f.blk := ⟨_, rfl⟩
  obtain ⟨L, hL⟩ : ∃ L, L = f.bs.length := ⟨_, rfl⟩
  obtain ⟨U, hU⟩ : ∃ U, U = d.used := ⟨_, rfl⟩
  rw [← hbk] at hl f0 hne
  rw [← hL] at hu
  rw [← hU] at c1 hu bu
  obtain ⟨A, C, hV⟩ := own_forms fm.own
  rw [hV, ← hL] at f0
  have q2 : IntKind.i64.wrap ((U : Int) - (L : Nat)) = ((U - L : Nat) : Int) := by rw [IntKind.wrap_i64]; omega
  rw [← hL, ← hU]
  obtain ⟨W, hW⟩ : ∃ W, W = (w.setCell ⟨g, 1, none⟩ (.int .i64 (U - L : Nat))).drew := ⟨_, rfl⟩
  have hWm : W.heap[m]? = w.heap[m]? := by rw [hW]; exact heap_setCell_ne hmg
  obtain ⟨w', hdel, hi', ht⟩ := (hi.of_block hWm).del hml
  have hb : ∀ k, k ≠ g → k ≠ m → w'.heap[k]? = w.heap[k]? := fun k hk hm => (mt_block ht hm).trans (by rw [hW]; exact heap_setCell_ne hk)
  have hsz : w'.heap.size = w.heap.size := by rw [mt_size ht, hW]; simp
  have C1 : Cs W g { d with used := U - L } := by rw [hW]; exact (h.cs.set1 _ (by omega)).drew
  have C2 : Cs w' g { d with used := U - L } := C1.of_block (mt_block ht hmg.symm)
  have CH : Chg w w' S := by
    have h1 : Chg w W S := by rw [hW]; exact ((Chg.refl w S).setCell h.sg _).drew
    exact h1.turned hSm ht
  have DK : Dk w' (New S w w') g N { d with F := fun x => if x = s then none else d.F x, used := U - L } := by
    refine h.map (m := m) (by omega) ⟨C2.c0, C2.c1, C2.c2, C2.c3, C2.c4, C2.c5, C2.z, C2.bu, C2.br, C2.bf⟩ hfv (.inl hfv) (hi'.ext fun x => ?_) (fun k hk hg hm => hb k hg (fun e => hm (by rw [hfv, e]))) (fun x y hy => ?_) (fun x x' y y' hn hy hy' => ?_)
    · dsimp only; split <;> rfl
    · dsimp only at hy
      split at hy
      · cases hy
      · exact .inl ⟨x, hy⟩
    · dsimp only at hy hy'
      split at hy
      · cases hy
      · split at hy'
        · cases hy'
        · exact .inl ⟨x, x', hn, hy, hy'⟩
  have HDK := Lib.hid DK
  have HCH := Lib.hid CH
  clear DK CH C1 C2 hb hsz hi' ht hi hSm hfv h hF fs fg fm hbk hL hU hV bu hu hWm hml hs
  go_enter Try.func43, Try.ntmps43
  go_upto_region 2 with (fail)
  go_region
  rw [← hW]
  have c0' : W.cell? ⟨g, 0, none⟩ = some (.map (some m)) := by rw [hW]; exact (cell_other (by simp)).trans c0
  clear hW c0
  go_wp2_with (at_delete; refine wpList_del rfl _ _ rfl _ _ rfl rfl hdel ?_)
  refine bodyPost_end (v := .tuple #[]) (by simp [results, Try.results43, go_sem]) rfl ⟨rfl, HDK.out, HCH.out⟩
end Je
end Go.Proofs.Ytcjfdebjgaohlaa

/- made: the file of a name, a new one if there is none. -/
namespace Go.Proofs.Ytcjfdebjgaohlaa
open Go.RowKit Go.Maps Go.ChangeMaps Go.MapKept
namespace Jf
open Jb Jm Jd Jw Jx Jn Je

/-- A file without bytes. -/
def fi0 (b : Nat) : Fi := ⟨b, .slice none 0 0, [], 0⟩
theorem foot0 {b k : Nat} : foot (fi0 b) k ↔ k = b := by
  constructor
  · rintro (h | h)
    · exact h
    · cases h
  · exact .inl
theorem fm0 (w : World) : Fm (w.alloc (.cells #[.slice none 0 0, .int .i64 0] 59)) (fi0 w.heap.size) :=
  ⟨new_cell _ _ _ 0 _ rfl, new_cell _ _ _ 1 _ rfl, frozen_of_row _ _ _ _ _ (heap_alloc_new _ _), frozen_of_row _ _ _ _ _ (heap_alloc_new _ _), World.ownsRow_nil _ _ _ _, Nat.le_refl _, by simp [fi0], by simp [fi0, Value.ownBlock]⟩
set_option maxRecDepth 100000 in
theorem made_old (w : World) (S : Nat → Prop) (g N : Nat) (d : St) (h : Dk w S g N d) (s : ByteArray) (hs : s.size ≤ 140737488355328) (f : Fi) (hF : d.F s = some f) :
    Calls Try.prog 36 #[.pointer (some ⟨g, 0, none⟩), .string s] w fun e w' => e = .returned (.pointer (some ⟨f.blk, 0, none⟩)) ∧ w' = w := by
  have c0 := h.cs.c0
  have hl := h.look (s := s) (by unfold maxLen; omega)
  rw [hF] at hl
  simp only [pt, Option.map_some] at hl
  clear h hs
  go_enter Try.func36, Try.ntmps36
  go_wp2_with fail
  go_ret
  trivial
/-- What the map holds when the new file lies in it. -/
theorem made_end {w X x w9 : World} {S : Nat → Prop} {g N m b : Nat} {d : St} (h : Dk w S g N d) {s : ByteArray} (cX : Cs X g { d with fv := .map (some m) }) (fX : Fm X (fi0 b)) (chX : Chg w X S)
    (hb1 : w.heap.size ≤ b) (hb2 : b < X.heap.size) (hold : ∀ k, S k → k ≠ g → X.heap[k]? = w.heap[k]?) (hm : d.fv = .map (some m) ∨ (w.heap.size ≤ m ∧ m < X.heap.size)) (hmb : m ≠ b) (hmg : m ≠ g)
    (hx : Below X.heap.size X x) (hi : Is w9 m (N + 1) (fun y => if y = s then some b else (d.F y).map Fi.blk)) (ht : x.mapTurned w9 m) (hSm : S m ∨ w.heap.size ≤ m) :
    Dk w9 (New S w w9) g (N + 1) { d with fv := .map (some m), F := fun y => if y = s then some (fi0 b) else d.F y } ∧ Chg w w9 S := by
  have s1 := chX.size
  have s2 := hx.size
  have s3 := mt_size ht
  have gX : g < X.heap.size := cell_lt cX.c0
  have hk9 : ∀ k, k < X.heap.size → k ≠ m → w9.heap[k]? = X.heap[k]? := fun k hk hm => (mt_block ht hm).trans (hx.block k hk)
  have hlt := h.lt
  have c9 := cX.of_block (hk9 g gX hmg.symm)
  have c9' : Cs w9 g { d with fv := .map (some m), F := fun y => if y = s then some (fi0 b) else d.F y } := ⟨c9.c0, c9.c1, c9.c2, c9.c3, c9.c4, c9.c5, c9.z, c9.bu, c9.br, c9.bf⟩
  refine ⟨?_, (chX.trans (Chg.of_below hx (Nat.le_refl _) (fun _ => False)) (fun k hk => hk.elim)).trans (Chg.turned (Chg.refl x (fun k => k = m)) rfl ht) (fun k hk hl => ?_)⟩
  · refine h.map (m := m) (by omega) c9' rfl (hm.imp id fun ⟨a, b⟩ => ⟨a, by omega⟩) (hi.ext fun y => ?_) (fun k hk hg hkm => ?_) (fun y f hf => ?_) (fun y y' f f' hn hf hf' => ?_)
    · dsimp only; split <;> rfl
    · have hkm' : k ≠ m := fun e => by
        rcases hm with e' | e'
        · exact hkm (by rw [e', e])
        · have := hlt k hk; omega
      rw [hk9 k (by have := hlt k hk; omega) hkm', hold k hk hg]
    · dsimp only at hf
      split at hf
      · cases hf
        refine .inr ⟨fX.move fun k hk => ?_, fun k hk => ?_⟩
        · rw [foot0] at hk; subst hk; exact hk9 k hb2 hmb.symm
        · rw [foot0] at hk; subst hk; exact ⟨hb1, by omega, hmb.symm⟩
      · exact .inl ⟨y, hf⟩
    · dsimp only at hf hf'
      have no : ∀ y f, d.F y = some f → ¬ foot f b := fun y f hy hk => by
        have := hlt b ((h.fm y f hy).2.2 b hk); omega
      split at hf
      · cases hf
        split at hf'
        · exact absurd (by simp_all) hn
        · refine .inr (.inl fun k hk => ?_)
          rw [foot0] at hk
          subst hk
          exact ⟨hb1, no y' f' hf'⟩
      · split at hf'
        · cases hf'
          refine .inr (.inr fun k hk => ?_)
          rw [foot0] at hk
          subst hk
          exact ⟨hb1, no y f hf⟩
        · exact .inl ⟨y, y', hn, hf, hf'⟩
  · subst hk
    rcases hSm with a | a
    · exact a
    · omega
set_option maxRecDepth 100000 in
theorem made_new (w : World) (S : Nat → Prop) (g N : Nat) (d : St) (h : Dk w S g N d) (s : ByteArray) (hs : s.size ≤ 64) (hN : N ≤ 140737488353000) (hF : d.F s = none) :
    Calls Try.prog 36 #[.pointer (some ⟨g, 0, none⟩), .string s] w fun e w' => ∃ b fv, e = .returned (.pointer (some ⟨b, 0, none⟩)) ∧ Dk w' (New S w w') g (N + 1) { d with fv := fv, F := fun y => if y = s then some (fi0 b) else d.F y } ∧ Chg w w' S := by
  have hml : s.size ≤ maxLen := by unfold maxLen; omega
  have c0 := h.cs.c0
  have z0 := h.cs.z 0
  have hl := h.look hml
  rw [hF] at hl
  simp only [pt, Option.map_none] at hl
  have hg : g < w.heap.size := h.lt g h.sg
  have HCL := Lib.hid (fun X => clone47 X s (by omega))
  have HH := Lib.hid h
  rcases h.fv with ⟨hfv, hnone⟩ | ⟨m, hfv, hSm, hmg, hi⟩
  · rw [hfv] at c0 hl
    have hmm := @run_makeMap Try.prog
    obtain ⟨m, hm⟩ : ∃ m, m = w.heap.size := ⟨_, rfl⟩
    obtain ⟨X0, hX0⟩ : ∃ X0, X0 = (w.setCell ⟨g, 0, none⟩ (.map (some m))).alloc (.map #[] 0) := ⟨_, rfl⟩
    obtain ⟨X, hX⟩ : ∃ X, X = X0.alloc (.cells #[.slice none 0 0, .int .i64 0] 59) := ⟨_, rfl⟩
    have e0 : X0.heap.size = m + 1 := by rw [hX0]; simp [hm]
    have e1 : X.heap.size = m + 2 := by rw [hX]; simp [e0]
    have i0 := made (w.setCell ⟨g, 0, none⟩ (.map (some m)))
    rw [← hX0, show (w.setCell ⟨g, 0, none⟩ (.map (some m))).heap.size = m by simp [hm]] at i0
    have i1 : Is X m 0 (fun _ => none) := i0.of_block (by rw [hX, Below.heap_alloc _ _ _ (by omega)])
    have cX : Cs X g { d with fv := .map (some m) } := by
      have a1 : Cs X0 g { d with fv := .map (some m) } := (h.cs.set0 (.map (some m))).of_block (by rw [hX0]; exact Below.heap_alloc _ _ _ (by simpa using hg))
      exact a1.of_block (by rw [hX]; exact Below.heap_alloc _ _ _ (by omega))
    have fX : Fm X (fi0 (m + 1)) := by rw [hX, ← e0]; exact fm0 X0
    have chX : Chg w X S := by
      rw [hX, hX0]
      exact (((Chg.refl w S).setCell h.sg _).alloc _).alloc _
    have hold : ∀ k, S k → k ≠ g → X.heap[k]? = w.heap[k]? := fun k hk hkg => by
      have := h.lt k hk
      rw [hX, Below.heap_alloc _ _ _ (by omega), hX0, Below.heap_alloc _ _ _ (by simpa using this), heap_setCell_ne hkg]
    have HPUT : Hid (∀ x, Below X.heap.size X.drew x → ∃ w9, (Instr.mapUpdate 39 (.map (some m)) (.string s) (.pointer (some ⟨m + 1, 0, none⟩))).run Try.prog x = .ok () w9 ∧ (Dk w9 (New S w w9) g (N + 1) { d with fv := .map (some m), F := fun y => if y = s then some (fi0 (m + 1)) else d.F y } ∧ Chg w w9 S) ∧
        x.cell? ⟨g, 0, none⟩ = some (.map (some m)) ∧ w9.cell? ⟨g, 0, none⟩ = some (.map (some m))) := Lib.hid fun x hx => by
      have hx' : Below X.heap.size X x := ⟨hx.os, hx.tape, hx.output, hx.size, hx.block⟩
      obtain ⟨w9, r9, j9, t9⟩ := ((i1.of_block (hx'.block m (by omega))).mono (Nat.zero_le N)).put (b := m + 1) hs (by omega)
      have fin := made_end h cX fX chX (by omega) (by omega) hold (.inr ⟨by omega, by omega⟩) (by omega) (by omega) hx' (j9.ext fun y => by rw [hnone y]; rfl) t9 (.inr (by omega))
      refine ⟨w9, r9, fin, ?_, fin.1.cs.c0⟩
      exact (World.cell?_of_block (hx'.block g (by omega))).trans cX.c0
    have kX : X.drew.cell? ⟨g, 0, none⟩ = some (.map (some m)) := cX.c0
    have HHM := Lib.hid hm
    clear i0 i1 cX fX chX hold hnone h hs hml hF hN HH
    have qe := fun (y : World) => run_eql_map_nil (P := Try.prog) y 39 9 56 none Try.underlying39
    go_enter Try.func36, Try.ntmps36
    go_upto_region 7 with (fail)
    rw [← hm, ← hX0, ← hX]
    clear hX0 hX c0 z0 hl hm e0 e1 HHM hmm
    go_region_held (fun x => x.cell? ⟨g, 0, none⟩ = some (.map (some m)))
      (first | exact kX | exact k9 | exact j9)
      (first | (go_at_call 44; refine (HCL.out _).mono ?_; rintro e x9 ⟨rfl, hx9⟩; obtain ⟨w9, r9, p9, j9, k9⟩ := HPUT.out x9 hx9; have P9 := Lib.hid p9; clear hx9 p9))
    go_wp2_with fail
    go_ret
    exact ⟨_, _, rfl, P9.out.1, P9.out.2⟩
  · rw [hfv] at c0 hl
    obtain ⟨b, hb⟩ : ∃ b, b = w.heap.size := ⟨_, rfl⟩
    obtain ⟨X, hX⟩ : ∃ X, X = w.alloc (.cells #[.slice none 0 0, .int .i64 0] 59) := ⟨_, rfl⟩
    have e1 : X.heap.size = b + 1 := by rw [hX]; simp [hb]
    have hml2 : m < w.heap.size := h.lt m hSm
    have i1 : Is X m N (fun y => (d.F y).map Fi.blk) := hi.of_block (by rw [hX]; exact Below.heap_alloc _ _ _ hml2)
    have cX : Cs X g { d with fv := .map (some m) } := by
      have a := h.cs.of_block (w' := X) (by rw [hX]; exact Below.heap_alloc _ _ _ hg)
      exact ⟨hfv ▸ a.c0, a.c1, a.c2, a.c3, a.c4, a.c5, a.z, a.bu, a.br, a.bf⟩
    have fX : Fm X (fi0 b) := by rw [hX, hb]; exact fm0 w
    have chX : Chg w X S := by rw [hX]; exact (Chg.refl w S).alloc _
    have hold : ∀ k, S k → k ≠ g → X.heap[k]? = w.heap[k]? := fun k hk _ => by
      rw [hX]; exact Below.heap_alloc _ _ _ (h.lt k hk)
    have HPUT : Hid (∀ x, Below X.heap.size X.drew x → ∃ w9, (Instr.mapUpdate 39 (.map (some m)) (.string s) (.pointer (some ⟨b, 0, none⟩))).run Try.prog x = .ok () w9 ∧ (Dk w9 (New S w w9) g (N + 1) { d with fv := .map (some m), F := fun y => if y = s then some (fi0 b) else d.F y } ∧ Chg w w9 S) ∧
        x.cell? ⟨g, 0, none⟩ = some (.map (some m)) ∧ w9.cell? ⟨g, 0, none⟩ = some (.map (some m))) := Lib.hid fun x hx => by
      have hx' : Below X.heap.size X x := ⟨hx.os, hx.tape, hx.output, hx.size, hx.block⟩
      obtain ⟨w9, r9, j9, t9⟩ := (i1.of_block (hx'.block m (by omega))).put (b := b) hs (by omega)
      have fin := made_end h cX fX chX (by omega) (by omega) hold (.inl hfv) (by omega) hmg hx' j9 t9 (.inl hSm)
      refine ⟨w9, r9, fin, ?_, fin.1.cs.c0⟩
      exact (World.cell?_of_block (hx'.block g (by omega))).trans cX.c0
    have kX : X.drew.cell? ⟨g, 0, none⟩ = some (.map (some m)) := cX.c0
    clear i1 cX fX chX hold h hs hml hF hN HH hi hSm hmg hfv
    have qe := fun (y : World) => run_eql_map_nil (P := Try.prog) y 39 9 56 (some m) Try.underlying39
    go_enter Try.func36, Try.ntmps36
    go_upto_region 7 with (fail)
    rw [← hX]
    rw [← hb]
    clear hX c0 z0 hl hb e1
    go_region_held (fun x => x.cell? ⟨g, 0, none⟩ = some (.map (some m)))
      (first | exact kX | exact k9 | exact j9)
      (first | (go_at_call 44; refine (HCL.out _).mono ?_; rintro e x9 ⟨rfl, hx9⟩; obtain ⟨w9, r9, p9, j9, k9⟩ := HPUT.out x9 hx9; have P9 := Lib.hid p9; clear hx9 p9))
    go_wp2_with fail
    go_ret
    exact ⟨_, _, rfl, P9.out.1, P9.out.2⟩
end Jf
end Go.Proofs.Ytcjfdebjgaohlaa

/- made in one form; what an append leaves; the disk as it is seen. -/
namespace Go.Proofs.Ytcjfdebjgaohlaa
open Go.RowKit Go.Maps Go.ChangeMaps Go.MapKept
namespace Jg
open Jb Jm Jd Jw Jx Jn Je Jf

/-- The disk as it is seen. -/
structure Vw where
  F : ByteArray → Option (List Nat × Nat)
  used : Nat
  room : Nat
  fused : Bool
  fuse : Nat
  down : Bool
def ab (f : Fi) : List Nat × Nat := (f.bs, f.syn)
def vw (d : St) : Vw := ⟨fun s => (d.F s).map ab, d.used, d.room, d.fused, d.fuse, d.down⟩
/-- The power fails at the next operation. -/
def Vw.lost (v : Vw) : Bool := v.fused && v.fuse == 0
/-- One operation. -/
def Vw.op (v : Vw) : Vw := if v.lost then { v with down := true } else if v.fused then { v with fuse := v.fuse - 1 } else v
theorem vw_op (d : St) : vw (opD d) = (vw d).op := by
  unfold opD Vw.op Vw.lost
  cases hf : d.fused
  · simp [vw, hf]
  · by_cases h0 : d.fuse = 0
    · simp [vw, hf, h0]
    · simp [vw, hf, h0]
theorem opE_eq (d : St) : opE d = if (vw d).lost then 8 else 0 := by
  unfold opE Vw.lost vw
  cases hf : d.fused <;> by_cases h0 : d.fuse = 0 <;> simp [h0]
theorem Vw.op_F (v : Vw) : v.op.F = v.F := by unfold Vw.op; split; rfl; split <;> rfl
theorem Vw.op_used (v : Vw) : v.op.used = v.used := by unfold Vw.op; split; rfl; split <;> rfl
theorem Vw.op_room (v : Vw) : v.op.room = v.room := by unfold Vw.op; split; rfl; split <;> rfl
theorem opD_used (d : St) : (opD d).used = d.used := by unfold opD; split; split <;> rfl; rfl
theorem opD_room (d : St) : (opD d).room = d.room := by unfold opD; split; split <;> rfl; rfl
theorem Dk.mono {w : World} {S : Nat → Prop} {g N N' : Nat} {d : St} (h : Dk w S g N d) (hn : N ≤ N') : Dk w S g N' d :=
  ⟨h.cs, h.sg, h.lt, h.fv.imp id (fun ⟨m, a, b, c, i⟩ => ⟨m, a, b, c, i.mono hn⟩), h.mf, h.fm, h.ap⟩
theorem Dk.new {w w' : World} {S : Nat → Prop} {g N : Nat} {d : St} (h : Dk w' S g N d) : Dk w' (New S w w') g N d :=
  h.set (fun _ hk => .inl hk) (fun k hk => hk.elim (h.lt k) (fun e => e.2))
theorem New.trans {S : Nat → Prop} {w w' w'' : World} (h1 : w.heap.size ≤ w'.heap.size) (h2 : w'.heap.size ≤ w''.heap.size) {k : Nat} (h : New (New S w w') w' w'' k) : New S w w'' k := by
  rcases h with (h | h) | h
  · exact .inl h
  · exact .inr ⟨h.1, by omega⟩
  · exact .inr ⟨by omega, h.2⟩
theorem Chg.new {a b c : World} {S : Nat → Prop} (h : Chg a b S) (k : Chg b c (New S a b)) : Chg a c S :=
  h.trans k fun i hi hl => hi.elim id (fun e => by omega)
theorem made41 (w : World) (S : Nat → Prop) (g N : Nat) (d : St) (h : Dk w S g N d) (s : ByteArray) (hs : s.size ≤ 64) (hN : N ≤ 140737488353000) :
    Calls Try.prog 36 #[.pointer (some ⟨g, 0, none⟩), .string s] w fun e w' => ∃ d' f, e = .returned (.pointer (some ⟨f.blk, 0, none⟩)) ∧ d'.F s = some f ∧ ab f = ((vw d).F s).getD ([], 0) ∧ (∀ x, x ≠ s → d'.F x = d.F x) ∧
      (d'.used = d.used ∧ d'.room = d.room ∧ d'.fused = d.fused ∧ d'.fuse = d.fuse ∧ d'.down = d.down) ∧ Dk w' (New S w w') g (N + 1) d' ∧ Chg w w' S := by
  cases hF : d.F s with
  | some f =>
    refine (made_old w S g N d h s (by omega) f hF).mono ?_
    rintro e w' ⟨rfl, rfl⟩
    exact ⟨d, f, rfl, hF, by simp [vw, hF], fun _ _ => rfl, ⟨rfl, rfl, rfl, rfl, rfl⟩, Dk.new (Dk.mono h (Nat.le_succ _)), Chg.refl _ _⟩
  | none =>
    refine (made_new w S g N d h s hs hN hF).mono ?_
    rintro e w' ⟨b, fv, rfl, h1, h2⟩
    exact ⟨{ d with fv := fv, F := fun y => if y = s then some (fi0 b) else d.F y }, fi0 b, rfl, if_pos rfl, by simp [vw, hF, ab, fi0], fun x hx => if_neg hx, ⟨rfl, rfl, rfl, rfl, rfl⟩, h1, h2⟩
/-- What an append to a file leaves. -/
theorem append_end {w w3 w5 : World} {S : Nat → Prop} {g N : Nat} {d : St} (h : Dk w S g N d) {s : ByteArray} {f : Fi} (hf : d.F s = some f) {v' : Value} {cs : List Nat} (hby : ∀ x ∈ cs, x < 256) {u : Nat} (hu : u ≤ 9223372036854775807)
    (hgr : w.grownBy w3 f.v.ownBlock) (hat : v'.ownBlock = f.v.ownBlock ∨ v'.ownBlock = some w.heap.size) (hrow : w3.ownsRow 0 5 1 v' (f.bs.length + cs.length) (u8s (f.bs ++ cs))) (h5 : w5 = (w3.setCell ⟨f.blk, 0, none⟩ v').setCell ⟨g, 1, none⟩ (.int .i64 (u : Nat))) :
    Dk w5 (New S w w5) g N { d with F := fun x => if x = s then some ⟨f.blk, v', f.bs ++ cs, f.syn⟩ else d.F x, used := u } ∧ Chg w w5 S := by
  obtain ⟨fm, fg, fs⟩ := h.fm s f hf
  have hne : f.blk ≠ g := fun e => fg (.inl e.symm)
  have hbw : f.blk < w.heap.size := fm.lt (.inl rfl)
  have hgw : g < w.heap.size := h.lt g h.sg
  have hb3 : w3.heap[f.blk]? = w.heap[f.blk]? := hgr.block _ hbw (fun e => fm.apart e.symm)
  have hg3 : w3.heap[g]? = w.heap[g]? := hgr.block _ hgw (fun e => fg (.inr e.symm))
  have hap : v'.ownBlock ≠ some f.blk := by
    rcases hat with e | e
    · rw [e]; exact fm.apart
    · rw [e]; intro e'; injection e' with e'; omega
  have hgv : v'.ownBlock ≠ some g := by
    rcases hat with e | e
    · rw [e]; exact fun e' => fg (.inr e')
    · rw [e]; intro e'; injection e' with e'; omega
  have c5 : Cs w5 g { d with used := u } := by
    rw [h5]
    exact ((h.cs.of_block hg3).off hne).set1 u hu
  have f5 : Fm w5 ⟨f.blk, v', f.bs ++ cs, f.syn⟩ := by
    have hg' : ∀ j, j ≠ g → w5.heap[j]? = (w3.setCell ⟨f.blk, 0, none⟩ v').heap[j]? := fun j hj => by rw [h5]; exact heap_setCell_ne hj
    have hz : w3.cell? ⟨f.blk, 0, none⟩ = some f.v := (World.cell?_of_block hb3).trans fm.c0
    have e4 : Fm (w3.setCell ⟨f.blk, 0, none⟩ v') ⟨f.blk, v', f.bs ++ cs, f.syn⟩ := by
      refine ⟨cell_same hz, (cell_other (by simp)).trans ((World.cell?_of_block hb3).trans fm.c1), by simpa using (World.frozen?_of_block hb3).trans fm.z0, by simpa using (World.frozen?_of_block hb3).trans fm.z1, ?_, ?_, ?_, hap⟩
      · rw [show (Fi.mk f.blk v' (f.bs ++ cs) f.syn).bs.length = f.bs.length + cs.length by simp]
        exact own_of_block hrow fun j hj => heap_setCell_ne fun e => hap (e ▸ hj)
      · have := fm.syn
        simp
        omega
      · intro x hx
        rcases List.mem_append.1 hx with hx | hx
        · exact fm.byte x hx
        · exact hby x hx
    refine e4.move fun j hj => hg' j fun e => ?_
    subst e
    rcases hj with e | e
    · exact hne e.symm
    · exact hgv e
  have chg : Chg w w5 (fun k => k = g ∨ foot f k) := by
    rw [h5]
    exact ((Chg.of_grown hgr _ (fun k hk _ => .inr (.inr hk))).setCell (.inr (.inl rfl)) _).setCell (.inl rfl) _
  refine ⟨h.file hf chg ⟨c5.c0, c5.c1, c5.c2, c5.c3, c5.c4, c5.c5, c5.z, c5.bu, c5.br, c5.bf⟩ rfl rfl rfl f5 (fun k hk => ?_), chg.imp fun k hk _ => ?_⟩
  · rcases hat with e | e
    · exact .inl (e ▸ hk)
    · refine .inr ⟨by have e2 : some w.heap.size = some k := e.symm.trans hk; injection e2 with e2; omega, ?_⟩
      exact f5.lt (.inr hk)
  · rcases hk with rfl | hk
    · exact h.sg
    · exact fs k hk
end Jg
end Go.Proofs.Ytcjfdebjgaohlaa
