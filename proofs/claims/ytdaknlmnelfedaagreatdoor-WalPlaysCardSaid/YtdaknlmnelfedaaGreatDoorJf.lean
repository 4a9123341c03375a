/- made: the file of a name, a new one if there is none. -/
import Derived.Test.YtdaknlmnelfedaaGreatDoorJe
import Derived.WalkSpells
namespace Go.Proofs.YtdaknlmnelfedaaGreatDoor
open Go.RowKit Go.Maps Go.ChangeMaps Go.MapKept
namespace Jf
open Jb Jm Jd Jw Jx Jn Je

/-- A file without bytes. -/
def fi0 (b : Nat) : Fi := ⟨b, .slice none 0 0, [], 0⟩
theorem foot0 {b k : Nat} : foot (fi0 b) k ↔ k = b := by
  constructor
  · rintro (h | h)
    · exact h
    · cases h
  · exact .inl
theorem fm0 (w : World) : Fm (w.alloc (.cells #[.slice none 0 0, .int .i64 0] 61)) (fi0 w.heap.size) :=
  ⟨new_cell _ _ _ 0 _ rfl, new_cell _ _ _ 1 _ rfl, frozen_of_row _ _ _ _ _ (heap_alloc_new _ _), frozen_of_row _ _ _ _ _ (heap_alloc_new _ _), World.ownsRow_nil _ _ _ _, Nat.le_refl _, by simp [fi0], by simp [fi0, Value.ownBlock]⟩
set_option maxRecDepth 100000 in
theorem made_old (w : World) (S : Nat → Prop) (g N : Nat) (d : St) (h : Dk w S g N d) (s : ByteArray) (hs : s.size ≤ 140737488355328) (f : Fi) (hF : d.F s = some f) :
    Calls Tryz.prog 64 #[.pointer (some ⟨g, 0, none⟩), .string s] w fun e w' => e = .returned (.pointer (some ⟨f.blk, 0, none⟩)) ∧ w' = w := by
  have c0 := h.cs.c0
  have hl := h.look (s := s) (by unfold maxLen; omega)
  rw [hF] at hl
  simp only [pt, Option.map_some] at hl
  clear h hs
  go_enter Tryz.func64, Tryz.ntmps64
  go_wp2_with fail
  go_ret
  trivial
/-- What the map holds when the new file lies in it. -/
theorem made_end {w X x w9 : World} {S : Nat → Prop} {g N m b : Nat} {d : St} (h : Dk w S g N d) {s : ByteArray} (cX : Cs X g { d with fv := .map (some m) }) (fX : Fm X (fi0 b)) (chX : Chg w X S)
    (hb1 : w.heap.size ≤ b) (hb2 : b < X.heap.size) (hold : ∀ k, S k → k ≠ g → X.heap[k]? = w.heap[k]?) (hm : d.fv = .map (some m) ∨ (w.heap.size ≤ m ∧ m < X.heap.size)) (hmb : m ≠ b) (hmg : m ≠ g)
    (hx : Below X.heap.size X x) (hi : Is w9 m (N + 1) (fun y => if y = s then some b else (d.F y).map Fi.blk)) (ht : x.mapTurned w9 m) (hSm : S m ∨ w.heap.size ≤ m) :
    Dk w9 (New S w w9) g (N + 1) { d with fv := .map (some m), F := fun y => if y = s then some (fi0 b) else d.F y } ∧ Chg w w9 S := by
  have s1 := chX.size
  have s2 := hx.size
  have s3 := mt_size ht
  have gX : g < X.heap.size := cell_lt cX.c0
  have hk9 : ∀ k, k < X.heap.size → k ≠ m → w9.heap[k]? = X.heap[k]? := fun k hk hm => (mt_block ht hm).trans (hx.block k hk)
  have hlt := h.lt
  have c9 := cX.of_block (hk9 g gX hmg.symm)
  have c9' : Cs w9 g { d with fv := .map (some m), F := fun y => if y = s then some (fi0 b) else d.F y } := ⟨c9.c0, c9.c1, c9.c2, c9.c3, c9.c4, c9.c5, c9.z, c9.bu, c9.br, c9.bf⟩
  refine ⟨?_, (chX.trans (Chg.of_below hx (Nat.le_refl _) (fun _ => False)) (fun k hk => hk.elim)).trans (Chg.turned (Chg.refl x (fun k => k = m)) rfl ht) (fun k hk hl => ?_)⟩
  · refine h.map (m := m) (by omega) c9' rfl (hm.imp id fun ⟨a, b⟩ => ⟨a, by omega⟩) (hi.ext fun y => ?_) (fun k hk hg hkm => ?_) (fun y f hf => ?_) (fun y y' f f' hn hf hf' => ?_)
    · dsimp only; split <;> rfl
    · have hkm' : k ≠ m := fun e => by
        rcases hm with e' | e'
        · exact hkm (by rw [e', e])
        · have := hlt k hk; omega
      rw [hk9 k (by have := hlt k hk; omega) hkm', hold k hk hg]
    · dsimp only at hf
      split at hf
      · cases hf
        refine .inr ⟨fX.move fun k hk => ?_, fun k hk => ?_⟩
        · rw [foot0] at hk; subst hk; exact hk9 k hb2 hmb.symm
        · rw [foot0] at hk; subst hk; exact ⟨hb1, by omega, hmb.symm⟩
      · exact .inl ⟨y, hf⟩
    · dsimp only at hf hf'
      have no : ∀ y f, d.F y = some f → ¬ foot f b := fun y f hy hk => by
        have := hlt b ((h.fm y f hy).2.2 b hk); omega
      split at hf
      · cases hf
        split at hf'
        · exact absurd (by simp_all) hn
        · refine .inr (.inl fun k hk => ?_)
          rw [foot0] at hk
          subst hk
          exact ⟨hb1, no y' f' hf'⟩
      · split at hf'
        · cases hf'
          refine .inr (.inr fun k hk => ?_)
          rw [foot0] at hk
          subst hk
          exact ⟨hb1, no y f hf⟩
        · exact .inl ⟨y, y', hn, hf, hf'⟩
  · subst hk
    rcases hSm with a | a
    · exact a
    · omega
set_option maxRecDepth 100000 in
theorem made_new (w : World) (S : Nat → Prop) (g N : Nat) (d : St) (h : Dk w S g N d) (s : ByteArray) (hs : s.size ≤ 64) (hN : N ≤ 140737488353000) (hF : d.F s = none) :
    Calls Tryz.prog 64 #[.pointer (some ⟨g, 0, none⟩), .string s] w fun e w' => ∃ b fv, e = .returned (.pointer (some ⟨b, 0, none⟩)) ∧ Dk w' (New S w w') g (N + 1) { d with fv := fv, F := fun y => if y = s then some (fi0 b) else d.F y } ∧ Chg w w' S := by
  have hml : s.size ≤ maxLen := by unfold maxLen; omega
  have c0 := h.cs.c0
  have z0 := h.cs.z 0
  have hl := h.look hml
  rw [hF] at hl
  simp only [pt, Option.map_none] at hl
  have hg : g < w.heap.size := h.lt g h.sg
  have HCL := Lib.hid (fun X => clone47 X s (by omega))
  have HH := Lib.hid h
  rcases h.fv with ⟨hfv, hnone⟩ | ⟨m, hfv, hSm, hmg, hi⟩
  · rw [hfv] at c0 hl
    have hmm := @run_makeMap Tryz.prog
    obtain ⟨m, hm⟩ : ∃ m, m = w.heap.size := ⟨_, rfl⟩
    obtain ⟨X0, hX0⟩ : ∃ X0, X0 = (w.setCell ⟨g, 0, none⟩ (.map (some m))).alloc (.map #[] 0) := ⟨_, rfl⟩
    obtain ⟨X, hX⟩ : ∃ X, X = X0.alloc (.cells #[.slice none 0 0, .int .i64 0] 61) := ⟨_, rfl⟩
    have e0 : X0.heap.size = m + 1 := by rw [hX0]; simp [hm]
    have e1 : X.heap.size = m + 2 := by rw [hX]; simp [e0]
    have i0 := made (w.setCell ⟨g, 0, none⟩ (.map (some m)))
    rw [← hX0, show (w.setCell ⟨g, 0, none⟩ (.map (some m))).heap.size = m by simp [hm]] at i0
    have i1 : Is X m 0 (fun _ => none) := i0.of_block (by rw [hX, Below.heap_alloc _ _ _ (by omega)])
    have cX : Cs X g { d with fv := .map (some m) } := by
      have a1 : Cs X0 g { d with fv := .map (some m) } := (h.cs.set0 (.map (some m))).of_block (by rw [hX0]; exact Below.heap_alloc _ _ _ (by simpa using hg))
      exact a1.of_block (by rw [hX]; exact Below.heap_alloc _ _ _ (by omega))
    have fX : Fm X (fi0 (m + 1)) := by rw [hX, ← e0]; exact fm0 X0
    have chX : Chg w X S := by
      rw [hX, hX0]
      exact (((Chg.refl w S).setCell h.sg _).alloc _).alloc _
    have hold : ∀ k, S k → k ≠ g → X.heap[k]? = w.heap[k]? := fun k hk hkg => by
      have := h.lt k hk
      rw [hX, Below.heap_alloc _ _ _ (by omega), hX0, Below.heap_alloc _ _ _ (by simpa using this), heap_setCell_ne hkg]
    have HPUT : Hid (∀ x, Below X.heap.size X.drew x → ∃ w9, (Instr.mapUpdate 51 (.map (some m)) (.string s) (.pointer (some ⟨m + 1, 0, none⟩))).run Tryz.prog x = .ok () w9 ∧ (Dk w9 (New S w w9) g (N + 1) { d with fv := .map (some m), F := fun y => if y = s then some (fi0 (m + 1)) else d.F y } ∧ Chg w w9 S) ∧
        x.cell? ⟨g, 0, none⟩ = some (.map (some m)) ∧ w9.cell? ⟨g, 0, none⟩ = some (.map (some m))) := Lib.hid fun x hx => by
      have hx' : Below X.heap.size X x := ⟨hx.os, hx.tape, hx.output, hx.size, hx.block⟩
      obtain ⟨w9, r9, j9, t9⟩ := ((i1.of_block (hx'.block m (by omega))).mono (Nat.zero_le N)).put (b := m + 1) hs (by omega)
      have fin := made_end h cX fX chX (by omega) (by omega) hold (.inr ⟨by omega, by omega⟩) (by omega) (by omega) hx' (j9.ext fun y => by rw [hnone y]; rfl) t9 (.inr (by omega))
      refine ⟨w9, r9, fin, ?_, fin.1.cs.c0⟩
      exact (World.cell?_of_block (hx'.block g (by omega))).trans cX.c0
    have kX : X.drew.cell? ⟨g, 0, none⟩ = some (.map (some m)) := cX.c0
    have HHM := Lib.hid hm
    clear i0 i1 cX fX chX hold hnone h hs hml hF hN HH
    have qe := fun (y : World) => run_eql_map_nil (P := Tryz.prog) y 51 9 59 none Tryz.underlying51
    go_enter Tryz.func64, Tryz.ntmps64
    go_upto_region 7 with (fail)
    rw [← hm, ← hX0, ← hX]
    clear hX0 hX c0 z0 hl hm e0 e1 HHM hmm
    go_region_held (fun x => x.cell? ⟨g, 0, none⟩ = some (.map (some m)))
      (first | exact kX | exact k9 | exact j9)
      (first | (go_at_call 66; refine (HCL.out _).mono ?_; rintro e x9 ⟨rfl, hx9⟩; obtain ⟨w9, r9, p9, j9, k9⟩ := HPUT.out x9 hx9; have P9 := Lib.hid p9; clear hx9 p9))
    go_wp2_with fail
    go_ret
    exact ⟨_, _, rfl, P9.out.1, P9.out.2⟩
  · rw [hfv] at c0 hl
    obtain ⟨b, hb⟩ : ∃ b, b = w.heap.size := ⟨_, rfl⟩
    obtain ⟨X, hX⟩ : ∃ X, X = w.alloc (.cells #[.slice none 0 0, .int .i64 0] 61) := ⟨_, rfl⟩
    have e1 : X.heap.size = b + 1 := by rw [hX]; simp [hb]
    have hml2 : m < w.heap.size := h.lt m hSm
    have i1 : Is X m N (fun y => (d.F y).map Fi.blk) := hi.of_block (by rw [hX]; exact Below.heap_alloc _ _ _ hml2)
    have cX : Cs X g { d with fv := .map (some m) } := by
      have a := h.cs.of_block (w' := X) (by rw [hX]; exact Below.heap_alloc _ _ _ hg)
      exact ⟨hfv ▸ a.c0, a.c1, a.c2, a.c3, a.c4, a.c5, a.z, a.bu, a.br, a.bf⟩
    have fX : Fm X (fi0 b) := by rw [hX, hb]; exact fm0 w
    have chX : Chg w X S := by rw [hX]; exact (Chg.refl w S).alloc _
    have hold : ∀ k, S k → k ≠ g → X.heap[k]? = w.heap[k]? := fun k hk _ => by
      rw [hX]; exact Below.heap_alloc _ _ _ (h.lt k hk)
    have HPUT : Hid (∀ x, Below X.heap.size X.drew x → ∃ w9, (Instr.mapUpdate 51 (.map (some m)) (.string s) (.pointer (some ⟨b, 0, none⟩))).run Tryz.prog x = .ok () w9 ∧ (Dk w9 (New S w w9) g (N + 1) { d with fv := .map (some m), F := fun y => if y = s then some (fi0 b) else d.F y } ∧ Chg w w9 S) ∧
        x.cell? ⟨g, 0, none⟩ = some (.map (some m)) ∧ w9.cell? ⟨g, 0, none⟩ = some (.map (some m))) := Lib.hid fun x hx => by
      have hx' : Below X.heap.size X x := ⟨hx.os, hx.tape, hx.output, hx.size, hx.block⟩
      obtain ⟨w9, r9, j9, t9⟩ := (i1.of_block (hx'.block m (by omega))).put (b := b) hs (by omega)
      have fin := made_end h cX fX chX (by omega) (by omega) hold (.inl hfv) (by omega) hmg hx' j9 t9 (.inl hSm)
      refine ⟨w9, r9, fin, ?_, fin.1.cs.c0⟩
      exact (World.cell?_of_block (hx'.block g (by omega))).trans cX.c0
    have kX : X.drew.cell? ⟨g, 0, none⟩ = some (.map (some m)) := cX.c0
    clear i1 cX fX chX hold h hs hml hF hN HH hi hSm hmg hfv
    have qe := fun (y : World) => run_eql_map_nil (P := Tryz.prog) y 51 9 59 (some m) Tryz.underlying51
    go_enter Tryz.func64, Tryz.ntmps64
    go_upto_region 7 with (fail)
    rw [← hX]
    rw [← hb]
    clear hX c0 z0 hl hb e1
    go_region_held (fun x => x.cell? ⟨g, 0, none⟩ = some (.map (some m)))
      (first | exact kX | exact k9 | exact j9)
      (first | (go_at_call 66; refine (HCL.out _).mono ?_; rintro e x9 ⟨rfl, hx9⟩; obtain ⟨w9, r9, p9, j9, k9⟩ := HPUT.out x9 hx9; have P9 := Lib.hid p9; clear hx9 p9))
    go_wp2_with fail
    go_ret
    exact ⟨_, _, rfl, P9.out.1, P9.out.2⟩
end Jf
end Go.Proofs.YtdaknlmnelfedaaGreatDoor
