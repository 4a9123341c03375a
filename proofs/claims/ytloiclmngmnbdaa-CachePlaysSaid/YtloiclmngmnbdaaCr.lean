/- hold: a column's place. -/
import Derived.Test.YtloiclmngmnbdaaCq
namespace Go.Proofs.Ytloiclmngmnbdaa
open Go.RowKit Go.Maps Go.ChangeMaps Go.MapKept
namespace Cr
open Jb Ca Ck Ct Cd Ls Lb Lc Ld Li Lj Lk Lm Ln Lo Lp Cq

theorem mt_block {w w' : World} {m k : Nat} (h : w.mapTurned w' m) (hk : k ≠ m) : w'.heap[k]? = w.heap[k]? := by
  obtain ⟨es, clock, es', clock', hb, rfl⟩ := h
  exact heap_setBlock_other hb _ hk
theorem mt_size {w w' : World} {m : Nat} (h : w.mapTurned w' m) : w'.heap.size = w.heap.size := by
  obtain ⟨es, clock, es', clock', hb, rfl⟩ := h
  simp [setBlock]
/-- What the cache is when a new column lies in its map. -/
theorem hold_end {w X x w9 : World} {S : Nat → Prop} {g N m : Nat} {d : St} {s : Ky} {f' : Co} (h : Dk w S g N d) (_ : d.F s = none) (hf : Cm w f') (hfd : ∀ k, foot f' k → ¬ S k) (cX : Cs X g { d with fv := .map (some m) }) (ch : Chg w X (fun k => k = g))
    (hm : d.fv = .map (some m) ∨ (w.heap.size ≤ m ∧ m < X.heap.size)) (hx : Below X.heap.size X x) (hi : Is w9 m (N + 1) (fun y => if y = s then some f'.blk else (d.F y).map Co.blk)) (ht : x.mapTurned w9 m) :
    Dk w9 (fun k => New S w w9 k ∨ foot f' k) g (N + 1) { d with fv := .map (some m), F := fun y => if y = s then some f' else d.F y } ∧ Chg w w9 S := by
  have s1 := ch.size
  have s2 := hx.size
  have s3 := mt_size ht
  have gl := h.lt g h.sg
  have hmm : d.fv = .map (some m) → S m ∧ m ≠ g := fun e => by
    rcases h.fv with ⟨a, _⟩ | ⟨m', a, b, c, _⟩
    · rw [e] at a; cases a
    · rw [e] at a; cases a; exact ⟨b, c⟩
  have mg : m ≠ g := by
    rcases hm with e | e
    · exact (hmm e).2
    · omega
  have old : ∀ k, k < w.heap.size → k ≠ g → k ≠ m → w9.heap[k]? = w.heap[k]? := fun k hk hg hkm => (mt_block ht hkm).trans ((hx.block k (by omega)).trans (ch.block k hk hg))
  have hfl : ∀ k, foot f' k → k < w.heap.size ∧ k ≠ g ∧ k ≠ m := fun k hk => by
    have hl := hf.lt hk
    refine ⟨hl, fun e => hfd k hk (e ▸ h.sg), fun e => ?_⟩
    rcases hm with e' | e'
    · exact hfd k hk (e ▸ (hmm e').1)
    · omega
  have c9 := cX.of_block ((mt_block ht mg.symm).trans (hx.block g (by omega)))
  have hof : ∀ y f, d.F y = some f → Cm w9 f ∧ (∀ k, foot f k → S k ∧ k ≠ g ∧ k ≠ m) := fun y f hy => by
    obtain ⟨a, b, c⟩ := h.fm y f hy
    have hkm : ∀ k, foot f k → S k ∧ k ≠ g ∧ k ≠ m := fun k hk => ⟨c k hk, fun e => b (e ▸ hk), fun e => by
      rcases hm with e' | e'
      · exact h.mf m e' y f hy (e ▸ hk)
      · have := h.lt k (c k hk); omega⟩
    exact ⟨a.move fun k hk => old k (h.lt k (c k hk)) (hkm k hk).2.1 (hkm k hk).2.2, hkm⟩
  refine ⟨⟨⟨c9.c0, c9.c1, c9.c2, c9.z, c9.bm, c9.bs⟩, .inl (.inl h.sg), fun k hk => ?_, .inr ⟨m, rfl, ?_, mg, hi.ext fun y => ?_⟩, ?_, ?_, ?_⟩, ⟨?_, ?_, ?_, by omega, fun k hk hS => ?_⟩⟩
  · rcases hk with (hk | hk) | hk
    · have := h.lt k hk; omega
    · exact hk.2
    · have := (hfl k hk).1; omega
  · rcases hm with e | e
    · exact .inl (.inl (hmm e).1)
    · exact .inl (.inr ⟨e.1, by omega⟩)
  · dsimp only; split <;> rfl
  · intro m' e y f hy hk
    cases e
    dsimp only at hy
    split at hy
    · cases hy; exact (hfl m hk).2.2 rfl
    · exact ((hof y f hy).2 m hk).2.2 rfl
  · intro y f hy
    dsimp only at hy
    split at hy
    · cases hy
      exact ⟨hf.move fun k hk => old k (hfl k hk).1 (hfl k hk).2.1 (hfl k hk).2.2, fun hk => (hfl g hk).2.1 rfl, fun k hk => .inr hk⟩
    · obtain ⟨a, b⟩ := hof y f hy
      exact ⟨a, fun hk => (b g hk).2.1 rfl, fun k hk => .inl (.inl (b k hk).1)⟩
  · intro y y' f f2 hne hy hy' k hk hk'
    dsimp only at hy hy'
    split at hy
    · cases hy
      split at hy'
      · exact hne (by simp_all)
      · exact hfd k hk ((hof y' f2 hy').2 k hk').1
    · split at hy'
      · cases hy'
        exact hfd k hk' ((hof y f hy).2 k hk).1
      · exact h.ap y y' f f2 hne hy hy' k hk hk'
  · obtain ⟨es, clock, es', clock', hb, rfl⟩ := ht
    exact hx.os.trans ch.os
  · obtain ⟨es, clock, es', clock', hb, rfl⟩ := ht
    exact hx.tape.trans ch.tape
  · obtain ⟨es, clock, es', clock', hb, rfl⟩ := ht
    exact hx.output.trans ch.output
  · refine old k hk (fun e => hS (e ▸ h.sg)) (fun e => ?_)
    rcases hm with e' | e'
    · exact hS (e ▸ (hmm e').1)
    · omega
/-- The store of a place in the map, in whatever world lies behind X. -/
theorem hold_put {w X : World} {S : Nat → Prop} {g N m : Nat} {d : St} {s : Ky} {f' : Co} (h : Dk w S g N d) (hs : ok s) (hF : d.F s = none) (hf : Cm w f') (hfd : ∀ k, foot f' k → ¬ S k) (hN : N ≤ 140737488353000) (cX : Cs X g { d with fv := .map (some m) }) (ch : Chg w X (fun k => k = g))
    (hm : d.fv = .map (some m) ∨ (w.heap.size ≤ m ∧ m < X.heap.size)) (hi : Is X m N (fun y => (d.F y).map Co.blk)) (hbx : X.heap[w.heap.size]? = some (.cells #[.string s.1, .string s.2] 65 (0, 0))) (hmb : m ≠ w.heap.size) (x : World) (hx : Below X.heap.size X x) :
    ∃ w9, (Instr.mapUpdate 58 (.map (some m)) (kv s) (.pointer (some ⟨f'.blk, 0, none⟩))).run Try.prog x = .ok () w9 ∧ (Dk w9 (fun k => New S w w9 k ∨ foot f' k) g (N + 1) { d with fv := .map (some m), F := fun y => if y = s then some f' else d.F y } ∧ Chg w w9 S) ∧
      (x.cell? ⟨g, 2, none⟩ = some (.map (some m)) ∧ x.cell? ⟨w.heap.size, 0, none⟩ = some (.string s.1) ∧ x.cell? ⟨w.heap.size, 1, none⟩ = some (.string s.2)) ∧ (w9.cell? ⟨g, 2, none⟩ = some (.map (some m)) ∧ w9.cell? ⟨w.heap.size, 0, none⟩ = some (.string s.1) ∧ w9.cell? ⟨w.heap.size, 1, none⟩ = some (.string s.2)) := by
  have hml : m < X.heap.size := hi.lt
  have s1 := ch.size
  have gl := h.lt g h.sg
  have hwl : w.heap.size < X.heap.size := (Array.getElem?_eq_some_iff.1 hbx).1
  obtain ⟨w9, r9, j9, t9⟩ := (hi.of_block (hx.block m hml)).put (s := s) (b := f'.blk) hs (by omega)
  have fin := hold_end h hF hf hfd cX ch hm hx j9 t9
  have bx : x.heap[w.heap.size]? = some (.cells #[.string s.1, .string s.2] 65 (0, 0)) := (hx.block _ hwl).trans hbx
  have b9 : w9.heap[w.heap.size]? = some (.cells #[.string s.1, .string s.2] 65 (0, 0)) := (mt_block t9 hmb.symm).trans bx
  exact ⟨w9, r9, fin, ⟨(World.cell?_of_block (hx.block g (by omega))).trans cX.c2, cell_at bx 0, cell_at bx 1⟩, ⟨fin.1.cs.c2, cell_at b9 0, cell_at b9 1⟩⟩
theorem undrew {X x : World} {B : Nat} (hx : Below B X.drew x) : Below B X x := ⟨hx.os, hx.tape, hx.output, hx.size, hx.block⟩
set_option maxRecDepth 100000
theorem hold36_old (w : World) (S : Nat → Prop) (g N : Nat) (d : St) (h : Dk w S g N d) (s : Ky) (hs : ok s) (f : Co) (hF : d.F s = some f) (b : Nat) : Calls Try.prog 36 #[.pointer (some ⟨g, 0, none⟩), kv s, .pointer (some ⟨b, 0, none⟩)] w fun e w' => e = .returned (.tuple #[]) ∧ Below w.heap.size w w' := by
  have c2 := alloc_cell (.cells #[.string s.1, .string s.2] 65) h.cs.c2
  have hl : ∀ n, (Instr.lookup 58 d.fv (kv s) false).run Try.prog ((w.alloc (.cells #[.string s.1, .string s.2] 65)).drewN n) = .ok (.pointer (some ⟨f.blk, 0, none⟩)) ((w.alloc (.cells #[.string s.1, .string s.2] 65)).drewN n) := fun n => by
    have := (h.move (w' := (w.alloc (.cells #[.string s.1, .string s.2] 65)).drewN n) (by simp) (fun k hk => Below.heap_alloc w _ k (h.lt k hk))).look hs
    rw [hF] at this
    exact this
  clear h hF hs
  unfold kv at hl ⊢
  go_enter Try.func36, Try.ntmps36
  go_wp2_with fail
  go_quiet (fail)
  go_wp2_with fail
  refine bodyPost_ret (v := .tuple #[]) (by simp [results, Try.results36, go_sem]) rfl ⟨rfl, bdn ((Below.refl _ w).alloc (Nat.le_refl _) _) _⟩
theorem hold36_new0 (w : World) (S : Nat → Prop) (g N : Nat) (d : St) (h : Dk w S g N d) (s : Ky) (hs : ok s) (hF : d.F s = none) (f' : Co) (hf : Cm w f') (hfd : ∀ k, foot f' k → ¬ S k) (hN : N ≤ 140737488353000) (hfv : d.fv = .map none) :
    Calls Try.prog 36 #[.pointer (some ⟨g, 0, none⟩), kv s, .pointer (some ⟨f'.blk, 0, none⟩)] w fun e w' => e = .returned (.tuple #[]) ∧ ∃ m, Dk w' (fun k => New S w w' k ∨ foot f' k) g (N + 1) { d with fv := .map (some m), F := fun y => if y = s then some f' else d.F y } ∧ Chg w w' S := by
  have c2 := alloc_cell (.cells #[.string s.1, .string s.2] 65) h.cs.c2
  have hl : ∀ n, (Instr.lookup 58 d.fv (kv s) false).run Try.prog ((w.alloc (.cells #[.string s.1, .string s.2] 65)).drewN n) = .ok (.pointer none) ((w.alloc (.cells #[.string s.1, .string s.2] 65)).drewN n) := fun n => by
    have := (h.move (w' := (w.alloc (.cells #[.string s.1, .string s.2] 65)).drewN n) (by simp) (fun k hk => Below.heap_alloc w _ k (h.lt k hk))).look hs
    rw [hF] at this
    exact this
  have z2 : (w.alloc (.cells #[.string s.1, .string s.2] 65)).frozen? ⟨g, 2, none⟩ = false := (World.frozen?_of_block (Below.heap_alloc w _ g (h.lt g h.sg))).trans (h.cs.z 2)
  have gl := h.lt g h.sg
  have HH := Lib.hid h
  have HS := Lib.hid hs
  have HFV := Lib.hid hfv
  rw [hfv] at c2 hl
  have qe := fun (y : World) => run_eql_map_nil (P := Try.prog) y 58 65 62 none Try.underlying58
  have hmm := @run_makeMap Try.prog
  clear h hF hs hfv
  unfold kv at hl ⊢
  go_enter Try.func36, Try.ntmps36
  go_wp2_with fail
  go_quiet (fail)
  go_wp2_with fail
  obtain ⟨m, hm⟩ : ∃ m, m = w.heap.size + 1 := ⟨_, rfl⟩
  obtain ⟨B, hB⟩ : ∃ B, B = (w.alloc (.cells #[.string s.1, .string s.2] 65)).drewN nq := ⟨_, rfl⟩
  rw [← hm, ← hB]
  obtain ⟨X0, hX0⟩ : ∃ X0, X0 = B.setCell ⟨g, 2, none⟩ (.map (some m)) := ⟨_, rfl⟩
  obtain ⟨X, hX⟩ : ∃ X, X = X0.alloc (.map #[] 0) := ⟨_, rfl⟩
  rw [← hX0, ← hX]
  have h := HH.out
  have hs := HS.out
  have bB : Below w.heap.size w B := by rw [hB]; exact bdn ((Below.refl _ w).alloc (Nat.le_refl _) _) nq
  have sB : B.heap.size = m := by rw [hB, hm]; simp
  have s0 : X0.heap.size = m := by rw [hX0]; simpa using sB
  have sX : X.heap.size = m + 1 := by rw [hX]; simp [s0]
  have cX : Cs X g { d with fv := .map (some m) } := by
    have a0 : Cs B g d := h.cs.of_block (bB.block g gl)
    have a1 := a0.set2 (.map (some m))
    rw [← hX0] at a1
    exact a1.of_block (by rw [hX]; exact Below.heap_alloc _ _ _ (by omega))
  have ch : Chg w X (fun k => k = g) := by
    rw [hX, hX0]
    exact ((Chg.of_below bB (Nat.le_refl _) (fun k => k = g)).setCell rfl _).alloc _
  have i0 := made X0
  rw [← hX, s0] at i0
  have hbx : X.heap[w.heap.size]? = some (.cells #[.string s.1, .string s.2] 65 (0, 0)) := by
    rw [hX, Below.heap_alloc _ _ _ (by omega), hX0, heap_setCell_ne (by omega), hB]
    exact heap_alloc_new w _
  have hno : ∀ y, d.F y = none := by
    rcases h.fv with ⟨_, a⟩ | ⟨m', a, _⟩
    · exact a
    · rw [HFV.out] at a; cases a
  have HPUT := Lib.hid (hold_put h hs (hno s) hf hfd hN cX ch (.inr ⟨by omega, by omega⟩) ((i0.mono (Nat.zero_le N)).ext fun y => by rw [hno y]; rfl) hbx (by omega))
  obtain ⟨_, _, _, kX0, _⟩ := HPUT.out X (Below.refl _ _)
  have kX : X.drew.cell? ⟨g, 2, none⟩ = some (.map (some m)) ∧ X.drew.cell? ⟨w.heap.size, 0, none⟩ = some (.string s.1) ∧ X.drew.cell? ⟨w.heap.size, 1, none⟩ = some (.string s.2) := kX0
  have HC1 := Lib.hid (show ∀ y, Calls Try.prog 34 #[.string s.1] y _ from fun y => clone34 y s.1 (by have := hs.1; omega))
  have HC2 := Lib.hid (show ∀ y, Calls Try.prog 34 #[.string s.2] y _ from fun y => clone34 y s.2 (by have := hs.2; omega))
  unfold kv at HPUT
  clear kX0 hno hbx i0 ch cX sX s0 sB bB h hs hX hX0 hB hm c2 hl z2 qe hmm hf hfd hN
  go_region_held (fun y => y.cell? ⟨g, 2, none⟩ = some (.map (some m)) ∧ y.cell? ⟨w.heap.size, 0, none⟩ = some (.string s.1) ∧ y.cell? ⟨w.heap.size, 1, none⟩ = some (.string s.2))
    (first | exact kX | exact kY | exact kZ | exact kW)
    (first | (go_at_call 34; refine (HC1.out _).mono ?_; rintro e x1 ⟨rfl, hx1⟩; replace hx1 := undrew hx1; obtain ⟨_, _, _, kY, _⟩ := HPUT.out x1 hx1; have HX1 := Lib.hid hx1; clear hx1) | (go_at_call 34; refine (HC2.out _).mono ?_; rintro e x2 ⟨rfl, hx2⟩; obtain ⟨w9, r9, p9, kZ, kW⟩ := HPUT.out x2 (HX1.out.trans (hx2.mono HX1.out.size)); have P9 := Lib.hid p9; clear hx2 p9))
  go_wp2_with fail
  refine bodyPost_end (v := .tuple #[]) (by simp [results, Try.results36, go_sem]) rfl ⟨rfl, m, P9.out⟩
theorem hold36_new1 (w : World) (S : Nat → Prop) (g N : Nat) (d : St) (h : Dk w S g N d) (s : Ky) (hs : ok s) (hF : d.F s = none) (f' : Co) (hf : Cm w f') (hfd : ∀ k, foot f' k → ¬ S k) (hN : N ≤ 140737488353000) (m : Nat) (hfv : d.fv = .map (some m)) (_ : S m) (_ : m ≠ g) (hi : Is w m N (fun y => (d.F y).map Co.blk)) :
    Calls Try.prog 36 #[.pointer (some ⟨g, 0, none⟩), kv s, .pointer (some ⟨f'.blk, 0, none⟩)] w fun e w' => e = .returned (.tuple #[]) ∧ ∃ m, Dk w' (fun k => New S w w' k ∨ foot f' k) g (N + 1) { d with fv := .map (some m), F := fun y => if y = s then some f' else d.F y } ∧ Chg w w' S := by
  have c2 := alloc_cell (.cells #[.string s.1, .string s.2] 65) h.cs.c2
  have hl : ∀ n, (Instr.lookup 58 d.fv (kv s) false).run Try.prog ((w.alloc (.cells #[.string s.1, .string s.2] 65)).drewN n) = .ok (.pointer none) ((w.alloc (.cells #[.string s.1, .string s.2] 65)).drewN n) := fun n => by
    have := (h.move (w' := (w.alloc (.cells #[.string s.1, .string s.2] 65)).drewN n) (by simp) (fun k hk => Below.heap_alloc w _ k (h.lt k hk))).look hs
    rw [hF] at this
    exact this
  have z2 : (w.alloc (.cells #[.string s.1, .string s.2] 65)).frozen? ⟨g, 2, none⟩ = false := (World.frozen?_of_block (Below.heap_alloc w _ g (h.lt g h.sg))).trans (h.cs.z 2)
  have gl := h.lt g h.sg
  have HH := Lib.hid h
  have HS := Lib.hid hs
  have HFV := Lib.hid hfv
  have HF := Lib.hid hF
  rw [hfv] at c2 hl
  have qe := fun (y : World) => run_eql_map_nil (P := Try.prog) y 58 65 62 (some m) Try.underlying58
  clear h hF hs hfv
  unfold kv at hl ⊢
  go_enter Try.func36, Try.ntmps36
  go_wp2_with fail
  go_quiet (fail)
  go_wp2_with fail
  obtain ⟨X, hX⟩ : ∃ X, X = (w.alloc (.cells #[.string s.1, .string s.2] 65)).drewN nq := ⟨_, rfl⟩
  rw [← hX]
  have h := HH.out
  have hs := HS.out
  have ml := hi.lt
  have bX : Below w.heap.size w X := by rw [hX]; exact bdn ((Below.refl _ w).alloc (Nat.le_refl _) _) nq
  have cX : Cs X g { d with fv := .map (some m) } := by
    have a0 : Cs X g d := h.cs.of_block (bX.block g gl)
    exact ⟨a0.c0, a0.c1, by rw [a0.c2, HFV.out], a0.z, a0.bm, a0.bs⟩
  have hbx : X.heap[w.heap.size]? = some (.cells #[.string s.1, .string s.2] 65 (0, 0)) := by
    rw [hX]
    exact heap_alloc_new w _
  have HPUT := Lib.hid (hold_put h hs HF.out hf hfd hN cX (Chg.of_below bX (Nat.le_refl _) _) (.inl HFV.out) (hi.of_block (bX.block m ml)) hbx (by omega))
  obtain ⟨_, _, _, kX0, _⟩ := HPUT.out X (Below.refl _ _)
  have kX : X.drew.cell? ⟨g, 2, none⟩ = some (.map (some m)) ∧ X.drew.cell? ⟨w.heap.size, 0, none⟩ = some (.string s.1) ∧ X.drew.cell? ⟨w.heap.size, 1, none⟩ = some (.string s.2) := kX0
  have HC1 := Lib.hid (show ∀ y, Calls Try.prog 34 #[.string s.1] y _ from fun y => clone34 y s.1 (by have := hs.1; omega))
  have HC2 := Lib.hid (show ∀ y, Calls Try.prog 34 #[.string s.2] y _ from fun y => clone34 y s.2 (by have := hs.2; omega))
  unfold kv at HPUT
  clear kX0 hbx cX bX h hs hX c2 hl z2 qe hf hfd hN hi ml
  go_region_held (fun y => y.cell? ⟨g, 2, none⟩ = some (.map (some m)) ∧ y.cell? ⟨w.heap.size, 0, none⟩ = some (.string s.1) ∧ y.cell? ⟨w.heap.size, 1, none⟩ = some (.string s.2))
    (first | exact kX | exact kY | exact kZ | exact kW)
    (first | (go_at_call 34; refine (HC1.out _).mono ?_; rintro e x1 ⟨rfl, hx1⟩; replace hx1 := undrew hx1; obtain ⟨_, _, _, kY, _⟩ := HPUT.out x1 hx1; have HX1 := Lib.hid hx1; clear hx1) | (go_at_call 34; refine (HC2.out _).mono ?_; rintro e x2 ⟨rfl, hx2⟩; obtain ⟨w9, r9, p9, kZ, kW⟩ := HPUT.out x2 (HX1.out.trans (hx2.mono HX1.out.size)); have P9 := Lib.hid p9; clear hx2 p9))
  go_wp2_with fail
  refine bodyPost_end (v := .tuple #[]) (by simp [results, Try.results36, go_sem]) rfl ⟨rfl, m, P9.out⟩
end Cr
end Go.Proofs.Ytloiclmngmnbdaa
