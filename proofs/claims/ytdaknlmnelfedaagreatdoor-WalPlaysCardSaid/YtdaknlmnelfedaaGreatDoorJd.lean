/- A disk in memory. -/
import Derived.Test.YtdaknlmnelfedaaGreatDoorJm
namespace Go.Proofs.YtdaknlmnelfedaaGreatDoor
open Go.RowKit Go.Maps Go.ChangeMaps Go.MapKept
namespace Jd
open Jb Jm

/-- Only blocks of S have turned; blocks may have come. -/
structure Chg (w w' : World) (S : Nat → Prop) : Prop where
  os : w'.os = w.os
  tape : w'.tape = w.tape
  output : w'.output = w.output
  size : w.heap.size ≤ w'.heap.size
  block : ∀ k, k < w.heap.size → ¬ S k → w'.heap[k]? = w.heap[k]?
theorem Chg.refl (w : World) (S : Nat → Prop) : Chg w w S := ⟨rfl, rfl, rfl, Nat.le_refl _, fun _ _ _ => rfl⟩
theorem Chg.trans {a b c : World} {S S' : Nat → Prop} (h : Chg a b S) (k : Chg b c S') (f : ∀ k, S' k → k < a.heap.size → S k) : Chg a c S :=
  ⟨k.os.trans h.os, k.tape.trans h.tape, k.output.trans h.output, Nat.le_trans h.size k.size, fun i hi hg => (k.block i (Nat.lt_of_lt_of_le hi h.size) (fun e => hg (f i e hi))).trans (h.block i hi hg)⟩
theorem Chg.imp {a b : World} {S S' : Nat → Prop} (h : Chg a b S) (f : ∀ k, S k → k < a.heap.size → S' k) : Chg a b S' := ⟨h.os, h.tape, h.output, h.size, fun k hk hS => h.block k hk (fun e => hS (f k e hk))⟩
theorem Chg.drewN {a b : World} {S : Nat → Prop} (h : Chg a b S) (n : Nat) : Chg a (b.drewN n) S := ⟨h.os, h.tape, h.output, h.size, h.block⟩
theorem Chg.drew {a b : World} {S : Nat → Prop} (h : Chg a b S) : Chg a b.drew S := ⟨h.os, h.tape, h.output, h.size, h.block⟩
theorem Chg.setCell {a b : World} {S : Nat → Prop} (h : Chg a b S) {g i : Nat} (hg : S g) (v : Value) : Chg a (b.setCell ⟨g, i, none⟩ v) S :=
  ⟨h.os, h.tape, h.output, by simpa using h.size, fun k hk hS => by rw [heap_setCell_other _ _ _ _ (show k ≠ g from fun e => hS (e ▸ hg))]; exact h.block k hk hS⟩
theorem Chg.turned {a b c : World} {S : Nat → Prop} {m : Nat} (h : Chg a b S) (hg : S m) (t : b.mapTurned c m) : Chg a c S := by
  have k := t.grown
  exact ⟨k.os.trans h.os, k.tape.trans h.tape, k.output.trans h.output, Nat.le_trans h.size k.size, fun i hi hS => (k.block i (Nat.lt_of_lt_of_le hi h.size) (fun e => hS (by cases e; exact hg))).trans (h.block i hi hS)⟩
theorem Chg.alloc {a b : World} {S : Nat → Prop} (h : Chg a b S) (o : Obj) : Chg a (b.alloc o) S :=
  ⟨h.os, h.tape, h.output, by simpa using Nat.le_succ_of_le h.size, fun k hk hS => (Below.heap_alloc b o k (Nat.lt_of_lt_of_le hk h.size)).trans (h.block k hk hS)⟩
theorem Chg.of_below {a b : World} {B : Nat} (h : Below B a b) (hB : a.heap.size ≤ B) (S : Nat → Prop) : Chg a b S := ⟨h.os, h.tape, h.output, h.size, fun k hk _ => h.block k (by omega)⟩
theorem Chg.of_grown {a b : World} {r : Option Nat} (h : a.grownBy b r) (S : Nat → Prop) (hr : ∀ k, r = some k → k < a.heap.size → S k) : Chg a b S :=
  ⟨h.os, h.tape, h.output, h.size, fun k hk hS => h.block k hk (fun e => hS (hr k e.symm hk))⟩
theorem Chg.below {a b : World} {S : Nat → Prop} {B : Nat} (h : Chg a b S) (hB : ∀ k, S k → k < a.heap.size → B ≤ k) (hs : B ≤ a.heap.size) : Below B a b :=
  ⟨h.os, h.tape, h.output, h.size, fun k hk => h.block k (by omega) (fun e => by have := hB k e (by omega); omega)⟩

/-- What stood in S, and what is new. -/
def New (S : Nat → Prop) (w w' : World) (k : Nat) : Prop := S k ∨ (w.heap.size ≤ k ∧ k < w'.heap.size)

theorem own_of_block {w w' : World} {B n : Nat} {v : Value} {xs : List Value} (h : w.ownsRow B 5 1 v n xs) (f : ∀ k, v.ownBlock = some k → w'.heap[k]? = w.heap[k]?) : w'.ownsRow B 5 1 v n xs := by
  obtain ⟨a, ⟨b, e⟩ | ⟨g, c, cur, rfl, hg, hh, r⟩⟩ := h
  · exact ⟨a, .inl ⟨b, e⟩⟩
  · exact ⟨a, .inr ⟨g, c, cur, rfl, hg, (f g rfl).trans hh, r⟩⟩

/-- A file: its block, its bytes' slice; what they are. -/
structure Fi where
  blk : Nat
  v : Value
  bs : List Nat
  syn : Nat
def foot (f : Fi) (k : Nat) : Prop := k = f.blk ∨ f.v.ownBlock = some k
structure Fm (w : World) (f : Fi) : Prop where
  c0 : w.cell? ⟨f.blk, 0, none⟩ = some f.v
  c1 : w.cell? ⟨f.blk, 1, none⟩ = some (.int .i64 (f.syn : Nat))
  z0 : w.frozen? ⟨f.blk, 0, none⟩ = false
  z1 : w.frozen? ⟨f.blk, 1, none⟩ = false
  own : w.ownsRow 0 5 1 f.v f.bs.length (u8s f.bs)
  syn : f.syn ≤ f.bs.length
  byte : ∀ x ∈ f.bs, x < 256
  apart : f.v.ownBlock ≠ some f.blk
theorem Fm.move {w w' : World} {f : Fi} (h : Fm w f) (e : ∀ k, foot f k → w'.heap[k]? = w.heap[k]?) : Fm w' f := by
  have eb := e f.blk (.inl rfl)
  exact ⟨(World.cell?_of_block eb).trans h.c0, (World.cell?_of_block eb).trans h.c1, (World.frozen?_of_block eb).trans h.z0, (World.frozen?_of_block eb).trans h.z1, own_of_block h.own (fun k hk => e k (.inr hk)), h.syn, h.byte, h.apart⟩

/-- The disk: its files' map, what is in it, and its numbers. -/
structure St where
  fv : Value
  F : ByteArray → Option Fi
  used : Nat
  room : Nat
  fused : Bool
  fuse : Nat
  down : Bool
structure Cs (w : World) (g : Nat) (d : St) : Prop where
  c0 : w.cell? ⟨g, 0, none⟩ = some d.fv
  c1 : w.cell? ⟨g, 1, none⟩ = some (.int .i64 (d.used : Nat))
  c2 : w.cell? ⟨g, 2, none⟩ = some (.int .i64 (d.room : Nat))
  c3 : w.cell? ⟨g, 3, none⟩ = some (.bool d.fused)
  c4 : w.cell? ⟨g, 4, none⟩ = some (.int .i64 (d.fuse : Nat))
  c5 : w.cell? ⟨g, 5, none⟩ = some (.bool d.down)
  z : ∀ i, w.frozen? ⟨g, i, none⟩ = false
  bu : d.used ≤ 9223372036854775807
  br : d.room ≤ 9223372036854775807
  bf : d.fuse ≤ 9223372036854775807
theorem Cs.of_block {w w' : World} {g : Nat} {d : St} (h : Cs w g d) (e : w'.heap[g]? = w.heap[g]?) : Cs w' g d :=
  ⟨(World.cell?_of_block e).trans h.c0, (World.cell?_of_block e).trans h.c1, (World.cell?_of_block e).trans h.c2, (World.cell?_of_block e).trans h.c3, (World.cell?_of_block e).trans h.c4, (World.cell?_of_block e).trans h.c5, fun i => (World.frozen?_of_block e).trans (h.z i), h.bu, h.br, h.bf⟩
theorem Cs.set0 {w : World} {g : Nat} {d : St} (h : Cs w g d) (x : Value) : Cs (w.setCell ⟨g, 0, none⟩ (x)) g { d with fv := x } :=
  ⟨cell_same h.c0, (cell_other (by simp)).trans h.c1, (cell_other (by simp)).trans h.c2, (cell_other (by simp)).trans h.c3, (cell_other (by simp)).trans h.c4, (cell_other (by simp)).trans h.c5, fun i => by simpa using h.z i, h.bu, h.br, h.bf⟩
theorem Cs.set1 {w : World} {g : Nat} {d : St} (h : Cs w g d) (x : Nat) (hx : x ≤ 9223372036854775807) : Cs (w.setCell ⟨g, 1, none⟩ (.int .i64 (x : Nat))) g { d with used := x } :=
  ⟨(cell_other (by simp)).trans h.c0, cell_same h.c1, (cell_other (by simp)).trans h.c2, (cell_other (by simp)).trans h.c3, (cell_other (by simp)).trans h.c4, (cell_other (by simp)).trans h.c5, fun i => by simpa using h.z i, hx, h.br, h.bf⟩
theorem Cs.set2 {w : World} {g : Nat} {d : St} (h : Cs w g d) (x : Nat) (hx : x ≤ 9223372036854775807) : Cs (w.setCell ⟨g, 2, none⟩ (.int .i64 (x : Nat))) g { d with room := x } :=
  ⟨(cell_other (by simp)).trans h.c0, (cell_other (by simp)).trans h.c1, cell_same h.c2, (cell_other (by simp)).trans h.c3, (cell_other (by simp)).trans h.c4, (cell_other (by simp)).trans h.c5, fun i => by simpa using h.z i, h.bu, hx, h.bf⟩
theorem Cs.set3 {w : World} {g : Nat} {d : St} (h : Cs w g d) (x : Bool) : Cs (w.setCell ⟨g, 3, none⟩ (.bool x)) g { d with fused := x } :=
  ⟨(cell_other (by simp)).trans h.c0, (cell_other (by simp)).trans h.c1, (cell_other (by simp)).trans h.c2, cell_same h.c3, (cell_other (by simp)).trans h.c4, (cell_other (by simp)).trans h.c5, fun i => by simpa using h.z i, h.bu, h.br, h.bf⟩
theorem Cs.set4 {w : World} {g : Nat} {d : St} (h : Cs w g d) (x : Nat) (hx : x ≤ 9223372036854775807) : Cs (w.setCell ⟨g, 4, none⟩ (.int .i64 (x : Nat))) g { d with fuse := x } :=
  ⟨(cell_other (by simp)).trans h.c0, (cell_other (by simp)).trans h.c1, (cell_other (by simp)).trans h.c2, (cell_other (by simp)).trans h.c3, cell_same h.c4, (cell_other (by simp)).trans h.c5, fun i => by simpa using h.z i, h.bu, h.br, hx⟩
theorem Cs.set5 {w : World} {g : Nat} {d : St} (h : Cs w g d) (x : Bool) : Cs (w.setCell ⟨g, 5, none⟩ (.bool x)) g { d with down := x } :=
  ⟨(cell_other (by simp)).trans h.c0, (cell_other (by simp)).trans h.c1, (cell_other (by simp)).trans h.c2, (cell_other (by simp)).trans h.c3, (cell_other (by simp)).trans h.c4, cell_same h.c5, fun i => by simpa using h.z i, h.bu, h.br, h.bf⟩
/-- The disk at block g, its blocks in S, its map of at most N entries. -/
structure Dk (w : World) (S : Nat → Prop) (g N : Nat) (d : St) : Prop where
  cs : Cs w g d
  sg : S g
  lt : ∀ k, S k → k < w.heap.size
  fv : (d.fv = .map none ∧ ∀ s, d.F s = none) ∨ ∃ m, d.fv = .map (some m) ∧ S m ∧ m ≠ g ∧ Is w m N (fun s => (d.F s).map Fi.blk)
  mf : ∀ m, d.fv = .map (some m) → ∀ s f, d.F s = some f → ¬ foot f m
  fm : ∀ s f, d.F s = some f → Fm w f ∧ ¬ foot f g ∧ ∀ k, foot f k → S k
  ap : ∀ s s' f f', s ≠ s' → d.F s = some f → d.F s' = some f' → ∀ k, foot f k → ¬ foot f' k
theorem Dk.move {w w' : World} {S : Nat → Prop} {g N : Nat} {d : St} (h : Dk w S g N d) (hs : w.heap.size ≤ w'.heap.size) (e : ∀ k, S k → w'.heap[k]? = w.heap[k]?) : Dk w' S g N d := by
  refine ⟨h.cs.of_block (e g h.sg), h.sg, fun k hk => Nat.lt_of_lt_of_le (h.lt k hk) hs, ?_, h.mf, fun s f hf => ?_, h.ap⟩
  · rcases h.fv with a | ⟨m, a, b, c, i⟩
    · exact .inl a
    · exact .inr ⟨m, a, b, c, i.of_block (e m b)⟩
  · obtain ⟨a, b, c⟩ := h.fm s f hf
    exact ⟨a.move fun k hk => e k (c k hk), b, c⟩
theorem Dk.below {w w' : World} {S : Nat → Prop} {g N B : Nat} {d : St} (h : Dk w S g N d) (b : Below B w w') (hB : w.heap.size ≤ B) : Dk w' S g N d :=
  h.move b.size fun k hk => b.block k (Nat.lt_of_lt_of_le (h.lt k hk) hB)
theorem Dk.chg {w w' : World} {S T : Nat → Prop} {g N : Nat} {d : St} (h : Dk w S g N d) (b : Chg w w' T) (hB : ∀ k, S k → ¬ T k) : Dk w' S g N d :=
  h.move b.size fun k hk => b.block k (h.lt k hk) (hB k hk)
/-- Another set, that has it all. -/
theorem Dk.set {w : World} {S S' : Nat → Prop} {g N : Nat} {d : St} (h : Dk w S g N d) (f : ∀ k, S k → S' k) (hl : ∀ k, S' k → k < w.heap.size) : Dk w S' g N d := by
  refine ⟨h.cs, f g h.sg, hl, ?_, h.mf, fun s x hx => ?_, h.ap⟩
  · rcases h.fv with a | ⟨m, a, b, r⟩
    · exact .inl a
    · exact .inr ⟨m, a, f m b, r⟩
  · obtain ⟨a, b, c⟩ := h.fm s x hx
    exact ⟨a, b, fun k hk => f k (c k hk)⟩
/-- The numbers alone have turned. -/
theorem Dk.nums {w w' : World} {S : Nat → Prop} {g N : Nat} {d d' : St} (h : Dk w S g N d) (c : Chg w w' (fun k => k = g)) (hc : Cs w' g d') (e1 : d'.fv = d.fv) (e2 : d'.F = d.F) : Dk w' S g N d' := by
  have hb : ∀ k, S k → k ≠ g → w'.heap[k]? = w.heap[k]? := fun k hk hn => c.block k (h.lt k hk) hn
  refine ⟨hc, h.sg, fun k hk => Nat.lt_of_lt_of_le (h.lt k hk) c.size, ?_, ?_, fun s f hf => ?_, ?_⟩
  · rw [e1, e2]
    rcases h.fv with a | ⟨m, a, b, n, i⟩
    · exact .inl a
    · exact .inr ⟨m, a, b, n, i.of_block (hb m b n)⟩
  · rw [e1, e2]; exact h.mf
  · rw [e2] at hf
    obtain ⟨a, b, r⟩ := h.fm s f hf
    exact ⟨a.move fun k hk => hb k (r k hk) (fun e => b (e ▸ hk)), b, r⟩
  · rw [e2]; exact h.ap
/-- One file has turned, within its own blocks and new ones, and the numbers. -/
theorem Dk.file {w w' : World} {S : Nat → Prop} {g N : Nat} {d d' : St} (h : Dk w S g N d) {n : ByteArray} {f f' : Fi} (hf : d.F n = some f) (c : Chg w w' (fun k => k = g ∨ foot f k)) (hc : Cs w' g d') (e1 : d'.fv = d.fv)
    (e2 : d'.F = fun s => if s = n then some f' else d.F s) (eb : f'.blk = f.blk) (hm : Fm w' f') (hv : ∀ k, f'.v.ownBlock = some k → f.v.ownBlock = some k ∨ (w.heap.size ≤ k ∧ k < w'.heap.size)) :
    Dk w' (New S w w') g N d' := by
  have hft : ∀ k, foot f' k → foot f k ∨ (w.heap.size ≤ k ∧ k < w'.heap.size) := by
    intro k hk
    rcases hk with hk | hk
    · exact .inl (.inl (hk.trans eb))
    · exact (hv k hk).imp .inr id
  obtain ⟨m0, g0, s0⟩ := h.fm n f hf
  have gl := h.lt g h.sg
  have hb : ∀ k, S k → k ≠ g → ¬ foot f k → w'.heap[k]? = w.heap[k]? := fun k hk hn hk2 => c.block k (h.lt k hk) (fun e => e.elim hn hk2)
  refine ⟨hc, .inl h.sg, fun k hk => ?_, ?_, ?_, ?_, ?_⟩
  · rcases hk with hk | hk
    · exact Nat.lt_of_lt_of_le (h.lt k hk) c.size
    · exact hk.2
  · rw [e1, e2]
    rcases h.fv with ⟨_, a⟩ | ⟨m, a, b, x, i⟩
    · rw [a n] at hf; cases hf
    · refine .inr ⟨m, a, .inl b, x, (i.of_block (hb m b x (h.mf m a n f hf))).ext fun s => ?_⟩
      dsimp only
      by_cases e : s = n
      · subst e; simp [hf, eb]
      · simp [e]
  · rw [e1, e2]
    intro m a s x hx
    dsimp only at hx
    by_cases e : s = n
    · rw [if_pos e] at hx
      cases hx
      intro hk
      rcases hft m hk with hk | hk
      · exact h.mf m a n f hf hk
      · rcases h.fv with ⟨a', _⟩ | ⟨m', a', b, _⟩
        · rw [a] at a'; cases a'
        · rw [a] at a'; cases a'
          have := h.lt m b; omega
    · rw [if_neg e] at hx; exact h.mf m a s x hx
  · rw [e2]
    intro s x hx
    dsimp only at hx
    by_cases e : s = n
    · rw [if_pos e] at hx
      cases hx
      refine ⟨hm, fun hk => ?_, fun k hk => ?_⟩
      · rcases hft g hk with hk | hk
        · exact g0 hk
        · omega
      · exact (hft k hk).imp (s0 k) id
    · rw [if_neg e] at hx
      obtain ⟨a, b, r⟩ := h.fm s x hx
      exact ⟨a.move fun k hk => hb k (r k hk) (fun e' => b (e' ▸ hk)) (fun hk2 => h.ap s n x f e hx hf k hk hk2), b, fun k hk => .inl (r k hk)⟩
  · rw [e2]
    intro s s' x x' hne hx hx' k hk hk'
    dsimp only at hx hx'
    by_cases e : s = n
    · rw [if_pos e] at hx
      cases hx
      rw [if_neg (fun e' => hne (e.trans e'.symm))] at hx'
      rcases hft k hk with hk | hk
      · exact h.ap n s' f x' (fun e' => hne (e.trans e')) hf hx' k hk hk'
      · have := h.lt k ((h.fm s' x' hx').2.2 k hk'); omega
    · rw [if_neg e] at hx
      by_cases e' : s' = n
      · rw [if_pos e'] at hx'
        cases hx'
        rcases hft k hk' with hk' | hk'
        · exact h.ap s n x f e hx hf k hk hk'
        · have := h.lt k ((h.fm s x hx).2.2 k hk); omega
      · rw [if_neg e'] at hx'
        exact h.ap s s' x x' hne hx hx' k hk hk'
/-- The map has turned: some files have gone; one may have come, in new blocks; or be called otherwise. -/
theorem Dk.map {w w' : World} {S : Nat → Prop} {g N N' m : Nat} {d d' : St} (h : Dk w S g N d) (hsz : w.heap.size ≤ w'.heap.size) (hc : Cs w' g d') (e1 : d'.fv = .map (some m)) (hm : (d.fv = .map (some m)) ∨ (w.heap.size ≤ m ∧ m < w'.heap.size))
    (hi : Is w' m N' (fun s => (d'.F s).map Fi.blk)) (hb : ∀ k, S k → k ≠ g → d.fv ≠ .map (some k) → w'.heap[k]? = w.heap[k]?)
    (hF : ∀ s f, d'.F s = some f → (∃ s0, d.F s0 = some f) ∨ (Fm w' f ∧ ∀ k, foot f k → w.heap.size ≤ k ∧ k < w'.heap.size ∧ k ≠ m))
    (hap : ∀ s s' f f', s ≠ s' → d'.F s = some f → d'.F s' = some f' → (∃ s0 s0', s0 ≠ s0' ∧ d.F s0 = some f ∧ d.F s0' = some f') ∨ (∀ k, foot f k → w.heap.size ≤ k ∧ ¬ foot f' k) ∨ (∀ k, foot f' k → w.heap.size ≤ k ∧ ¬ foot f k)) :
    Dk w' (New S w w') g N' d' := by
  have gl := h.lt g h.sg
  have hmm : ∀ k, d.fv = .map (some k) → S k ∧ k ≠ g := by
    intro k e
    rcases h.fv with ⟨a, _⟩ | ⟨m', a, b, x, _⟩
    · rw [e] at a; cases a
    · rw [e] at a; cases a; exact ⟨b, x⟩
  refine ⟨hc, .inl h.sg, fun k hk => ?_, .inr ⟨m, e1, ?_, ?_, hi⟩, ?_, ?_, ?_⟩
  · rcases hk with hk | hk
    · exact Nat.lt_of_lt_of_le (h.lt k hk) hsz
    · exact hk.2
  · rcases hm with e | e
    · exact .inl (hmm m e).1
    · exact .inr e
  · rcases hm with e | e
    · exact (hmm m e).2
    · omega
  · intro m' e s f hf hk
    rw [e1] at e
    cases e
    rcases hF s f hf with ⟨s0, h0⟩ | ⟨_, h0⟩
    · rcases hm with e | e
      · exact h.mf m e s0 f h0 hk
      · have := h.lt m ((h.fm s0 f h0).2.2 m hk); omega
    · exact (h0 m hk).2.2 rfl
  · intro s f hf
    rcases hF s f hf with ⟨s0, h0⟩ | ⟨a, h0⟩
    · obtain ⟨a, b, r⟩ := h.fm s0 f h0
      exact ⟨a.move fun k hk => hb k (r k hk) (fun e => b (e ▸ hk)) (fun e => h.mf k e s0 f h0 hk), b, fun k hk => .inl (r k hk)⟩
    · exact ⟨a, fun hk => by have := (h0 g hk).1; omega, fun k hk => .inr ⟨(h0 k hk).1, (h0 k hk).2.1⟩⟩
  · intro s s' f f' hne hf hf' k hk hk'
    rcases hap s s' f f' hne hf hf' with ⟨s0, s0', n0, h0, h0'⟩ | h0 | h0
    · exact h.ap s0 s0' f f' n0 h0 h0' k hk hk'
    · exact (h0 k hk).2 hk'
    · exact (h0 k hk').2 hk
theorem Dk.look {w : World} {S : Nat → Prop} {g N : Nat} {d : St} (h : Dk w S g N d) {s : ByteArray} (hs : s.size ≤ maxLen) :
    (Instr.lookup 51 d.fv (.string s) false).run Tryz.prog w = .ok (pt ((d.F s).map Fi.blk)) w := by
  rcases h.fv with ⟨a, b⟩ | ⟨m, a, _, _, i⟩
  · rw [a, b s]; exact look_nil w hs
  · rw [a]; exact i.look hs
theorem heap_setCell_ne {w : World} {b i k : Nat} {v : Value} (h : k ≠ b) : (w.setCell ⟨b, i, none⟩ v).heap[k]? = w.heap[k]? := heap_setCell_other _ _ _ _ h
theorem Cs.off {w : World} {g b i : Nat} {d : St} {v : Value} (h : Cs w g d) (hb : b ≠ g) : Cs (w.setCell ⟨b, i, none⟩ v) g d := h.of_block (heap_setCell_ne fun e => hb e.symm)
theorem Cs.drew {w : World} {g : Nat} {d : St} (h : Cs w g d) : Cs w.drew g d := h.of_block rfl
theorem Fm.drew {w : World} {f : Fi} (h : Fm w f) : Fm w.drew f := h.move fun _ _ => rfl
theorem Fm.off {w : World} {f : Fi} {b i : Nat} {v : Value} (h : Fm w f) (hb : ¬ foot f b) : Fm (w.setCell ⟨b, i, none⟩ v) f := h.move fun _ hk => heap_setCell_ne fun e => hb (e ▸ hk)
theorem own_lt {w : World} {B n k : Nat} {v : Value} {xs : List Value} (h : w.ownsRow B 5 1 v n xs) (hk : v.ownBlock = some k) : B ≤ k ∧ k < w.heap.size := by
  obtain ⟨_, ⟨rfl, _⟩ | ⟨g, c, cur, rfl, hg, hh, _⟩⟩ := h
  · cases hk
  · have e : g = k := by simpa [Value.ownBlock] using hk
    subst e
    exact ⟨hg, (Array.getElem?_eq_some_iff.1 hh).1⟩
theorem own_forms {w : World} {B n : Nat} {v : Value} {xs : List Value} (h : w.ownsRow B 5 1 v n xs) : ∃ a c, v = .slice a n c := by
  rcases Go.Joins.ownsRow_forms h with ⟨rfl, e⟩ | ⟨q, c, rfl⟩
  · exact ⟨none, 0, by rw [e]⟩
  · exact ⟨_, c, rfl⟩
theorem own_take {w : World} {B n L C : Nat} {A : Option Addr} {xs : List Value} (h : w.ownsRow B 5 1 (.slice A L C) L xs) (hn : n ≤ L) : w.ownsRow B 5 1 (.slice A n C) n (xs.take n) := by
  obtain ⟨hl, ⟨e, e0⟩ | ⟨g, c, cur, e, hg, hh, hnc, hcm, hsz, htk⟩⟩ := h
  · cases e
    obtain rfl : n = 0 := by omega
    exact World.ownsRow_nil _ _ _ _
  · cases e
    refine ⟨by simp at hl ⊢; omega, .inr ⟨g, C, cur, rfl, hg, hh, by omega, hcm, hsz, ?_⟩⟩
    rw [← htk, List.take_take]
    congr 1
    simp
    omega
theorem own_cap {w : World} {B L C : Nat} {A : Option Addr} {xs : List Value} (h : w.ownsRow B 5 1 (.slice A L C) L xs) : L ≤ C := by
  obtain ⟨hl, ⟨e, e0⟩ | ⟨g, c, cur, e, hg, hh, hnc, hcm, hsz, htk⟩⟩ := h
  · cases e; omega
  · cases e; exact hnc
theorem own_block {A : Option Addr} {n m C : Nat} : (Value.slice A n C).ownBlock = (Value.slice A m C).ownBlock := by cases A <;> rfl
theorem Fm.lt {w : World} {f : Fi} (h : Fm w f) {k : Nat} (hk : foot f k) : k < w.heap.size := by
  rcases hk with rfl | hk
  · exact cell_lt h.c0
  · exact (own_lt h.own hk).2
theorem Fm.below {w w' : World} {f : Fi} {B : Nat} (h : Fm w f) (b : Below B w w') (hB : w.heap.size ≤ B) : Fm w' f := h.move fun k hk => b.block k (Nat.lt_of_lt_of_le (h.lt hk) hB)
theorem Cs.below {w w' : World} {g B : Nat} {d : St} (h : Cs w g d) (b : Below B w w') (hB : w.heap.size ≤ B) : Cs w' g d := h.of_block (b.block g (Nat.lt_of_lt_of_le (cell_lt h.c0) hB))
theorem own_base {w : World} {B B' n : Nat} {v : Value} {xs : List Value} (h : w.ownsRow B 5 1 v n xs) (hB : B' ≤ B) : w.ownsRow B' 5 1 v n xs := Go.Joins.ownsRow_le h hB
theorem Fm.set01 {w : World} {f : Fi} (h : Fm w f) (v' : Value) (bs' : List Nat) (k : Nat) (own' : w.ownsRow 0 5 1 v' bs'.length (u8s bs')) (hk : k ≤ bs'.length) (hby : ∀ x ∈ bs', x < 256) (ap : v'.ownBlock ≠ some f.blk) :
    Fm ((w.setCell ⟨f.blk, 0, none⟩ v').setCell ⟨f.blk, 1, none⟩ (.int .i64 (k : Nat))) ⟨f.blk, v', bs', k⟩ := by
  refine ⟨(cell_other (by simp)).trans (cell_same h.c0), cell_same (u := .int .i64 (f.syn : Nat)) ((cell_other (by simp)).trans h.c1), by simpa using h.z0, by simpa using h.z1, ?_, hk, hby, ap⟩
  refine own_of_block own' fun j hj => ?_
  have hjb : j ≠ f.blk := fun e => ap (e ▸ hj)
  exact (heap_setCell_ne hjb).trans (heap_setCell_ne hjb)
theorem Fm.set0 {w : World} {f : Fi} (h : Fm w f) (v' : Value) (bs' : List Nat) (own' : w.ownsRow 0 5 1 v' bs'.length (u8s bs')) (hk : f.syn ≤ bs'.length) (hby : ∀ x ∈ bs', x < 256) (ap : v'.ownBlock ≠ some f.blk) :
    Fm (w.setCell ⟨f.blk, 0, none⟩ v') ⟨f.blk, v', bs', f.syn⟩ := by
  refine ⟨cell_same h.c0, (cell_other (by simp)).trans h.c1, by simpa using h.z0, by simpa using h.z1, ?_, hk, hby, ap⟩
  exact own_of_block own' fun j hj => heap_setCell_ne fun e => ap (e ▸ hj)
theorem Fm.set1 {w : World} {f : Fi} (h : Fm w f) (k : Nat) (hk : k ≤ f.bs.length) : Fm (w.setCell ⟨f.blk, 1, none⟩ (.int .i64 (k : Nat))) ⟨f.blk, f.v, f.bs, k⟩ := by
  refine ⟨(cell_other (by simp)).trans h.c0, cell_same h.c1, by simpa using h.z0, by simpa using h.z1, ?_, hk, h.byte, h.apart⟩
  exact own_of_block h.own fun j hj => heap_setCell_ne fun e => h.apart (e ▸ hj)
theorem u8s_take (bs : List Nat) (n : Nat) : (u8s bs).take n = u8s (bs.take n) := by simp [u8s, List.map_take]
end Jd
end Go.Proofs.YtdaknlmnelfedaaGreatDoor
