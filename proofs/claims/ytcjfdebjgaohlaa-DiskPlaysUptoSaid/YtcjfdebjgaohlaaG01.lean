import Derived.Test.YtcjfdebjgaohlaaG00
import Derived.RegionTactic
import Derived.Deep.RegionHeld

/- A disk in memory. -/
namespace Go.Proofs.Ytcjfdebjgaohlaa
open Go.RowKit Go.Maps Go.ChangeMaps Go.MapKept
namespace Jd
open Jb Jm

/-- Only blocks of S have turned; blocks may have come. -/
structure Chg (w w' : World) (S : Nat → Prop) : Prop where
  os : w'.os = w.os
  tape : w'.tape = w.tape
  output : w'.output = w.output
  size : w.heap.size ≤ w'.heap.size
  block : ∀ k, k < w.heap.size → ¬ S k → w'.heap[k]? = w.heap[k]?
theorem Chg.refl (w : World) (S : Nat → Prop) : Chg w w S := ⟨rfl, rfl, rfl, Nat.le_refl _, fun _ _ _ => rfl⟩
theorem Chg.trans {a b c : World} {S S' : Nat → Prop} (h : Chg a b S) (k : Chg b c S') (f : ∀ k, S' k → k < a.heap.size → S k) : Chg a c S :=
  ⟨k.os.trans h.os, k.tape.trans h.tape, k.output.trans h.output, Nat.le_trans h.size k.size, fun i hi hg => (k.block i (Nat.lt_of_lt_of_le hi h.size) (fun e => hg (f i e hi))).trans (h.block i hi hg)⟩
theorem Chg.imp {a b : World} {S S' : Nat → Prop} (h : Chg a b S) (f : ∀ k, S k → k < a.heap.size → S' k) : Chg a b S' := ⟨h.os, h.tape, h.output, h.size, fun k hk hS => h.block k hk (fun e => hS (f k e hk))⟩
theorem Chg.drewN {a b : World} {S : Nat → Prop} (h : Chg a b S) (n : Nat) : Chg a (b.drewN n) S := ⟨h.os, h.tape, h.output, h.size, h.block⟩
theorem Chg.drew {a b : World} {S : Nat → Prop} (h : Chg a b S) : Chg a b.drew S := ⟨h.os, h.tape, h.output, h.size, h.block⟩
theorem Chg.setCell {a b : World} {S : Nat → Prop} (h : Chg a b S) {g i : Nat} (hg : S g) (v : Value) : Chg a (b.setCell ⟨g, i, none⟩ v) S :=
  ⟨h.os, h.tape, h.output, by simpa using h.size, fun k hk hS => by rw [heap_setCell_other _ _ _ _ (show k ≠ g from fun e => hS (e ▸ hg))]; exact h.block k hk hS⟩
theorem Chg.turned {a b c : World} {S : Nat → Prop} {m : Nat} (h : Chg a b S) (hg : S m) (t : b.mapTurned c m) : Chg a c S := by
  have k := t.grown
  exact ⟨k.os.trans h.os, k.tape.trans h.tape, k.output.trans h.output, Nat.le_trans h.size k.size, fun i hi hS => (k.block i (Nat.lt_of_lt_of_le hi h.size) (fun e => hS (by cases e; exact hg))).trans (h.block i hi hS)⟩
theorem Chg.alloc {a b : World} {S : Nat → Prop} (h : Chg a b S) (o : Obj) : Chg a (b.alloc o) S :=
  ⟨h.os, h.tape, h.output, by simpa using Nat.le_succ_of_le h.size, fun k hk hS => (Below.heap_alloc b o k (Nat.lt_of_lt_of_le hk h.size)).trans (h.block k hk hS)⟩
theorem Chg.of_below {a b : World} {B : Nat} (h : Below B a b) (hB : a.heap.size ≤ B) (S : Nat → Prop) : Chg a b S := ⟨h.os, h.tape, h.output, h.size, fun k hk _ => h.block k (by omega)⟩
theorem Chg.of_grown {a b : World} {r : Option Nat} (h : a.grownBy b r) (S : Nat → Prop) (hr : ∀ k, r = some k → k < a.heap.size → S k) : Chg a b S :=
  ⟨h.os, h.tape, h.output, h.size, fun k hk hS => h.block k hk (fun e => hS (hr k e.symm hk))⟩
theorem Chg.below {a b : World} {S : Nat → Prop} {B : Nat} (h : Chg a b S) (hB : ∀ k, S k → k < a.heap.size → B ≤ k) (hs : B ≤ a.heap.size) : Below B a b :=
  ⟨h.os, h.tape, h.output, h.size, fun k hk => h.block k (by omega) (fun e => by have := hB k e (by omega); omega)⟩

/-- What stood in S, and what is new. -/
def New (S : Nat → Prop) (w w' : World) (k : Nat) : Prop := S k ∨ (w.heap.size ≤ k ∧ k < w'.heap.size)

theorem own_of_block {w w' : World} {B n : Nat} {v : Value} {xs : List Value} (h : w.ownsRow B 5 1 v n xs) (f : ∀ k, v.ownBlock = some k → w'.heap[k]? = w.heap[k]?) : w'.ownsRow B 5 1 v n xs := by
  obtain ⟨a, ⟨b, e⟩ | ⟨g, c, cur, rfl, hg, hh, r⟩⟩ := h
  · exact ⟨a, .inl ⟨b, e⟩⟩
  · exact ⟨a, .inr ⟨g, c, cur, rfl, hg, (f g rfl).trans hh, r⟩⟩

/-- A file: its block, its bytes' slice; what they are. -/
structure Fi where
  blk : Nat
  v : Value
  bs : List Nat
  syn : Nat
def foot (f : Fi) (k : Nat) : Prop := k = f.blk ∨ f.v.ownBlock = some k
structure Fm (w : World) (f : Fi) : Prop where
  c0 : w.cell? ⟨f.blk, 0, none⟩ = some f.v
  c1 : w.cell? ⟨f.blk, 1, none⟩ = some (.int .i64 (f.syn : Nat))
  z0 : w.frozen? ⟨f.blk, 0, none⟩ = false
  z1 : w.frozen? ⟨f.blk, 1, none⟩ = false
  own : w.ownsRow 0 5 1 f.v f.bs.length (u8s f.bs)
  syn : f.syn ≤ f.bs.length
  byte : ∀ x ∈ f.bs, x < 256
  apart : f.v.ownBlock ≠ some f.blk
theorem Fm.move {w w' : World} {f : Fi} (h : Fm w f) (e : ∀ k, foot f k → w'.heap[k]? = w.heap[k]?) : Fm w' f := by
  have eb := e f.blk (.inl rfl)
  exact ⟨(World.cell?_of_block eb).trans h.c0, (World.cell?_of_block eb).trans h.c1, (World.frozen?_of_block eb).trans h.z0, (World.frozen?_of_block eb).trans h.z1, own_of_block h.own (fun k hk => e k (.inr hk)), h.syn, h.byte, h.apart⟩

/-- The disk: its files' map, what is in it, and its numbers. -/
structure St where
  fv : Value
  F : ByteArray → Option Fi
  used : Nat
  room : Nat
  fused : Bool
  fuse : Nat
  down : Bool
structure Cs (w : World) (g : Nat) (d : St) : Prop where
  c0 : w.cell? ⟨g, 0, none⟩ = some d.fv
  c1 : w.cell? ⟨g, 1, none⟩ = some (.int .i64 (d.used : Nat))
  c2 : w.cell? ⟨g, 2, none⟩ = some (.int .i64 (d.room : Nat))
  c3 : w.cell? ⟨g, 3, none⟩ = some (.bool d.fused)
  c4 : w.cell? ⟨g, 4, none⟩ = some (.int .i64 (d.fuse : Nat))
  c5 : w.cell? ⟨g, 5, none⟩ = some (.bool d.down)
  z : ∀ i, w.frozen? ⟨g, i, none⟩ = false
  bu : d.used ≤ 9223372036854775807
  br : d.room ≤ 9223372036854775807
  bf : d.fuse ≤ 9223372036854775807
theorem Cs.of_block {w w' : World} {g : Nat} {d : St} (h : Cs w g d) (e : w'.heap[g]? = w.heap[g]?) : Cs w' g d :=
  ⟨(World.cell?_of_block e).trans h.c0, (World.cell?_of_block e).trans h.c1, (World.cell?_of_block e).trans h.c2, (World.cell?_of_block e).trans h.c3, (World.cell?_of_block e).trans h.c4, (World.cell?_of_block e).trans h.c5, fun i => (World.frozen?_of_block e).trans (h.z i), h.bu, h.br, h.bf⟩
theorem Cs.set0 {w : World} {g : Nat} {d : St} (h : Cs w g d) (x : Value) : Cs (w.setCell ⟨g, 0, none⟩ (x)) g { d with fv := x } :=
  ⟨cell_same h.c0, (cell_other (by simp)).trans h.c1, (cell_other (by simp)).trans h.c2, (cell_other (by simp)).trans h.c3, (cell_other (by simp)).trans h.c4, (cell_other (by simp)).trans h.c5, fun i => by simpa using h.z i, h.bu, h.br, h.bf⟩
theorem Cs.set1 {w : World} {g : Nat} {d : St} (h : Cs w g d) (x : Nat) (hx : x ≤ 9223372036854775807) : Cs (w.setCell ⟨g, 1, none⟩ (.int .i64 (x : Nat))) g { d with used := x } :=
  ⟨(cell_other (by simp)).trans h.c0, cell_same h.c1, (cell_other (by simp)).trans h.c2, (cell_other (by simp)).trans h.c3, (cell_other (by simp)).trans h.c4, (cell_other (by simp)).trans h.c5, fun i => by simpa using h.z i, hx, h.br, h.bf⟩
theorem Cs.set2 {w : World} {g : Nat} {d : St} (h : Cs w g d) (x : Nat) (hx : x ≤ 9223372036854775807) : Cs (w.setCell ⟨g, 2, none⟩ (.int .i64 (x : Nat))) g { d with room := x } :=
  ⟨(cell_other (by simp)).trans h.c0, (cell_other (by simp)).trans h.c1, cell_same h.c2, (cell_other (by simp)).trans h.c3, (cell_other (by simp)).trans h.c4, (cell_other (by simp)).trans h.c5, fun i => by simpa using h.z i, h.bu, hx, h.bf⟩
theorem Cs.set3 {w : World} {g : Nat} {d : St} (h : Cs w g d) (x : Bool) : Cs (w.setCell ⟨g, 3, none⟩ (.bool x)) g { d with fused := x } :=
  ⟨(cell_other (by simp)).trans h.c0, (cell_other (by simp)).trans h.c1, (cell_other (by simp)).trans h.c2, cell_same h.c3, (cell_other (by simp)).trans h.c4, (cell_other (by simp)).trans h.c5, fun i => by simpa using h.z i, h.bu, h.br, h.bf⟩
theorem Cs.set4 {w : World} {g : Nat} {d : St} (h : Cs w g d) (x : Nat) (hx : x ≤ 9223372036854775807) : Cs (w.setCell ⟨g, 4, none⟩ (.int .i64 (x : Nat))) g { d with fuse := x } :=
  ⟨(cell_other (by simp)).trans h.c0, (cell_other (by simp)).trans h.c1, (cell_other (by simp)).trans h.c2, (cell_other (by simp)).trans h.c3, cell_same h.c4, (cell_other (by simp)).trans h.c5, fun i => by simpa using h.z i, h.bu, h.br, hx⟩
theorem Cs.set5 {w : World} {g : Nat} {d : St} (h : Cs w g d) (x : Bool) : Cs (w.setCell ⟨g, 5, none⟩ (.bool x)) g { d with down := x } :=
  ⟨(cell_other (by simp)).trans h.c0, (cell_other (by simp)).trans h.c1, (cell_other (by simp)).trans h.c2, (cell_other (by simp)).trans h.c3, (cell_other (by simp)).trans h.c4, cell_same h.c5, fun i => by simpa using h.z i, h.bu, h.br, h.bf⟩
/-- The disk at block g, its blocks in S, its map of at most N entries. -/
structure Dk (w : World) (S : Nat → Prop) (g N : Nat) (d : St) : Prop where
  cs : Cs w g d
  sg : S g
  lt : ∀ k, S k → k < w.heap.size
  fv : (d.fv = .map none ∧ ∀ s, d.F s = none) ∨ ∃ m, d.fv = .map (some m) ∧ S m ∧ m ≠ g ∧ Is w m N (fun s => (d.F s).map Fi.blk)
  mf : ∀ m, d.fv = .map (some m) → ∀ s f, d.F s = some f → ¬ foot f m
  fm : ∀ s f, d.F s = some f → Fm w f ∧ ¬ foot f g ∧ ∀ k, foot f k → S k
  ap : ∀ s s' f f', s ≠ s' → d.F s = some f → d.F s' = some f' → ∀ k, foot f k → ¬ foot f' k
theorem Dk.move {w w' : World} {S : Nat → Prop} {g N : Nat} {d : St} (h : Dk w S g N d) (hs : w.heap.size ≤ w'.heap.size) (e : ∀ k, S k → w'.heap[k]? = w.heap[k]?) : Dk w' S g N d := by
  refine ⟨h.cs.of_block (e g h.sg), h.sg, fun k hk => Nat.lt_of_lt_of_le (h.lt k hk) hs, ?_, h.mf, fun s f hf => ?_, h.ap⟩
  · rcases h.fv with a | ⟨m, a, b, c, i⟩
    · exact .inl a
    · exact .inr ⟨m, a, b, c, i.of_block (e m b)⟩
  · obtain ⟨a, b, c⟩ := h.fm s f hf
    exact ⟨a.move fun k hk => e k (c k hk), b, c⟩
theorem Dk.below {w w' : World} {S : Nat → Prop} {g N B : Nat} {d : St} (h : Dk w S g N d) (b : Below B w w') (hB : w.heap.size ≤ B) : Dk w' S g N d :=
  h.move b.size fun k hk => b.block k (Nat.lt_of_lt_of_le (h.lt k hk) hB)
theorem Dk.chg {w w' : World} {S T : Nat → Prop} {g N : Nat} {d : St} (h : Dk w S g N d) (b : Chg w w' T) (hB : ∀ k, S k → ¬ T k) : Dk w' S g N d :=
  h.move b.size fun k hk => b.block k (h.lt k hk) (hB k hk)
/-- Another set, that has it all. -/
theorem Dk.set {w : World} {S S' : Nat → Prop} {g N : Nat} {d : St} (h : Dk w S g N d) (f : ∀ k, S k → S' k) (hl : ∀ k, S' k → k < w.heap.size) : Dk w S' g N d := by
  refine ⟨h.cs, f g h.sg, hl, ?_, h.mf, fun s x hx => ?_, h.ap⟩
  · rcases h.fv with a | ⟨m, a, b, r⟩
    · exact .inl a
    · exact .inr ⟨m, a, f m b, r⟩
  · obtain ⟨a, b, c⟩ := h.fm s x hx
    exact ⟨a, b, fun k hk => f k (c k hk)⟩
/-- The numbers alone have turned. -/
theorem Dk.nums {w w' : World} {S : Nat → Prop} {g N : Nat} {d d' : St} (h : Dk w S g N d) (c : Chg w w' (fun k => k = g)) (hc : Cs w' g d') (e1 : d'.fv = d.fv) (e2 : d'.F = d.F) : Dk w' S g N d' := by
  have hb : ∀ k, S k → k ≠ g → w'.heap[k]? = w.heap[k]? := fun k hk hn => c.block k (h.lt k hk) hn
  refine ⟨hc, h.sg, fun k hk => Nat.lt_of_lt_of_le (h.lt k hk) c.size, ?_, ?_, fun s f hf => ?_, ?_⟩
  · rw [e1, e2]
    rcases h.fv with a | ⟨m, a, b, n, i⟩
    · exact .inl a
    · exact .inr ⟨m, a, b, n, i.of_block (hb m b n)⟩
  · rw [e1, e2]; exact h.mf
  · rw [e2] at hf
    obtain ⟨a, b, r⟩ := h.fm s f hf
    exact ⟨a.move fun k hk => hb k (r k hk) (fun e => b (e ▸ hk)), b, r⟩
  · rw [e2]; exact h.ap
/-- One file has turned, within its own blocks and new ones, and the numbers. -/
theorem Dk.file {w w' : World} {S : Nat → Prop} {g N : Nat} {d d' : St} (h : Dk w S g N d) {n : ByteArray} {f f' : Fi} (hf : d.F n = some f) (c : Chg w w' (fun k => k = g ∨ foot f k)) (hc : Cs w' g d') (e1 : d'.fv = d.fv)
    (e2 : d'.F = fun s => if s = n then some f' else d.F s) (eb : f'.blk = f.blk) (hm : Fm w' f') (hv : ∀ k, f'.v.ownBlock = some k → f.v.ownBlock = some k ∨ (w.heap.size ≤ k ∧ k < w'.heap.size)) :
    Dk w' (New S w w') g N d' := by
  have hft : ∀ k, foot f' k → foot f k ∨ (w.heap.size ≤ k ∧ k < w'.heap.size) := by
    intro k hk
    rcases hk with hk | hk
    · exact .inl (.inl (hk.trans eb))
    · exact (hv k hk).imp .inr id
  obtain ⟨m0, g0, s0⟩ := h.fm n f hf
  have gl := h.lt g h.sg
  have hb : ∀ k, S k → k ≠ g → ¬ foot f k → w'.heap[k]? = w.heap[k]? := fun k hk hn hk2 => c.block k (h.lt k hk) (fun e => e.elim hn hk2)
  refine ⟨hc, .inl h.sg, fun k hk => ?_, ?_, ?_, ?_, ?_⟩
  · rcases hk with hk | hk
    · exact Nat.lt_of_lt_of_le (h.lt k hk) c.size
    · exact hk.2
  · rw [e1, e2]
    rcases h.fv with ⟨_, a⟩ | ⟨m, a, b, x, i⟩
    · rw [a n] at hf; cases hf
    · refine .inr ⟨m, a, .inl b, x, (i.of_block (hb m b x (h.mf m a n f hf))).ext fun s => ?_⟩
      dsimp only
      by_cases e : s = n
      · subst e; simp [hf, eb]
      · simp [e]
  · rw [e1, e2]
    intro m a s x hx
    dsimp only at hx
    by_cases e : s = n
    · rw [if_pos e] at hx
      cases hx
      intro hk
      rcases hft m hk with hk | hk
      · exact h.mf m a n f hf hk
      · rcases h.fv with ⟨a', _⟩ | ⟨m', a', b, _⟩
        · rw [a] at a'; cases a'
        · rw [a] at a'; cases a'
          have := h.lt m b; omega
    · rw [if_neg e] at hx; exact h.mf m a s x hx
  · rw [e2]
    intro s x hx
    dsimp only at hx
    by_cases e : s = n
    · rw [if_pos e] at hx
      cases hx
      refine ⟨hm, fun hk => ?_, fun k hk => ?_⟩
      · rcases hft g hk with hk | hk
        · exact g0 hk
        · omega
      · exact (hft k hk).imp (s0 k) id
    · rw [if_neg e] at hx
      obtain ⟨a, b, r⟩ := h.fm s x hx
      exact ⟨a.move fun k hk => hb k (r k hk) (fun e' => b (e' ▸ hk)) (fun hk2 => h.ap s n x f e hx hf k hk hk2), b, fun k hk => .inl (r k hk)⟩
  · rw [e2]
    intro s s' x x' hne hx hx' k hk hk'
    dsimp only at hx hx'
    by_cases e : s = n
    · rw [if_pos e] at hx
      cases hx
      rw [if_neg (fun e' => hne (e.trans e'.symm))] at hx'
      rcases hft k hk with hk | hk
      · exact h.ap n s' f x' (fun e' => hne (e.trans e')) hf hx' k hk hk'
      · have := h.lt k ((h.fm s' x' hx').2.2 k hk'); omega
    · rw [if_neg e] at hx
      by_cases e' : s' = n
      · rw [if_pos e'] at hx'
        cases hx'
        rcases hft k hk' with hk' | hk'
        · exact h.ap s n x f e hx hf k hk hk'
        · have := h.lt k ((h.fm s x hx).2.2 k hk); omega
      · rw [if_neg e'] at hx'
        exact h.ap s s' x x' hne hx hx' k hk hk'
/-- The map has turned: some files have gone; one may have come, in new blocks; or be called otherwise. -/
theorem Dk.map {w w' : World} {S : Nat → Prop} {g N N' m : Nat} {d d' : St} (h : Dk w S g N d) (hsz : w.heap.size ≤ w'.heap.size) (hc : Cs w' g d') (e1 : d'.fv = .map (some m)) (hm : (d.fv = .map (some m)) ∨ (w.heap.size ≤ m ∧ m < w'.heap.size))
    (hi : Is w' m N' (fun s => (d'.F s).map Fi.blk)) (hb : ∀ k, S k → k ≠ g → d.fv ≠ .map (some k) → w'.heap[k]? = w.heap[k]?)
    (hF : ∀ s f, d'.F s = some f → (∃ s0, d.F s0 = some f) ∨ (Fm w' f ∧ ∀ k, foot f k → w.heap.size ≤ k ∧ k < w'.heap.size ∧ k ≠ m))
    (hap : ∀ s s' f f', s ≠ s' → d'.F s = some f → d'.F s' = some f' → (∃ s0 s0', s0 ≠ s0' ∧ d.F s0 = some f ∧ d.F s0' = some f') ∨ (∀ k, foot f k → w.heap.size ≤ k ∧ ¬ foot f' k) ∨ (∀ k, foot f' k → w.heap.size ≤ k ∧ ¬ foot f k)) :
    Dk w' (New S w w') g N' d' := by
  have gl := h.lt g h.sg
  have hmm : ∀ k, d.fv = .map (some k) → S k ∧ k ≠ g := by
    intro k e
    rcases h.fv with ⟨a, _⟩ | ⟨m', a, b, x, _⟩
    · rw [e] at a; cases a
    · rw [e] at a; cases a; exact ⟨b, x⟩
  refine ⟨hc, .inl h.sg, fun k hk => ?_, .inr ⟨m, e1, ?_, ?_, hi⟩, ?_, ?_, ?_⟩
  · rcases hk with hk | hk
    · exact Nat.lt_of_lt_of_le (h.lt k hk) hsz
    · exact hk.2
  · rcases hm with e | e
    · exact .inl (hmm m e).1
    · exact .inr e
  · rcases hm with e | e
    · exact (hmm m e).2
    · omega
  · intro m' e s f hf hk
    rw [e1] at e
    cases e
    rcases hF s f hf with ⟨s0, h0⟩ | ⟨_, h0⟩
    · rcases hm with e | e
      · exact h.mf m e s0 f h0 hk
      · have := h.lt m ((h.fm s0 f h0).2.2 m hk); omega
    · exact (h0 m hk).2.2 rfl
  · intro s f hf
    rcases hF s f hf with ⟨s0, h0⟩ | ⟨a, h0⟩
    · obtain ⟨a, b, r⟩ := h.fm s0 f h0
      exact ⟨a.move fun k hk => hb k (r k hk) (fun e => b (e ▸ hk)) (fun e => h.mf k e s0 f h0 hk), b, fun k hk => .inl (r k hk)⟩
    · exact ⟨a, fun hk => by have := (h0 g hk).1; omega, fun k hk => .inr ⟨(h0 k hk).1, (h0 k hk).2.1⟩⟩
  · intro s s' f f' hne hf hf' k hk hk'
    rcases hap s s' f f' hne hf hf' with ⟨s0, s0', n0, h0, h0'⟩ | h0 | h0
    · exact h.ap s0 s0' f f' n0 h0 h0' k hk hk'
    · exact (h0 k hk).2 hk'
    · exact (h0 k hk').2 hk
theorem Dk.look {w : World} {S : Nat → Prop} {g N : Nat} {d : St} (h : Dk w S g N d) {s : ByteArray} (hs : s.size ≤ maxLen) :
    (Instr.lookup 39 d.fv (.string s) false).run Try.prog w = .ok (pt ((d.F s).map Fi.blk)) w := by
  rcases h.fv with ⟨a, b⟩ | ⟨m, a, _, _, i⟩
  · rw [a, b s]; exact look_nil w hs
  · rw [a]; exact i.look hs
theorem heap_setCell_ne {w : World} {b i k : Nat} {v : Value} (h : k ≠ b) : (w.setCell ⟨b, i, none⟩ v).heap[k]? = w.heap[k]? := heap_setCell_other _ _ _ _ h
theorem Cs.off {w : World} {g b i : Nat} {d : St} {v : Value} (h : Cs w g d) (hb : b ≠ g) : Cs (w.setCell ⟨b, i, none⟩ v) g d := h.of_block (heap_setCell_ne fun e => hb e.symm)
theorem Cs.drew {w : World} {g : Nat} {d : St} (h : Cs w g d) : Cs w.drew g d := h.of_block rfl
theorem Fm.drew {w : World} {f : Fi} (h : Fm w f) : Fm w.drew f := h.move fun _ _ => rfl
theorem Fm.off {w : World} {f : Fi} {b i : Nat} {v : Value} (h : Fm w f) (hb : ¬ foot f b) : Fm (w.setCell ⟨b, i, none⟩ v) f := h.move fun _ hk => heap_setCell_ne fun e => hb (e ▸ hk)
theorem own_lt {w : World} {B n k : Nat} {v : Value} {xs : List Value} (h : w.ownsRow B 5 1 v n xs) (hk : v.ownBlock = some k) : B ≤ k ∧ k < w.heap.size := by
  obtain ⟨_, ⟨rfl, _⟩ | ⟨g, c, cur, rfl, hg, hh, _⟩⟩ := h
  · cases hk
  · have e : g = k := by simpa [Value.ownBlock] using hk
    subst e
    exact ⟨hg, (Array.getElem?_eq_some_iff.1 hh).1⟩
theorem own_forms {w : World} {B n : Nat} {v : Value} {xs : List Value} (h : w.ownsRow B 5 1 v n xs) : ∃ a c, v = .slice a n c := by
  rcases Go.Joins.ownsRow_forms h with ⟨rfl, e⟩ | ⟨q, c, rfl⟩
  · exact ⟨none, 0, by rw [e]⟩
  · exact ⟨_, c, rfl⟩
theorem own_take {w : World} {B n L C : Nat} {A : Option Addr} {xs : List Value} (h : w.ownsRow B 5 1 (.slice A L C) L xs) (hn : n ≤ L) : w.ownsRow B 5 1 (.slice A n C) n (xs.take n) := by
  obtain ⟨hl, ⟨e, e0⟩ | ⟨g, c, cur, e, hg, hh, hnc, hcm, hsz, htk⟩⟩ := h
  · cases e
    obtain rfl : n = 0 := by omega
    exact World.ownsRow_nil _ _ _ _
  · cases e
    refine ⟨by simp at hl ⊢; omega, .inr ⟨g, C, cur, rfl, hg, hh, by omega, hcm, hsz, ?_⟩⟩
    rw [← htk, List.take_take]
    congr 1
    simp
    omega
theorem own_cap {w : World} {B L C : Nat} {A : Option Addr} {xs : List Value} (h : w.ownsRow B 5 1 (.slice A L C) L xs) : L ≤ C := by
  obtain ⟨hl, ⟨e, e0⟩ | ⟨g, c, cur, e, hg, hh, hnc, hcm, hsz, htk⟩⟩ := h
  · cases e; omega
  · cases e; exact hnc
theorem own_block {A : Option Addr} {n m C : Nat} : (Value.slice A n C).ownBlock = (Value.slice A m C).ownBlock := by cases A <;> rfl
theorem Fm.lt {w : World} {f : Fi} (h : Fm w f) {k : Nat} (hk : foot f k) : k < w.heap.size := by
  rcases hk with rfl | hk
  · exact cell_lt h.c0
  · exact (own_lt h.own hk).2
theorem Fm.below {w w' : World} {f : Fi} {B : Nat} (h : Fm w f) (b : Below B w w') (hB : w.heap.size ≤ B) : Fm w' f := h.move fun k hk => b.block k (Nat.lt_of_lt_of_le (h.lt hk) hB)
theorem Cs.below {w w' : World} {g B : Nat} {d : St} (h : Cs w g d) (b : Below B w w') (hB : w.heap.size ≤ B) : Cs w' g d := h.of_block (b.block g (Nat.lt_of_lt_of_le (cell_lt h.c0) hB))
theorem own_base {w : World} {B B' n : Nat} {v : Value} {xs : List Value} (h : w.ownsRow B 5 1 v n xs) (hB : B' ≤ B) : w.ownsRow B' 5 1 v n xs := Go.Joins.ownsRow_le h hB
theorem Fm.set01 {w : World} {f : Fi} (h : Fm w f) (v' : Value) (bs' : List Nat) (k : Nat) (own' : w.ownsRow 0 5 1 v' bs'.length (u8s bs')) (hk : k ≤ bs'.length) (hby : ∀ x ∈ bs', x < 256) (ap : v'.ownBlock ≠ some f.blk) :
    Fm ((w.setCell ⟨f.blk, 0, none⟩ v').setCell ⟨f.blk, 1, none⟩ (.int .i64 (k : Nat))) ⟨f.blk, v', bs', k⟩ := by
  refine ⟨(cell_other (by simp)).trans (cell_same h.c0), cell_same (u := .int .i64 (f.syn : Nat)) ((cell_other (by simp)).trans h.c1), by simpa using h.z0, by simpa using h.z1, ?_, hk, hby, ap⟩
  refine own_of_block own' fun j hj => ?_
  have hjb : j ≠ f.blk := fun e => ap (e ▸ hj)
  exact (heap_setCell_ne hjb).trans (heap_setCell_ne hjb)
theorem Fm.set0 {w : World} {f : Fi} (h : Fm w f) (v' : Value) (bs' : List Nat) (own' : w.ownsRow 0 5 1 v' bs'.length (u8s bs')) (hk : f.syn ≤ bs'.length) (hby : ∀ x ∈ bs', x < 256) (ap : v'.ownBlock ≠ some f.blk) :
    Fm (w.setCell ⟨f.blk, 0, none⟩ v') ⟨f.blk, v', bs', f.syn⟩ := by
  refine ⟨cell_same h.c0, (cell_other (by simp)).trans h.c1, by simpa using h.z0, by simpa using h.z1, ?_, hk, hby, ap⟩
  exact own_of_block own' fun j hj => heap_setCell_ne fun e => ap (e ▸ hj)
theorem Fm.set1 {w : World} {f : Fi} (h : Fm w f) (k : Nat) (hk : k ≤ f.bs.length) : Fm (w.setCell ⟨f.blk, 1, none⟩ (.int .i64 (k : Nat))) ⟨f.blk, f.v, f.bs, k⟩ := by
  refine ⟨(cell_other (by simp)).trans h.c0, cell_same h.c1, by simpa using h.z0, by simpa using h.z1, ?_, hk, h.byte, h.apart⟩
  exact own_of_block h.own fun j hj => heap_setCell_ne fun e => h.apart (e ▸ hj)
theorem u8s_take (bs : List Nat) (n : Nat) : (u8s bs).take n = u8s (bs.take n) := by simp [u8s, List.map_take]
end Jd
end Go.Proofs.Ytcjfdebjgaohlaa

/- Names; the disk's small calls. -/
namespace Go.Proofs.Ytcjfdebjgaohlaa
open Go.RowKit Go.Maps Go.ChangeMaps Go.MapKept
namespace Jw
open Jb Jm Jd

def by8 (s : ByteArray) (k : Nat) : Nat := (s.data.toList.getD k 0).toNat
theorem by8_lt (s : ByteArray) (k : Nat) : by8 s k < 256 := UInt8.toNat_lt _
def good (s : ByteArray) (k : Nat) : Bool := decide (32 ≤ by8 s k) && decide (by8 s k ≠ 127)
/-- A name. -/
def isNm (s : ByteArray) : Bool := decide (1 ≤ s.size ∧ s.size ≤ 64 ∧ ∀ k, k < s.size → good s k = true)
theorem idx (w : World) (s : ByteArray) (k : Nat) (hk : k < s.size) : (Instr.index 9 (.string s) (.int .i64 (k : Nat))).run Try.prog w = .ok (.int .u8 (by8 s k : Nat)) w := by
  rw [run_index_string w 9 s .i64 k Try.underlying9, dif_pos ⟨by omega, by omega⟩]
  have h1 : k < s.data.toList.length := by simpa using hk
  have e : by8 s k = (s[k]'hk).toNat := by
    unfold by8
    rw [List.getD_eq_getElem?_getD, List.getElem?_eq_getElem h1]
    simp
    rfl
  rw [e]
  rfl
set_option maxRecDepth 100000 in
/-- The program's test of names. -/
theorem isName39 (w : World) (s : ByteArray) (hs : s.size ≤ 140737488355328) : Calls Try.prog 34 #[.string s] w fun e w' => e = .returned (.bool (isNm s)) ∧ w' = w := by
  obtain ⟨A, hA⟩ : ∃ A, A = isNm s := ⟨_, rfl⟩
  rw [← hA]
  have hq := fun (y : World) (k : Nat) (hk : k < s.size) => idx y s k hk
  have HQ := Lib.hid hq
  have HA := Lib.hid hA
  obtain ⟨n, hn⟩ : ∃ n, n = s.size := ⟨_, rfl⟩
  have hlen : ∀ (ty : TypeId) (y : World), (Builtin.len_ #[9] ty #[.string s]).run Try.prog y = .ok (.int .i64 (n : Nat)) y := fun ty y => by rw [hn]; exact run_len_string y 9 ty s Try.underlying9
  rw [← hn] at hs
  have HN := Lib.hid hn
  clear hA hq hn
  by_cases h0 : n = 0
  · have e1 : A = false := by rw [HA.out, isNm]; apply decide_eq_false; rintro ⟨a, -⟩; have := HN.out; omega
    subst h0 e1
    go_enter Try.func34, Try.ntmps34
    go_wp2_with fail
    go_ret
    trivial
  have d1 : decide ((n : Int) < 1) = false := decide_eq_false (by omega)
  by_cases h1 : 64 < n
  · have e1 : A = false := by rw [HA.out, isNm]; apply decide_eq_false; rintro ⟨-, a, -⟩; have := HN.out; omega
    have d2 : decide ((n : Int) > 64) = true := decide_eq_true (by omega)
    subst e1
    clear h0 h1
    go_enter Try.func34, Try.ntmps34
    go_wp2_with fail
    go_ret
    trivial
  have d2 : decide ((n : Int) > 64) = false := decide_eq_false (by omega)
  have HN0 := Lib.hid h0
  have HN1 := Lib.hid h1
  clear h0 h1
  go_enter Try.func34, Try.ntmps34
  go_wp2_with fail
  go_loopw [3, 14] (fun _ i wr => ∃ k, k ≤ n ∧ i = .int .i64 (k : Nat) ∧ (∀ j, j < k → good s j = true) ∧ wr = w) (fun _ i _ => n - (intOf i).toNat)
  case atStart => exact ⟨0, Nat.zero_le _, rfl, fun j hj => by omega, by first | rfl | trivial⟩
  case round =>
    obtain ⟨k, hk, rfl, hall, rfl⟩ := hrel
    have HALL := Lib.hid hall
    clear hall
    by_cases hkn : k < n
    · have hi := fun (y : World) => HQ.out y k (by rw [← HN.out]; exact hkn)
      obtain ⟨b, hb⟩ : ∃ b, b = by8 s k := ⟨_, rfl⟩
      have hbl := by8_lt s k
      rw [← hb] at hi hbl
      have HB := Lib.hid hb
      clear hb
      by_cases hf : 32 ≤ b ∧ b ≠ 127
      · obtain ⟨f1, f2⟩ := hf
        have HG : good s k = true := by unfold good; rw [← HB.out, decide_eq_true f1, decide_eq_true f2]; rfl
        have q1 : decide ((b : Int) < 32) = false := decide_eq_false (by omega)
        have q2 : ((b : Int) == 127) = false := by simp; omega
        go_wp2_with fail
        go_roundw
        case rel =>
          refine ⟨k + 1, by omega, by go_num, fun j hj => ?_, by first | rfl | trivial⟩
          by_cases e : j = k
          · rw [e]; exact HG
          · exact HALL.out j (by omega)
        case measure => simp [intOf]; omega
      · have e1 : A = false := by
          rw [HA.out, isNm]
          apply decide_eq_false
          rintro ⟨-, -, a⟩
          have := a k (by rw [← HN.out]; exact hkn)
          unfold good at this
          rw [← HB.out] at this
          simp at this
          exact hf this
        by_cases f1 : b < 32
        · have q1 : decide ((b : Int) < 32) = true := decide_eq_true (by omega)
          clear hf f1
          subst e1
          go_wp2_with fail
          go_ret
          trivial
        · have q1 : decide ((b : Int) < 32) = false := decide_eq_false (by omega)
          have q2 : ((b : Int) == 127) = true := by simp; omega
          clear hf f1
          subst e1
          go_wp2_with fail
          go_ret
          trivial
    · obtain rfl : k = n := by omega
      have e1 : A = true := by
        rw [HA.out, isNm]
        apply decide_eq_true
        have a := HN.out
        have b := HN0.out
        have c := HN1.out
        exact ⟨by omega, by omega, fun j hj => HALL.out j (by omega)⟩
      subst e1
      clear hkn
      go_wp2_with fail
      go_ret
      trivial
end Jw
end Go.Proofs.Ytcjfdebjgaohlaa

/- The disk's calls that look at its numbers alone. -/
namespace Go.Proofs.Ytcjfdebjgaohlaa
open Go.RowKit Go.Maps Go.ChangeMaps Go.MapKept
namespace Jx
open Jb Jm Jd Jw

set_option maxRecDepth 100000
theorem down24 (w : World) (g : Nat) (d : St) (h : Cs w g d) : Calls Try.prog 29 #[.pointer (some ⟨g, 0, none⟩)] w fun e w' => e = .returned (.bool d.down) ∧ w' = w := by
  have c5 := h.c5
  clear h
  go_enter Try.func29, Try.ntmps29
  go_wp2_with fail
  go_ret
  trivial
theorem down24_nil (w : World) : Calls Try.prog 29 #[.pointer none] w fun e w' => e = .returned (.bool true) ∧ w' = w := by
  go_enter Try.func29, Try.ntmps29
  go_wp2_with fail
  go_ret
  trivial
theorem used19 (w : World) (g : Nat) (d : St) (h : Cs w g d) : Calls Try.prog 10 #[.pointer (some ⟨g, 0, none⟩)] w fun e w' => e = .returned (.int .i64 (d.used : Nat)) ∧ w' = w := by
  have c1 := h.c1
  clear h
  go_enter Try.func10, Try.ntmps10
  go_wp2_with fail
  go_ret
  trivial
theorem used19_nil (w : World) : Calls Try.prog 10 #[.pointer none] w fun e w' => e = .returned (.int .i64 0) ∧ w' = w := by
  go_enter Try.func10, Try.ntmps10
  go_wp2_with fail
  go_ret
  trivial
def opD (d : St) : St := if d.fused then (if d.fuse = 0 then { d with down := true } else { d with fuse := d.fuse - 1 }) else d
def opE (d : St) : Nat := if d.fused = true ∧ d.fuse = 0 then 8 else 0
theorem opD_fv (d : St) : (opD d).fv = d.fv := by unfold opD; split; split <;> rfl; rfl
theorem opD_F (d : St) : (opD d).F = d.F := by unfold opD; split; split <;> rfl; rfl
theorem operate40 (w : World) (g : Nat) (d : St) (h : Cs w g d) : Calls Try.prog 35 #[.pointer (some ⟨g, 0, none⟩)] w fun e w' => e = .returned (.int .i64 (opE d : Nat)) ∧ Cs w' g (opD d) ∧ Chg w w' (fun k => k = g) := by
  have c3 := h.c3
  have c4 := h.c4
  have c5 := h.c5
  have z4 := h.z 4
  have z5 := h.z 5
  have bf := h.bf
  have H := Lib.hid h
  clear h
  by_cases hf : d.fused = true
  · rw [hf] at c3
    by_cases h0 : d.fuse = 0
    · have e1 : opE d = 8 := if_pos ⟨hf, h0⟩
      have e2 : opD d = { d with down := true } := by unfold opD; rw [if_pos hf, if_pos h0]
      rw [e1, e2]
      replace c4 : w.cell? ⟨g, 4, none⟩ = some (.int .i64 0) := by rw [c4, h0]; rfl
      clear hf h0 e1 e2 bf
      go_enter Try.func35, Try.ntmps35
      go_wp2_with fail
      go_ret
      exact ⟨rfl, H.out.set5 true, (Chg.refl w (fun k => k = g)).setCell rfl _⟩
    · have e1 : opE d = 0 := if_neg (fun x => h0 x.2)
      obtain ⟨k, hk⟩ : ∃ k, d.fuse = k + 1 := ⟨d.fuse - 1, by omega⟩
      have e2 : opD d = { d with fuse := k } := by unfold opD; rw [if_pos hf, if_neg h0, hk]; rfl
      rw [e1, e2]
      rw [hk] at c4 bf
      have q : (((k + 1 : Nat) : Int) == 0) = false := by simp; omega
      have q2 : IntKind.i64.wrap (((k + 1 : Nat) : Int) - 1) = (k : Nat) := by rw [IntKind.wrap_i64]; omega
      clear hf h0 e1 e2 hk
      go_enter Try.func35, Try.ntmps35
      go_wp2_with fail
      go_ret
      exact ⟨rfl, H.out.set4 k (by omega), (Chg.refl w (fun k => k = g)).setCell rfl _⟩
  · have hf' : d.fused = false := by simpa using hf
    have e1 : opE d = 0 := if_neg (fun x => hf x.1)
    have e2 : opD d = d := if_neg hf
    rw [e1, e2]
    rw [hf'] at c3
    clear hf hf' e1 e2
    go_enter Try.func35, Try.ntmps35
    go_wp2_with fail
    go_ret
    exact ⟨rfl, H.out, Chg.refl w _⟩
theorem setRoom20 (w : World) (g : Nat) (d : St) (n : Int) (hn : -9223372036854775808 ≤ n ∧ n ≤ 9223372036854775807) (h : Cs w g d) :
    Calls Try.prog 12 #[.pointer (some ⟨g, 0, none⟩), .int .i64 n] w fun e w' => e = .returned (.tuple #[]) ∧ Cs w' g { d with room := n.toNat } ∧ Chg w w' (fun k => k = g) := by
  have c2 := h.c2
  have z2 := h.z 2
  have H := Lib.hid h
  clear h
  obtain ⟨m, hme⟩ : ∃ m, m = n.toNat := ⟨_, rfl⟩
  have hm : ∀ (ty : TypeId) (y : World), (Builtin.max_ #[3, 3] ty #[.int .i64 n, .int .i64 0]).run Try.prog y = .ok (.int .i64 (m : Nat)) y := by
    intro ty y
    rw [run_max_int2]
    have e : (if (0 : Int) > n then 0 else n) = (m : Nat) := by split <;> omega
    rw [e]
  rw [← hme]
  have hmb : m ≤ 9223372036854775807 := by omega
  have HMB := Lib.hid hmb
  clear hme hmb
  go_enter Try.func12, Try.ntmps12
  go_wp2_with fail
  refine bodyPost_end (v := .tuple #[]) (by simp [results, Try.results12, go_sem]) rfl ⟨rfl, H.out.set2 _ HMB.out, (Chg.refl w (fun k => k = g)).setCell rfl _⟩
theorem setRoom20_nil (w : World) (n : Int) : Calls Try.prog 12 #[.pointer none, .int .i64 n] w fun e w' => e = .returned (.tuple #[]) ∧ w' = w := by
  go_enter Try.func12, Try.ntmps12
  go_wp2_with fail
  refine bodyPost_ret (v := .tuple #[]) (by simp [results, Try.results12, go_sem]) rfl ⟨rfl, rfl⟩
theorem setFuse21 (w : World) (g : Nat) (d : St) (n : Int) (hn : -9223372036854775808 ≤ n ∧ n ≤ 9223372036854775807) (h : Cs w g d) :
    Calls Try.prog 22 #[.pointer (some ⟨g, 0, none⟩), .int .i64 n] w fun e w' => e = .returned (.tuple #[]) ∧ Cs w' g { d with fused := decide (0 ≤ n), fuse := n.toNat } ∧ Chg w w' (fun k => k = g) := by
  have c3 := h.c3
  have z3 := h.z 3
  have c4 := h.c4
  have z4 := h.z 4
  have H := Lib.hid h
  clear h
  obtain ⟨m, hme⟩ : ∃ m, m = n.toNat := ⟨_, rfl⟩
  have hm : ∀ (ty : TypeId) (y : World), (Builtin.max_ #[3, 3] ty #[.int .i64 n, .int .i64 0]).run Try.prog y = .ok (.int .i64 (m : Nat)) y := by
    intro ty y
    rw [run_max_int2]
    have e : (if (0 : Int) > n then 0 else n) = (m : Nat) := by split <;> omega
    rw [e]
  rw [← hme]
  have hmb : m ≤ 9223372036854775807 := by omega
  have HMB := Lib.hid hmb
  clear hme hmb
  go_enter Try.func22, Try.ntmps22
  go_wp2_with fail
  refine bodyPost_end (v := .tuple #[]) (by simp [results, Try.results22, go_sem]) rfl ⟨rfl, (H.out.set3 _).set4 _ HMB.out, ((Chg.refl w (fun k => k = g)).setCell rfl _).setCell rfl _⟩
theorem setFuse21_nil (w : World) (n : Int) : Calls Try.prog 22 #[.pointer none, .int .i64 n] w fun e w' => e = .returned (.tuple #[]) ∧ w' = w := by
  go_enter Try.func22, Try.ntmps22
  go_wp2_with fail
  refine bodyPost_ret (v := .tuple #[]) (by simp [results, Try.results22, go_sem]) rfl ⟨rfl, rfl⟩
/-- A disk without files. -/
def st0 (room : Nat) : St := ⟨.map none, fun _ => none, 0, room, false, 0, false⟩
theorem new_cell (w : World) (vs : Array Value) (t : TypeId) (i : Nat) (v : Value) (h : vs[i]? = some v) : (w.alloc (.cells vs t)).cell? ⟨w.heap.size, i, none⟩ = some v := by
  rw [cell_of_row _ _ _ _ _ _ (heap_alloc_new _ _)]; exact h
theorem new9 (w : World) (n : Int) (hn : -9223372036854775808 ≤ n ∧ n ≤ 9223372036854775807) :
    Calls Try.prog 5 #[.int .i64 n] w fun e w' => e = .returned (.pointer (some ⟨w.heap.size, 0, none⟩)) ∧ Dk w' (fun k => w.heap.size ≤ k ∧ k < w'.heap.size) w.heap.size 0 (st0 n.toNat) ∧ Below w.heap.size w w' := by
  go_enter Try.func5, Try.ntmps5
  have C0 : ∀ (w : World), Cs (w.alloc (.cells #[.map none, .int .i64 0, .int .i64 0, .bool false, .int .i64 0, .bool false] 41)) w.heap.size (st0 0) := fun w =>
    ⟨new_cell _ _ _ 0 _ rfl, new_cell _ _ _ 1 _ rfl, new_cell _ _ _ 2 _ rfl, new_cell _ _ _ 3 _ rfl, new_cell _ _ _ 4 _ rfl, new_cell _ _ _ 5 _ rfl, fun i => frozen_of_row _ _ _ _ _ (heap_alloc_new _ _), by simp [st0], by simp [st0], by simp [st0]⟩
  go_wp2_with (go_at_call 12; refine (setRoom20 _ _ (st0 0) n hn (C0 w)).mono ?_; rintro e w' ⟨rfl, k1, k2⟩)
  go_ret
  have hs := k2.size
  simp at hs
  refine ⟨rfl, ⟨k1, ⟨by omega, by omega⟩, fun k hk => hk.2, .inl ⟨rfl, fun s => rfl⟩, ?_, ?_, ?_⟩, ?_⟩
  · intro m e; simp [st0] at e
  · intro s f e; simp [st0] at e
  · intro s s' f f' _ e; simp [st0] at e
  exact ((Below.refl _ w).alloc (Nat.le_refl _) _).trans (k2.below (fun k hk _ => by omega) (by simp))
theorem find42_nil (w : World) (s : ByteArray) : Calls Try.prog 37 #[.pointer none, .string s] w fun e w' => e = .returned (.tuple #[.pointer none, .int .i64 8]) ∧ w' = w := by
  go_enter Try.func37, Try.ntmps37
  go_wp2_with (go_at_call 29; refine (down24_nil _).mono ?_; rintro e w' ⟨rfl, rfl⟩)
  refine bodyPost_ret (v := .tuple #[.pointer none, .int .i64 8]) (by simp [results, Try.results37, go_sem]) rfl ⟨rfl, rfl⟩
theorem find42_down (w : World) (g : Nat) (s : ByteArray) (d : St) (h : Cs w g d) (hd : d.down = true) : Calls Try.prog 37 #[.pointer (some ⟨g, 0, none⟩), .string s] w fun e w' => e = .returned (.tuple #[.pointer none, .int .i64 8]) ∧ w' = w := by
  have D := down24 w g d h
  rw [hd] at D
  have DD := Lib.hid D
  clear D h hd
  go_enter Try.func37, Try.ntmps37
  go_wp2_with (go_at_call 29; refine (DD.out).mono ?_; rintro e w' ⟨rfl, rfl⟩)
  refine bodyPost_ret (v := .tuple #[.pointer none, .int .i64 8]) (by simp [results, Try.results37, go_sem]) rfl ⟨rfl, rfl⟩
theorem find42_none (w : World) (S : Nat → Prop) (g N : Nat) (s : ByteArray) (hs : s.size ≤ maxLen) (d : St) (h : Dk w S g N d) (hd : d.down = false) (hF : d.F s = none) :
    Calls Try.prog 37 #[.pointer (some ⟨g, 0, none⟩), .string s] w fun e w' => e = .returned (.tuple #[.pointer none, .int .i64 6]) ∧ w' = w := by
  have D := down24 w g d h.cs
  rw [hd] at D
  have DD := Lib.hid D
  have c0 := h.cs.c0
  have hl := h.look hs
  rw [hF] at hl
  simp only [pt, Option.map_none] at hl
  clear D h hd
  go_enter Try.func37, Try.ntmps37
  go_wp2_with (go_at_call 29; refine (DD.out).mono ?_; rintro e w' ⟨rfl, rfl⟩)
  refine bodyPost_ret (v := .tuple #[.pointer none, .int .i64 6]) (by simp [results, Try.results37, go_sem]) rfl ⟨rfl, rfl⟩
theorem find42_some (w : World) (S : Nat → Prop) (g N : Nat) (s : ByteArray) (hs : s.size ≤ maxLen) (d : St) (h : Dk w S g N d) (hd : d.down = false) (f : Fi) (hF : d.F s = some f) :
    Calls Try.prog 37 #[.pointer (some ⟨g, 0, none⟩), .string s] w fun e w' => e = .returned (.tuple #[.pointer (some ⟨f.blk, 0, none⟩), .int .i64 0]) ∧ w' = w := by
  have D := down24 w g d h.cs
  rw [hd] at D
  have DD := Lib.hid D
  have c0 := h.cs.c0
  have hl := h.look hs
  rw [hF] at hl
  simp only [pt, Option.map_some] at hl
  clear D h hd
  go_enter Try.func37, Try.ntmps37
  go_wp2_with (go_at_call 29; refine (DD.out).mono ?_; rintro e w' ⟨rfl, rfl⟩)
  refine bodyPost_ret (v := .tuple #[.pointer (some ⟨f.blk, 0, none⟩), .int .i64 0]) (by simp [results, Try.results37, go_sem]) rfl ⟨rfl, rfl⟩
end Jx
end Go.Proofs.Ytcjfdebjgaohlaa
