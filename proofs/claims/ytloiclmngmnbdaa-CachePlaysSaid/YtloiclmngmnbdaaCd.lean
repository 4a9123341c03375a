/- A cache in memory. -/
import Derived.Test.YtloiclmngmnbdaaCt
namespace Go.Proofs.Ytloiclmngmnbdaa
open Go.RowKit Go.Maps Go.ChangeMaps Go.MapKept
namespace Cd
open Jb Ca Ck Ct

/-- Only blocks of S have turned; blocks may have come. -/
structure Chg (w w' : World) (S : Nat → Prop) : Prop where
  os : w'.os = w.os
  tape : w'.tape = w.tape
  output : w'.output = w.output
  size : w.heap.size ≤ w'.heap.size
  block : ∀ k, k < w.heap.size → ¬ S k → w'.heap[k]? = w.heap[k]?
theorem Chg.refl (w : World) (S : Nat → Prop) : Chg w w S := ⟨rfl, rfl, rfl, Nat.le_refl _, fun _ _ _ => rfl⟩
theorem Chg.trans {a b c : World} {S S' : Nat → Prop} (h : Chg a b S) (k : Chg b c S') (f : ∀ k, S' k → k < a.heap.size → S k) : Chg a c S :=
  ⟨k.os.trans h.os, k.tape.trans h.tape, k.output.trans h.output, Nat.le_trans h.size k.size, fun i hi hg => (k.block i (Nat.lt_of_lt_of_le hi h.size) (fun e => hg (f i e hi))).trans (h.block i hi hg)⟩
theorem Chg.imp {a b : World} {S S' : Nat → Prop} (h : Chg a b S) (f : ∀ k, S k → k < a.heap.size → S' k) : Chg a b S' := ⟨h.os, h.tape, h.output, h.size, fun k hk hS => h.block k hk (fun e => hS (f k e hk))⟩
theorem Chg.drewN {a b : World} {S : Nat → Prop} (h : Chg a b S) (n : Nat) : Chg a (b.drewN n) S := ⟨h.os, h.tape, h.output, h.size, h.block⟩
theorem Chg.drew {a b : World} {S : Nat → Prop} (h : Chg a b S) : Chg a b.drew S := ⟨h.os, h.tape, h.output, h.size, h.block⟩
theorem Chg.setCell {a b : World} {S : Nat → Prop} (h : Chg a b S) {g i : Nat} (hg : S g) (v : Value) : Chg a (b.setCell ⟨g, i, none⟩ v) S :=
  ⟨h.os, h.tape, h.output, by simpa using h.size, fun k hk hS => by rw [heap_setCell_other _ _ _ _ (show k ≠ g from fun e => hS (e ▸ hg))]; exact h.block k hk hS⟩
theorem Chg.turned {a b c : World} {S : Nat → Prop} {m : Nat} (h : Chg a b S) (hg : S m) (t : b.mapTurned c m) : Chg a c S := by
  have k := t.grown
  exact ⟨k.os.trans h.os, k.tape.trans h.tape, k.output.trans h.output, Nat.le_trans h.size k.size, fun i hi hS => (k.block i (Nat.lt_of_lt_of_le hi h.size) (fun e => hS (by cases e; exact hg))).trans (h.block i hi hS)⟩
theorem Chg.alloc {a b : World} {S : Nat → Prop} (h : Chg a b S) (o : Obj) : Chg a (b.alloc o) S :=
  ⟨h.os, h.tape, h.output, by simpa using Nat.le_succ_of_le h.size, fun k hk hS => (Below.heap_alloc b o k (Nat.lt_of_lt_of_le hk h.size)).trans (h.block k hk hS)⟩
theorem Chg.of_below {a b : World} {B : Nat} (h : Below B a b) (hB : a.heap.size ≤ B) (S : Nat → Prop) : Chg a b S := ⟨h.os, h.tape, h.output, h.size, fun k hk _ => h.block k (by omega)⟩
theorem Chg.of_grown {a b : World} {r : Option Nat} (h : a.grownBy b r) (S : Nat → Prop) (hr : ∀ k, r = some k → k < a.heap.size → S k) : Chg a b S :=
  ⟨h.os, h.tape, h.output, h.size, fun k hk hS => h.block k hk (fun e => hS (hr k e.symm hk))⟩
theorem Chg.below {a b : World} {S : Nat → Prop} {B : Nat} (h : Chg a b S) (hB : ∀ k, S k → k < a.heap.size → B ≤ k) (hs : B ≤ a.heap.size) : Below B a b :=
  ⟨h.os, h.tape, h.output, h.size, fun k hk => h.block k (by omega) (fun e => by have := hB k e (by omega); omega)⟩

/-- What stood in S, and what is new. -/
def New (S : Nat → Prop) (w w' : World) (k : Nat) : Prop := S k ∨ (w.heap.size ≤ k ∧ k < w'.heap.size)


theorem own_of_block {w w' : World} {B n k : Nat} {t : TypeId} {v : Value} {xs : List Value} (h : w.ownsRow B t k v n xs) (f : ∀ k, v.ownBlock = some k → w'.heap[k]? = w.heap[k]?) : w'.ownsRow B t k v n xs := by
  obtain ⟨a, ⟨b, e⟩ | ⟨g, c, cur, rfl, hg, hh, r⟩⟩ := h
  · exact ⟨a, .inl ⟨b, e⟩⟩
  · exact ⟨a, .inr ⟨g, c, cur, rfl, hg, (f g rfl).trans hh, r⟩⟩
theorem own_lt {w : World} {B n k i : Nat} {t : TypeId} {v : Value} {xs : List Value} (h : w.ownsRow B t k v n xs) (hk : v.ownBlock = some i) : B ≤ i ∧ i < w.heap.size := by
  obtain ⟨_, ⟨rfl, _⟩ | ⟨g, c, cur, rfl, hg, hh, _⟩⟩ := h
  · cases hk
  · have e : g = i := by simpa [Value.ownBlock] using hk
    subst e
    exact ⟨hg, (Array.getElem?_eq_some_iff.1 hh).1⟩
theorem own_base {w : World} {B B' n k : Nat} {t : TypeId} {v : Value} {xs : List Value} (h : w.ownsRow B t k v n xs) (hB : B' ≤ B) : w.ownsRow B' t k v n xs := Go.Joins.ownsRow_le h hB

/-- A column: its block, its pieces' slice, its piece; the points. -/
structure Co where
  blk : Nat
  pv : Value
  sv : Value
  L : List Pnt
def foot (c : Co) (k : Nat) : Prop := k = c.blk ∨ c.pv.ownBlock = some k ∨ c.sv.ownBlock = some k
structure Cm (w : World) (c : Co) : Prop where
  c0 : w.cell? ⟨c.blk, 0, none⟩ = some c.pv
  z0 : w.frozen? ⟨c.blk, 0, none⟩ = false
  own1 : w.ownsRow 0 43 1 c.pv 1 [c.sv]
  own2 : w.ownsRow 0 32 4 c.sv c.L.length (pcs c.L)
  ne : c.L ≠ []
  wp : ∀ x ∈ c.L, Wp x
  rise : Rise c.L
  a1 : c.pv.ownBlock ≠ some c.blk
  a2 : c.sv.ownBlock ≠ some c.blk
  a3 : c.pv.ownBlock ≠ c.sv.ownBlock
theorem Cm.move {w w' : World} {f : Co} (h : Cm w f) (e : ∀ k, foot f k → w'.heap[k]? = w.heap[k]?) : Cm w' f := by
  have eb := e f.blk (.inl rfl)
  exact ⟨(World.cell?_of_block eb).trans h.c0, (World.frozen?_of_block eb).trans h.z0, own_of_block h.own1 (fun k hk => e k (.inr (.inl hk))), own_of_block h.own2 (fun k hk => e k (.inr (.inr hk))), h.ne, h.wp, h.rise, h.a1, h.a2, h.a3⟩
theorem Cm.lt {w : World} {f : Co} (h : Cm w f) {k : Nat} (hk : foot f k) : k < w.heap.size := by
  rcases hk with rfl | hk | hk
  · exact cell_lt h.c0
  · exact (own_lt h.own1 hk).2
  · exact (own_lt h.own2 hk).2
theorem Cm.below {w w' : World} {f : Co} {B : Nat} (h : Cm w f) (b : Below B w w') (hB : w.heap.size ≤ B) : Cm w' f := h.move fun k hk => b.block k (Nat.lt_of_lt_of_le (h.lt hk) hB)
/-- The pieces' slice and the piece, written out. -/
theorem Cm.forms {w : World} {f : Co} (h : Cm w f) : ∃ p pc s sc, f.pv = .slice (some ⟨p, 0, none⟩) 1 pc ∧ 1 ≤ pc ∧ f.sv = .slice (some ⟨s, 0, none⟩) f.L.length sc ∧ f.L.length ≤ sc ∧ sc ≤ maxLen ∧ pc ≤ maxLen ∧ p ≠ f.blk ∧ s ≠ f.blk ∧ p ≠ s := by
  have h1 := h.own1
  have h2 := h.own2
  have hl : 0 < f.L.length := List.length_pos_iff.2 h.ne
  have a1 := h.a1
  have a2 := h.a2
  have a3 := h.a3
  obtain ⟨_, ⟨_, e⟩ | ⟨p, pc, cur, e1, hg, hh, hnc, hcm, hsz, htk⟩⟩ := h1
  · omega
  obtain ⟨_, ⟨_, e⟩ | ⟨s, sc, cur', e2, hg', hh', hnc', hcm', hsz', htk'⟩⟩ := h2
  · omega
  rw [e1] at a1 a3
  rw [e2] at a2 a3
  refine ⟨p, pc, s, sc, e1, hnc, e2, hnc', hcm', hcm, fun e => a1 (by rw [e]; rfl), fun e => a2 (by rw [e]; rfl), fun e => a3 (by rw [e]; rfl)⟩

/-- The cache: its numbers, its map, its columns. -/
structure St where
  most : Nat
  size : Nat
  fv : Value
  F : Ky → Option Co
structure Cs (w : World) (g : Nat) (d : St) : Prop where
  c0 : w.cell? ⟨g, 0, none⟩ = some (.int .i64 (d.most : Nat))
  c1 : w.cell? ⟨g, 1, none⟩ = some (.int .i64 (d.size : Nat))
  c2 : w.cell? ⟨g, 2, none⟩ = some d.fv
  z : ∀ i, w.frozen? ⟨g, i, none⟩ = false
  bm : d.most ≤ 9223372036854775807
  bs : d.size ≤ 9223372036854775807
theorem Cs.of_block {w w' : World} {g : Nat} {d : St} (h : Cs w g d) (e : w'.heap[g]? = w.heap[g]?) : Cs w' g d :=
  ⟨(World.cell?_of_block e).trans h.c0, (World.cell?_of_block e).trans h.c1, (World.cell?_of_block e).trans h.c2, fun i => (World.frozen?_of_block e).trans (h.z i), h.bm, h.bs⟩
theorem Cs.set1 {w : World} {g : Nat} {d : St} (h : Cs w g d) (x : Nat) (hx : x ≤ 9223372036854775807) : Cs (w.setCell ⟨g, 1, none⟩ (.int .i64 (x : Nat))) g { d with size := x } :=
  ⟨(cell_other (by simp)).trans h.c0, cell_same h.c1, (cell_other (by simp)).trans h.c2, fun i => by simpa using h.z i, h.bm, hx⟩
theorem Cs.set2 {w : World} {g : Nat} {d : St} (h : Cs w g d) (v : Value) : Cs (w.setCell ⟨g, 2, none⟩ v) g { d with fv := v } :=
  ⟨(cell_other (by simp)).trans h.c0, (cell_other (by simp)).trans h.c1, cell_same h.c2, fun i => by simpa using h.z i, h.bm, h.bs⟩
/-- The cache at block g, its blocks in S, its map of at most N entries. -/
structure Dk (w : World) (S : Nat → Prop) (g N : Nat) (d : St) : Prop where
  cs : Cs w g d
  sg : S g
  lt : ∀ k, S k → k < w.heap.size
  fv : (d.fv = .map none ∧ ∀ s, d.F s = none) ∨ ∃ m, d.fv = .map (some m) ∧ S m ∧ m ≠ g ∧ Is w m N (fun s => (d.F s).map Co.blk)
  mf : ∀ m, d.fv = .map (some m) → ∀ s f, d.F s = some f → ¬ foot f m
  fm : ∀ s f, d.F s = some f → Cm w f ∧ ¬ foot f g ∧ ∀ k, foot f k → S k
  ap : ∀ s s' f f', s ≠ s' → d.F s = some f → d.F s' = some f' → ∀ k, foot f k → ¬ foot f' k
theorem Dk.move {w w' : World} {S : Nat → Prop} {g N : Nat} {d : St} (h : Dk w S g N d) (hs : w.heap.size ≤ w'.heap.size) (e : ∀ k, S k → w'.heap[k]? = w.heap[k]?) : Dk w' S g N d := by
  refine ⟨h.cs.of_block (e g h.sg), h.sg, fun k hk => Nat.lt_of_lt_of_le (h.lt k hk) hs, ?_, h.mf, fun s f hf => ?_, h.ap⟩
  · rcases h.fv with a | ⟨m, a, b, c, i⟩
    · exact .inl a
    · exact .inr ⟨m, a, b, c, i.of_block (e m b)⟩
  · obtain ⟨a, b, c⟩ := h.fm s f hf
    exact ⟨a.move fun k hk => e k (c k hk), b, c⟩
theorem Dk.below {w w' : World} {S : Nat → Prop} {g N B : Nat} {d : St} (h : Dk w S g N d) (b : Below B w w') (hB : w.heap.size ≤ B) : Dk w' S g N d :=
  h.move b.size fun k hk => b.block k (Nat.lt_of_lt_of_le (h.lt k hk) hB)
theorem Dk.chg {w w' : World} {S T : Nat → Prop} {g N : Nat} {d : St} (h : Dk w S g N d) (b : Chg w w' T) (hB : ∀ k, S k → ¬ T k) : Dk w' S g N d :=
  h.move b.size fun k hk => b.block k (h.lt k hk) (hB k hk)
/-- Another set, that has it all. -/
theorem Dk.set {w : World} {S S' : Nat → Prop} {g N : Nat} {d : St} (h : Dk w S g N d) (f : ∀ k, S k → S' k) (hl : ∀ k, S' k → k < w.heap.size) : Dk w S' g N d := by
  refine ⟨h.cs, f g h.sg, hl, ?_, h.mf, fun s x hx => ?_, h.ap⟩
  · rcases h.fv with a | ⟨m, a, b, r⟩
    · exact .inl a
    · exact .inr ⟨m, a, f m b, r⟩
  · obtain ⟨a, b, c⟩ := h.fm s x hx
    exact ⟨a, b, fun k hk => f k (c k hk)⟩
/-- The numbers alone have turned. -/
theorem Dk.nums {w w' : World} {S : Nat → Prop} {g N : Nat} {d d' : St} (h : Dk w S g N d) (c : Chg w w' (fun k => k = g)) (hc : Cs w' g d') (e1 : d'.fv = d.fv) (e2 : d'.F = d.F) : Dk w' S g N d' := by
  have hb : ∀ k, S k → k ≠ g → w'.heap[k]? = w.heap[k]? := fun k hk hn => c.block k (h.lt k hk) hn
  refine ⟨hc, h.sg, fun k hk => Nat.lt_of_lt_of_le (h.lt k hk) c.size, ?_, ?_, fun s f hf => ?_, ?_⟩
  · rw [e1, e2]
    rcases h.fv with a | ⟨m, a, b, n, i⟩
    · exact .inl a
    · exact .inr ⟨m, a, b, n, i.of_block (hb m b n)⟩
  · rw [e1, e2]; exact h.mf
  · rw [e2] at hf
    obtain ⟨a, b, r⟩ := h.fm s f hf
    exact ⟨a.move fun k hk => hb k (r k hk) (fun e => b (e ▸ hk)), b, r⟩
  · rw [e2]; exact h.ap
/-- One file has turned, within its own blocks and new ones, and the numbers. -/
theorem Dk.file {w w' : World} {S : Nat → Prop} {g N : Nat} {d d' : St} (h : Dk w S g N d) {n : Ky} {f f' : Co} (hf : d.F n = some f) (c : Chg w w' (fun k => k = g ∨ foot f k)) (hc : Cs w' g d') (e1 : d'.fv = d.fv)
    (e2 : d'.F = fun s => if s = n then some f' else d.F s) (eb : f'.blk = f.blk) (hm : Cm w' f') (hft : ∀ k, foot f' k → foot f k ∨ (w.heap.size ≤ k ∧ k < w'.heap.size)) :
    Dk w' (New S w w') g N d' := by
  obtain ⟨m0, g0, s0⟩ := h.fm n f hf
  have gl := h.lt g h.sg
  have hb : ∀ k, S k → k ≠ g → ¬ foot f k → w'.heap[k]? = w.heap[k]? := fun k hk hn hk2 => c.block k (h.lt k hk) (fun e => e.elim hn hk2)
  refine ⟨hc, .inl h.sg, fun k hk => ?_, ?_, ?_, ?_, ?_⟩
  · rcases hk with hk | hk
    · exact Nat.lt_of_lt_of_le (h.lt k hk) c.size
    · exact hk.2
  · rw [e1, e2]
    rcases h.fv with ⟨_, a⟩ | ⟨m, a, b, x, i⟩
    · rw [a n] at hf; cases hf
    · refine .inr ⟨m, a, .inl b, x, (i.of_block (hb m b x (h.mf m a n f hf))).ext fun s => ?_⟩
      dsimp only
      by_cases e : s = n
      · subst e; simp [hf, eb]
      · simp [e]
  · rw [e1, e2]
    intro m a s x hx
    dsimp only at hx
    by_cases e : s = n
    · rw [if_pos e] at hx
      cases hx
      intro hk
      rcases hft m hk with hk | hk
      · exact h.mf m a n f hf hk
      · rcases h.fv with ⟨a', _⟩ | ⟨m', a', b, _⟩
        · rw [a] at a'; cases a'
        · rw [a] at a'; cases a'
          have := h.lt m b; omega
    · rw [if_neg e] at hx; exact h.mf m a s x hx
  · rw [e2]
    intro s x hx
    dsimp only at hx
    by_cases e : s = n
    · rw [if_pos e] at hx
      cases hx
      refine ⟨hm, fun hk => ?_, fun k hk => ?_⟩
      · rcases hft g hk with hk | hk
        · exact g0 hk
        · omega
      · exact (hft k hk).imp (s0 k) id
    · rw [if_neg e] at hx
      obtain ⟨a, b, r⟩ := h.fm s x hx
      exact ⟨a.move fun k hk => hb k (r k hk) (fun e' => b (e' ▸ hk)) (fun hk2 => h.ap s n x f e hx hf k hk hk2), b, fun k hk => .inl (r k hk)⟩
  · rw [e2]
    intro s s' x x' hne hx hx' k hk hk'
    dsimp only at hx hx'
    by_cases e : s = n
    · rw [if_pos e] at hx
      cases hx
      rw [if_neg (fun e' => hne (e.trans e'.symm))] at hx'
      rcases hft k hk with hk | hk
      · exact h.ap n s' f x' (fun e' => hne (e.trans e')) hf hx' k hk hk'
      · have := h.lt k ((h.fm s' x' hx').2.2 k hk'); omega
    · rw [if_neg e] at hx
      by_cases e' : s' = n
      · rw [if_pos e'] at hx'
        cases hx'
        rcases hft k hk' with hk' | hk'
        · exact h.ap s n x f e hx hf k hk hk'
        · have := h.lt k ((h.fm s x hx).2.2 k hk); omega
      · rw [if_neg e'] at hx'
        exact h.ap s s' x x' hne hx hx' k hk hk'
/-- The map has turned: some files have gone; one may have come, in new blocks; or be called otherwise. -/
theorem Dk.map {w w' : World} {S : Nat → Prop} {g N N' m : Nat} {d d' : St} (h : Dk w S g N d) (hsz : w.heap.size ≤ w'.heap.size) (hc : Cs w' g d') (e1 : d'.fv = .map (some m)) (hm : (d.fv = .map (some m)) ∨ (w.heap.size ≤ m ∧ m < w'.heap.size))
    (hi : Is w' m N' (fun s => (d'.F s).map Co.blk)) (hb : ∀ k, S k → k ≠ g → d.fv ≠ .map (some k) → w'.heap[k]? = w.heap[k]?)
    (hF : ∀ s f, d'.F s = some f → (∃ s0, d.F s0 = some f) ∨ (Cm w' f ∧ ∀ k, foot f k → w.heap.size ≤ k ∧ k < w'.heap.size ∧ k ≠ m))
    (hap : ∀ s s' f f', s ≠ s' → d'.F s = some f → d'.F s' = some f' → (∃ s0 s0', s0 ≠ s0' ∧ d.F s0 = some f ∧ d.F s0' = some f') ∨ (∀ k, foot f k → w.heap.size ≤ k ∧ ¬ foot f' k) ∨ (∀ k, foot f' k → w.heap.size ≤ k ∧ ¬ foot f k)) :
    Dk w' (New S w w') g N' d' := by
  have gl := h.lt g h.sg
  have hmm : ∀ k, d.fv = .map (some k) → S k ∧ k ≠ g := by
    intro k e
    rcases h.fv with ⟨a, _⟩ | ⟨m', a, b, x, _⟩
    · rw [e] at a; cases a
    · rw [e] at a; cases a; exact ⟨b, x⟩
  refine ⟨hc, .inl h.sg, fun k hk => ?_, .inr ⟨m, e1, ?_, ?_, hi⟩, ?_, ?_, ?_⟩
  · rcases hk with hk | hk
    · exact Nat.lt_of_lt_of_le (h.lt k hk) hsz
    · exact hk.2
  · rcases hm with e | e
    · exact .inl (hmm m e).1
    · exact .inr e
  · rcases hm with e | e
    · exact (hmm m e).2
    · omega
  · intro m' e s f hf hk
    rw [e1] at e
    cases e
    rcases hF s f hf with ⟨s0, h0⟩ | ⟨_, h0⟩
    · rcases hm with e | e
      · exact h.mf m e s0 f h0 hk
      · have := h.lt m ((h.fm s0 f h0).2.2 m hk); omega
    · exact (h0 m hk).2.2 rfl
  · intro s f hf
    rcases hF s f hf with ⟨s0, h0⟩ | ⟨a, h0⟩
    · obtain ⟨a, b, r⟩ := h.fm s0 f h0
      exact ⟨a.move fun k hk => hb k (r k hk) (fun e => b (e ▸ hk)) (fun e => h.mf k e s0 f h0 hk), b, fun k hk => .inl (r k hk)⟩
    · exact ⟨a, fun hk => by have := (h0 g hk).1; omega, fun k hk => .inr ⟨(h0 k hk).1, (h0 k hk).2.1⟩⟩
  · intro s s' f f' hne hf hf' k hk hk'
    rcases hap s s' f f' hne hf hf' with ⟨s0, s0', n0, h0, h0'⟩ | h0 | h0
    · exact h.ap s0 s0' f f' n0 h0 h0' k hk hk'
    · exact (h0 k hk).2 hk'
    · exact (h0 k hk').2 hk
theorem Dk.look {w : World} {S : Nat → Prop} {g N : Nat} {d : St} (h : Dk w S g N d) {s : Ky} (hs : ok s) :
    (Instr.lookup 58 d.fv (kv s) false).run Try.prog w = .ok (pt ((d.F s).map Co.blk)) w := by
  rcases h.fv with ⟨a, b⟩ | ⟨m, a, _, _, i⟩
  · rw [a, b s]; exact look_nil w hs
  · rw [a]; exact i.look hs
theorem heap_setCell_ne {w : World} {b i k : Nat} {v : Value} (h : k ≠ b) : (w.setCell ⟨b, i, none⟩ v).heap[k]? = w.heap[k]? := heap_setCell_other _ _ _ _ h
theorem Dk.new {w : World} {S : Nat → Prop} {g N : Nat} {d : St} (h : Dk w S g N d) : Dk w (New S w w) g N d := h.set (fun k hk => .inl hk) (fun k hk => hk.elim (h.lt k) (fun e => by omega))
end Cd
end Go.Proofs.Ytloiclmngmnbdaa
