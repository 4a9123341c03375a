/- The index: what it holds. -/
import Derived.Test.YtalanjhpacjmmaaGreatKj
namespace Go.Proofs.YtalanjhpacjmmaaGreat
set_option maxRecDepth 100000
open Go.RowKit Go.Maps Go.ChangeMaps Go.MapKept Go.Sort Go.Shelf
namespace Kk
open Jb Ka Kb Kc Kd Kf Kg Kh Ki Kj Sa Sb Sg

/-- A series' text. -/
def tt (s : Sr) : Tx := ba (txt s)
theorem tt_inj {a b : Sr} (h : tt a = tt b) : a = b := txt_inj (ba_inj h)
theorem tstr_fm {s : Sr} (h : fm s = true) : tstr s = tt s := by simp [tstr, h, tt]
abbrev Qs := Sr → Prop
/-- Which tags the series have. -/
def PQ (Q : Qs) : Tags := fun n k v t => ∃ s, Q s ∧ s.1 = n ∧ tt s = t ∧ ∃ i, i < s.2.length ∧ s.2.getD i t0 = (k, v)
abbrev Ks := Tx → Tx → Option Int
def sag (n : Tx) (a : Option Addr) (l c : Nat) : Value := .agg #[.string n, .slice a l c]
/-- The tags of a series in memory, in a block that is told. -/
def Tg1 (w : World) (A : As) (C : Cs) (s : Sr) : Prop := ∃ a c, C (.S s.1) (tt s) = some (sag s.1 a s.2.length c) ∧ Ti w (.slice a s.2.length c) s.2 ∧ (∀ b, (Value.slice a s.2.length c).ownBlock = some b → A (.tg s.1 (tt s)) = some b)
structure Ix (w : World) (B N x : Nat) (A : As) (C : Cs) (Q : Qs) (kd : Ks) : Prop where
  mem : Mem w B N A C
  lk : Lk A C (PQ Q)
  idx : A .idx = some x
  fm : ∀ s, Q s → fm s = true
  G : ∀ n, C .G n = po (A (.grp n))
  hg : ∀ n, A (.grp n) ≠ none ↔ ∃ s, Q s ∧ s.1 = n
  S1 : ∀ n t, A (.grp n) ≠ none → C (.S n) t ≠ none → ∃ s, Q s ∧ s.1 = n ∧ tt s = t
  S2 : ∀ s, Q s → Tg1 w A C s
  K : ∀ n, C .K n = po (A (.fb n))
  F1 : ∀ n, A (.fb n) ≠ none → ∀ f, C (.F n) f = (kd n f).map (Value.int .i64)
  F2 : ∀ n f, kd n f ≠ none → A (.fb n) ≠ none
  kb : ∀ n f q, kd n f = some q → 1 ≤ q ∧ q ≤ 4
theorem Tg1.move {w w' : World} {A A' : As} {C C' : Cs} {s : Sr} (h : Tg1 w A C s) (hC : C' (.S s.1) (tt s) = C (.S s.1) (tt s)) (hA : A' (.tg s.1 (tt s)) = A (.tg s.1 (tt s))) (hs : w.heap.size ≤ w'.heap.size) (hb : ∀ b, A (.tg s.1 (tt s)) = some b → w'.heap[b]? = w.heap[b]?) : Tg1 w' A' C' s := by
  obtain ⟨a, c, h1, h2, h3⟩ := h
  refine ⟨a, c, hC.trans h1, ?_, fun b e => hA.trans (h3 b e)⟩
  rcases h2 with h | ⟨b, off, c', e, l1, l2, l3⟩
  · exact .inl h
  · have eb := hb b (h3 b (by rw [e]; rfl))
    exact .inr ⟨b, off, c', e, l1, Nat.lt_of_lt_of_le l2 hs, fun i hi => (l3 i hi).of_block eb⟩
theorem Ix.below {w w' : World} {B N x : Nat} {A : As} {C : Cs} {Q : Qs} {kd : Ks} (h : Ix w B N x A C Q kd) (b : Below w.heap.size w w') : Ix w' B N x A C Q kd :=
  ⟨h.mem.below b, h.lk, h.idx, h.fm, h.G, h.hg, h.S1, fun s hs => (h.S2 s hs).move rfl rfl b.size (fun k hk => b.block k (h.mem.lt _ k hk).2), h.K, h.F1, h.F2, h.kb⟩
theorem Ix.chg {w w' : World} {B N x : Nat} {A : As} {C : Cs} {Q : Qs} {kd : Ks} {U : Nat → Prop} (h : Ix w B N x A C Q kd) (c : Chg w w' U) (hU : ∀ r b, A r = some b → ¬ U b) : Ix w' B N x A C Q kd :=
  ⟨h.mem.chg c hU, h.lk, h.idx, h.fm, h.G, h.hg, h.S1, fun s hs => (h.S2 s hs).move rfl rfl c.size (fun k hk => c.block k (h.mem.lt _ k hk).2 (hU _ k hk)), h.K, h.F1, h.F2, h.kb⟩
theorem Ix.mono {w : World} {B N N' x : Nat} {A : As} {C : Cs} {Q : Qs} {kd : Ks} (h : Ix w B N x A C Q kd) (hN : N ≤ N') : Ix w B N' x A C Q kd :=
  ⟨h.mem.mono hN, h.lk, h.idx, h.fm, h.G, h.hg, h.S1, h.S2, h.K, h.F1, h.F2, h.kb⟩
theorem Ix.ext {w : World} {B N x : Nat} {A : As} {C : Cs} {Q Q' : Qs} {kd : Ks} (h : Ix w B N x A C Q kd) (e : ∀ s, Q s ↔ Q' s) : Ix w B N x A C Q' kd := by
  have : Q = Q' := by funext s; exact propext (e s)
  rw [← this]; exact h
theorem fm_size {s : Sr} (h : fm s = true) : s.1.size ≤ 64 ∧ (tt s).size ≤ 2192 ∧ s.2.length ≤ 8 ∧ ∀ i, i < s.2.length → (s.2.getD i t0).1.size ≤ 64 ∧ (s.2.getD i t0).2.size ≤ 64 := by
  obtain ⟨h1, h2, h3⟩ := fm_parts h
  exact ⟨h1, by rw [tt, ba_size]; exact fm_len h, h2, h3⟩
/-- What the books of a name's group hold; nothing, if there is none. -/
noncomputable def SE (A : As) (C : Cs) (n : Tx) : Fun := fun t => by classical exact if A (.grp n) = none then none else C (.S n) t
def TE (A : As) (n : Tx) : Fun := fun k => po (A (.vb n k))
theorem SE_yes {w : World} {B N x : Nat} {A : As} {C : Cs} {Q : Qs} {kd : Ks} (h : Ix w B N x A C Q kd) {s : Sr} (hs : Q s) : SE A C s.1 (tt s) = C (.S s.1) (tt s) := by
  unfold SE
  rw [if_neg ((h.hg s.1).2 ⟨s, hs, rfl⟩)]
theorem SE_iff {w : World} {B N x : Nat} {A : As} {C : Cs} {Q : Qs} {kd : Ks} (h : Ix w B N x A C Q kd) (n t : Tx) : SE A C n t ≠ none ↔ ∃ s, Q s ∧ s.1 = n ∧ tt s = t := by
  constructor
  · intro e
    unfold SE at e
    by_cases hg : A (.grp n) = none
    · rw [if_pos hg] at e; exact absurd rfl e
    · rw [if_neg hg] at e; exact h.S1 n t hg e
  · rintro ⟨s, hs, rfl, rfl⟩
    rw [SE_yes h hs]
    obtain ⟨a, c, e, _⟩ := h.S2 s hs
    rw [e]; simp
theorem SE_some {w : World} {B N x : Nat} {A : As} {C : Cs} {Q : Qs} {kd : Ks} (h : Ix w B N x A C Q kd) {s : Sr} (hs : Q s) : ∃ a c, SE A C s.1 (tt s) = some (sag s.1 a s.2.length c) ∧ Ti w (.slice a s.2.length c) s.2 := by
  obtain ⟨a, c, e, t, _⟩ := h.S2 s hs
  exact ⟨a, c, (SE_yes h hs).trans e, t⟩
/-- Ready for a series of the name n: there is a group g. -/
structure Rdy (w : World) (B N x : Nat) (A : As) (C : Cs) (Q : Qs) (kd : Ks) (n : Tx) (g : Nat) : Prop where
  mem : Mem w B N A C
  lk : Lk A C (PQ Q)
  idx : A .idx = some x
  at_ : A (.grp n) = some g
  fm : ∀ s, Q s → Sb.fm s = true
  G : ∀ m, m ≠ n → C .G m = po (A (.grp m))
  hg : ∀ m, m ≠ n → (A (.grp m) ≠ none ↔ ∃ s, Q s ∧ s.1 = m)
  S1 : ∀ m t, A (.grp m) ≠ none → C (.S m) t ≠ none → ∃ s, Q s ∧ s.1 = m ∧ tt s = t
  S2 : ∀ s, Q s → Tg1 w A C s
  K : ∀ m, C .K m = po (A (.fb m))
  F1 : ∀ m, A (.fb m) ≠ none → ∀ f, C (.F m) f = (kd m f).map (Value.int .i64)
  F2 : ∀ m f, kd m f ≠ none → A (.fb m) ≠ none
  kb : ∀ n f q, kd n f = some q → 1 ≤ q ∧ q ≤ 4
theorem Ix.rdy {w : World} {B N x g : Nat} {A : As} {C : Cs} {Q : Qs} {kd : Ks} {n : Tx} (h : Ix w B N x A C Q kd) (hg : A (.grp n) = some g) : Rdy w B N x A C Q kd n g :=
  ⟨h.mem, h.lk, h.idx, hg, h.fm, fun m _ => h.G m, fun m _ => h.hg m, h.S1, h.S2, h.K, h.F1, h.F2, h.kb⟩
theorem Ix.rdy_new {w w' : World} {B N x g : Nat} {A : As} {C : Cs} {Q : Qs} {kd : Ks} {n : Tx} (h : Ix w B N x A C Q kd) (hg : A (.grp n) = none) (b : Below w.heap.size w w') (hB : B ≤ w.heap.size) (hgl : w.heap.size ≤ g) (b0 : Bk w' g 0 none 0 (fun _ => none)) (b2 : Bk w' g 2 none 0 (fun _ => none)) :
    ∃ A' C', Rdy w' B N x A' C' Q kd n g ∧ Own w w' A A' := by
  have h' := h.below b
  have nS : ∀ s, Q s → s.1 ≠ n := fun s hs e => (h.hg n).2 ⟨s, hs, e⟩ hg
  have nV : ∀ k, A (.vb n k) = none := fun k => by
    by_cases e : A (.vb n k) = none
    · exact e
    · obtain ⟨v, t, hp⟩ := (h.lk.hv n k).1 e
      exact absurd hg (h.lk.hg n k v t hp)
  have cS : ∀ m, m ≠ n → setC (setC C (.S n) (fun _ => none)) (.T n) (fun _ => none) (.S m) = C (.S m) := fun m hm => by rw [setC_other (by simp), setC_other (by simpa using hm)]
  refine ⟨setA A (.grp n) (some g), setC (setC C (.S n) (fun _ => none)) (.T n) (fun _ => none), ⟨?_, ⟨fun n' k hn => ?_, fun n' k v hn => ?_, fun n' k v t hn => ?_, fun n' k => ?_, fun n' k v => ?_, fun n' k v t hp => ?_⟩, ?_, setA_same _ _ _, h.fm, fun m hm => ?_, fun m hm => ?_, fun m t hm ht => ?_, fun s hs => ?_, fun m => ?_, fun m hm => ?_, fun m f hm => ?_, h.kb⟩, ?_⟩
  · refine h'.mem.add (r := .grp n) (by simp) (by omega) b0.lt (fun r' e => by have := (h.mem.lt r' g e).2; omega) (fun β hβ => ?_) (fun β hβ => ?_)
    · rw [setC_other (fun e => hβ (by rw [e]; rfl)), setC_other (fun e => hβ (by rw [e]; rfl))]
    · cases β <;> simp [host] at hβ
      · subst hβ
        rw [setC_other (by simp), setC_same, h.mem.hm (.S _) hg]; exact b0.mono (Nat.zero_le _)
      · subst hβ
        rw [setC_same, h.mem.hm (.T _) hg]; exact b2.mono (Nat.zero_le _)
  · rw [setA_other (by simp)]
    by_cases e : n' = n
    · subst e; rw [setC_same, nV k]; rfl
    · rw [setC_other (by simpa using e), setC_other (by simp)]
      rw [setA_other (by simpa using e)] at hn
      exact h.lk.T n' k hn
  · rw [setA_other (by simp)] at hn ⊢
    rw [setC_other (by simp), setC_other (by simp)]; exact h.lk.V n' k v hn
  · rw [setA_other (by simp)] at hn
    rw [setC_other (by simp), setC_other (by simp)]; exact h.lk.X n' k v t hn
  · rw [setA_other (by simp)]; exact h.lk.hv n' k
  · rw [setA_other (by simp)]; exact h.lk.hx n' k v
  · by_cases e : n' = n
    · subst e; rw [setA_same]; simp
    · rw [setA_other (by simpa using e)]; exact h.lk.hg n' k v t hp
  · rw [setA_other (by simp)]; exact h.idx
  · rw [setC_other (by simp), setC_other (by simp), setA_other (by simpa using hm)]; exact h.G m
  · rw [setA_other (by simpa using hm)]; exact h.hg m
  · by_cases e : m = n
    · subst e; rw [setC_other (by simp), setC_same] at ht; exact absurd rfl ht
    · rw [cS m e] at ht
      rw [setA_other (by simpa using e)] at hm
      exact h.S1 m t hm ht
  · exact (h'.S2 s hs).move (by rw [cS _ (nS s hs)]) (setA_other (by simp)) (Nat.le_refl _) (fun _ _ => rfl)
  · rw [setC_other (by simp), setC_other (by simp), setA_other (by simp)]; exact h.K m
  · rw [setA_other (by simp)] at hm
    rw [setC_other (by simp), setC_other (by simp)]; exact h.F1 m hm
  · rw [setA_other (by simp)]; exact h.F2 m f hm
  · refine ⟨Chg.of_below b (Nat.le_refl _) _, fun r k e => ?_⟩
    by_cases hr : r = .grp n
    · subst hr; rw [setA_same] at e; cases e; exact .inr hgl
    · rw [setA_other hr] at e; exact .inl e
/-- The series has come. -/
theorem Rdy.done {w1 w2 w3 w4 : World} {B N x g c : Nat} {A A3 : As} {C C3 : Cs} {Q : Qs} {kd : Ks} {s : Sr} {a : Option Addr} {mo' : Option Nat} (h : Rdy w1 B N x A C Q kd s.1 g) (hB : B ≤ w1.heap.size) (b12 : Below w1.heap.size w1 w2)
    (ow : w2.ownsRow w1.heap.size 36 2 (.slice a s.2.length c) s.2.length (tcs s.2)) (hf : Sb.fm s = true)
    (l : Laid w2 w3 B (N + 1 + 3 * s.2.length) A A3 C C3 (tagsTo (PQ Q) s.1 (tt s) s.2 s.2.length) s.1 (tt s) (sag s.1 a s.2.length c))
    (t : Turn w3 w4 x 0 (A3 (.mp .G)) mo' (N + 1 + 3 * s.2.length + 1) (upd (C3 .G) s.1 (some (pv g)))) :
    ∃ A' C', Ix w4 B (N + 30) x A' C' (fun q => Q q ∨ q = s) kd ∧ Own w1 w4 A A' := by
  have hl := (fm_size hf).2.2.1
  have hidx : A3 .idx = some x := l.idx.trans h.idx
  have m4 := l.mem.turn (β := .G) hidx t (by omega) (Nat.le_trans hB (Nat.le_trans b12.size l.own.1.size))
  have o4 := own_turn (β := .G) hidx t
  have o14 := ((Own.below b12).trans l.own).trans o4
  -- the tags' block
  obtain ⟨ob, hob⟩ : ∃ ob, ob = (Value.slice a s.2.length c).ownBlock := ⟨_, rfl⟩
  have htg : Ti w2 (.slice a s.2.length c) s.2 := ti_own ow
  have hblk : ∀ b, ob = some b → w1.heap.size ≤ b ∧ b < w2.heap.size := fun b e => own_lt ow (hob ▸ e)
  have hfree : ∀ b, ob = some b → ∀ r, setA A3 (.mp .G) mo' r ≠ some b := fun b e r hr => by
    obtain ⟨k1, k2⟩ := hblk b e
    have o24 := l.own.trans o4
    rcases o24.2 r b hr with e' | e'
    · have := (h.mem.lt r b e').2; omega
    · omega
  have hst : ∀ b, ob = some b → w4.heap[b]? = w2.heap[b]? := fun b e => by
    obtain ⟨k1, k2⟩ := hblk b e
    have o24 := l.own.trans o4
    exact o24.1.block b k2 (fun ⟨r, _, hr⟩ => by have := (h.mem.lt r b hr).2; omega)
  have hTi4 : Ti w4 (.slice a s.2.length c) s.2 := by
    rcases htg with h' | ⟨b, off, c', e, l1, l2, l3⟩
    · exact .inl h'
    · have eb := hst b (by rw [hob, e]; rfl)
      exact .inr ⟨b, off, c', e, l1, Nat.lt_of_lt_of_le l2 (l.own.trans o4).1.size, fun i hi => (l3 i hi).of_block eb⟩
  obtain ⟨A4, hA4⟩ : ∃ A4, A4 = setA A3 (.mp .G) mo' := ⟨_, rfl⟩
  obtain ⟨C4, hC4⟩ : ∃ C4, C4 = setC C3 .G (upd (C3 .G) s.1 (some (pv g))) := ⟨_, rfl⟩
  rw [← hA4] at m4 o4 o14 hfree
  rw [← hC4] at m4
  -- A with the tags' block
  obtain ⟨A5, m5, e5, eo, o5⟩ : ∃ A5 : As, Mem w4 B (N + 1 + 3 * s.2.length + 1) A5 C4 ∧ (∀ b, ob = some b → A5 (.tg s.1 (tt s)) = some b) ∧ (∀ r, r ≠ .tg s.1 (tt s) → A5 r = A4 r) ∧ Own w1 w4 A A5 := by
    cases hob' : ob with
    | none => exact ⟨A4, m4, fun b e => (nomatch e), fun _ _ => rfl, o14⟩
    | some b =>
      obtain ⟨k1, k2⟩ := hblk b hob'
      refine ⟨setA A4 (.tg s.1 (tt s)) (some b), m4.add (by simp) (by omega) (Nat.lt_of_lt_of_le k2 (l.own.trans o4).1.size) (hfree b hob') (fun _ _ => rfl) (fun β hβ => by cases β <;> simp [host] at hβ), fun b' e => (by cases e; exact setA_same _ _ _), fun r hr => setA_other hr, o14.1, fun r k e => ?_⟩
      by_cases hr : r = .tg s.1 (tt s)
      · subst hr; rw [setA_same] at e; cases e; exact .inr k1
      · rw [setA_other hr] at e; exact o14.2 r k e
  have eA : ∀ r, r ≠ .tg s.1 (tt s) → r ≠ .mp .G → A5 r = A3 r := fun r h1 h2 => by rw [eo r h1, hA4, setA_other h2]
  have eC : ∀ β, β ≠ .G → C4 β = C3 β := fun β hβ => by rw [hC4, setC_other hβ]
  have eg : ∀ m, A5 (.grp m) = A (.grp m) := fun m => (eA _ (by simp) (by simp)).trans (l.grp m)
  have eS : ∀ q, Q q → q ≠ s → C4 (.S q.1) (tt q) = C (.S q.1) (tt q) := fun q hq hne => by
    rw [eC _ (by simp)]
    by_cases e : q.1 = s.1
    · rw [e, l.S, upd_other (fun e' => hne (tt_inj e'))]
    · rw [l.So _ e]
  refine ⟨A5, C4, ⟨m5.mono (by omega), ?_, (eA _ (by simp) (by simp)).trans hidx, fun q hq => ?_, fun n => ?_, fun n => ?_, fun n tx hn ht => ?_, fun q hq => ?_, fun n => ?_, fun n hn f => ?_, fun n f hn => ?_, h.kb⟩, o5⟩
  · have : Lk A5 C4 (tagsTo (PQ Q) s.1 (tt s) s.2 s.2.length) := by
      have k := l.lk
      refine ⟨fun n k' hn => ?_, fun n k' v hn => ?_, fun n k' v t' hn => ?_, fun n k' => ?_, fun n k' v => ?_, fun n k' v t' hp => ?_⟩
      · rw [eC _ (by simp), eA _ (by simp) (by simp)]; rw [eA _ (by simp) (by simp)] at hn; exact k.T n k' hn
      · rw [eC _ (by simp), eA _ (by simp) (by simp)]; rw [eA _ (by simp) (by simp)] at hn; exact k.V n k' v hn
      · rw [eC _ (by simp)]; rw [eA _ (by simp) (by simp)] at hn; exact k.X n k' v t' hn
      · rw [eA _ (by simp) (by simp)]; exact k.hv n k'
      · rw [eA _ (by simp) (by simp)]; exact k.hx n k' v
      · rw [eA _ (by simp) (by simp)]; exact k.hg n k' v t' hp
    refine Lk.ext this fun n k v t' => ?_
    constructor
    · rintro (⟨q, hq, r⟩ | ⟨rfl, rfl, i, hi, e⟩)
      · exact ⟨q, .inl hq, r⟩
      · exact ⟨s, .inr rfl, rfl, rfl, i, hi, e⟩
    · rintro ⟨q, hq | rfl, r1, r2, i, hi, e⟩
      · exact .inl ⟨q, hq, r1, r2, i, hi, e⟩
      · exact .inr ⟨r1.symm, r2.symm, i, hi, e⟩
  · rcases hq with hq | rfl
    · exact h.fm q hq
    · exact hf
  · rw [hC4, setC_same, eg n]
    by_cases e : n = s.1
    · rw [e, upd_same, h.at_]; rfl
    · rw [upd_other e, l.G]; exact h.G n e
  · rw [eg n]
    by_cases e : n = s.1
    · subst e
      rw [h.at_]
      exact ⟨fun _ => ⟨s, .inr rfl, rfl⟩, fun _ => by simp⟩
    · rw [h.hg n e]
      exact ⟨fun ⟨q, hq, e'⟩ => ⟨q, .inl hq, e'⟩, fun ⟨q, hq, e'⟩ => ⟨q, hq.resolve_right (fun e2 => e (by rw [← e', e2])), e'⟩⟩
  · rw [eg n] at hn
    rw [eC _ (by simp)] at ht
    by_cases e : n = s.1
    · subst e
      rw [l.S] at ht
      by_cases e2 : tx = tt s
      · exact ⟨s, .inr rfl, rfl, e2.symm⟩
      · rw [upd_other e2] at ht
        obtain ⟨q, hq, r⟩ := h.S1 _ tx hn ht
        exact ⟨q, .inl hq, r⟩
    · rw [l.So n e] at ht
      obtain ⟨q, hq, r⟩ := h.S1 n tx hn ht
      exact ⟨q, .inl hq, r⟩
  · by_cases e : q = s
    · subst e
      refine ⟨a, c, ?_, hTi4, fun b hb => e5 b (hob.trans hb)⟩
      rw [eC _ (by simp), l.S, upd_same]
    · have hq' := hq.resolve_right e
      refine (h.S2 q hq').move (eS q hq' e) ?_ o5.1.size (fun b hb => ?_)
      · rw [eA _ (by simp; intro _ e2; exact e (tt_inj e2)) (by simp), l.tg]
      · exact o5.1.block b (h.mem.lt _ b hb).2 (fun ⟨r, hr, hr2⟩ => hr _ _ (h.mem.inj _ _ b hr2 hb))
  · rw [eC _ (by simp), l.K, eA _ (by simp) (by simp), l.fb]; exact h.K n
  · rw [eA _ (by simp) (by simp), l.fb] at hn
    rw [eC _ (by simp), l.F]; exact h.F1 n hn f
  · rw [eA _ (by simp) (by simp), l.fb]; exact h.F2 n f hn
end Kk
end Go.Proofs.YtalanjhpacjmmaaGreat
