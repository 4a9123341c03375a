/- A tag of a series, laid in. -/
import Derived.Test.YtalanjhpacjmmaaGreatKg
namespace Go.Proofs.YtalanjhpacjmmaaGreat
set_option maxRecDepth 100000
open Go.RowKit Go.Maps Go.ChangeMaps Go.MapKept Go.Sort Go.Shelf
namespace Kh
open Jb Ka Kb Kc Kd Kf Kg Sa Sb

def pv (b : Nat) : Value := .pointer (some ⟨b, 0, none⟩)
def po (o : Option Nat) : Option Value := o.map pv
theorem pv_inj {a b : Nat} (h : pv a = pv b) : a = b := by simpa [pv] using h
theorem po_some {o : Option Nat} {b : Nat} (h : po o = some (pv b)) : o = some b := by
  cases o with
  | none => cases h
  | some c => simp only [po, Option.map_some, Option.some.injEq] at h; rw [pv_inj h]
theorem po_none {o : Option Nat} (h : po o = none) : o = none := by
  cases o with
  | none => rfl
  | some c => cases h
abbrev Tags := Tx → Tx → Tx → Tx → Prop
/-- The books of tags say which series have which. -/
structure Lk (A : As) (C : Cs) (P : Tags) : Prop where
  T : ∀ n k, A (.grp n) ≠ none → C (.T n) k = po (A (.vb n k))
  V : ∀ n k v, A (.vb n k) ≠ none → C (.V n k) v = po (A (.xb n k v))
  X : ∀ n k v t, A (.xb n k v) ≠ none → (P n k v t → C (.X n k v) t = some (.agg #[])) ∧ (¬ P n k v t → C (.X n k v) t = none)
  hv : ∀ n k, A (.vb n k) ≠ none ↔ ∃ v t, P n k v t
  hx : ∀ n k v, A (.xb n k v) ≠ none ↔ ∃ t, P n k v t
  hg : ∀ n k v t, P n k v t → A (.grp n) ≠ none
/-- No block of tags. -/
def NT (r : Ro) : Prop := ∀ n t, r ≠ .tg n t
/-- Only blocks of the index have turned, and none of tags. -/
def Own (w w' : World) (A A' : As) : Prop := Chg w w' (fun k => ∃ r, NT r ∧ A r = some k) ∧ ∀ r b, A' r = some b → A r = some b ∨ w.heap.size ≤ b
theorem Own.refl (w : World) (A : As) : Own w w A A := ⟨Chg.refl _ _, fun _ _ h => .inl h⟩
theorem Own.trans {a b c : World} {A A1 A2 : As} (h : Own a b A A1) (k : Own b c A1 A2) : Own a c A A2 := by
  refine ⟨h.1.trans k.1 (fun i ⟨r, hn, hr⟩ hl => ?_), fun r i hr => ?_⟩
  · rcases h.2 r i hr with e | e
    · exact ⟨r, hn, e⟩
    · omega
  · rcases k.2 r i hr with e | e
    · exact h.2 r i e
    · exact .inr (Nat.le_trans h.1.size e)
theorem Own.below {w w' : World} {A : As} (b : Below w.heap.size w w') : Own w w' A A := ⟨Chg.of_below b (Nat.le_refl _) _, fun _ _ h => .inl h⟩
theorem own_turn {w w' : World} {g o N : Nat} {A : As} {β : Bo} {mo' : Option Nat} {F : Fun} (hg : A (host β) = some g) (t : Turn w w' g o (A (.mp β)) mo' N F) : Own w w' A (setA A (.mp β) mo') := by
  refine ⟨t.chg.imp fun k hk _ => ?_, fun r b hr => ?_⟩
  · rcases hk with e | e
    · exact ⟨_, fun n t => by cases β <;> simp [host], e ▸ hg⟩
    · exact ⟨_, fun n t => by simp, e⟩
  · by_cases e : r = .mp β
    · subst e
      rw [setA_same] at hr
      rcases t.mo with e' | ⟨m, e', l⟩
      · exact .inl (e'.symm.trans hr)
      · rw [e'] at hr; cases hr; exact .inr l
    · rw [setA_other e] at hr; exact .inl hr
/-- A new book under a book. -/
theorem Mem.under {w w' : World} {B N b : Nat} {A : As} {C : Cs} (h : Mem w B N A C) (hB : B ≤ w.heap.size) {β γ : Bo} {g : Nat} (hg : A (host β) = some g) {mo' : Option Nat} {F : Fun} (t : Turn w w' g (off β) (A (.mp β)) mo' (N + 1) F)
    (hb : w.heap.size ≤ b) (hbm : mo' ≠ some b) (nb : Bk w' b 0 none 0 (fun _ => none)) (hr : ∀ δ, host γ ≠ .mp δ) (hbg : host γ ≠ host β) (ho : off γ = 0) (one : ∀ δ, host δ = host γ → δ = γ) (hn : A (host γ) = none) (hne : γ ≠ β) :
    Mem w' B (N + 1) (setA (setA A (.mp β) mo') (host γ) (some b)) (setC (setC C β F) γ (fun _ => none)) ∧ Own w w' A (setA (setA A (.mp β) mo') (host γ) (some b)) := by
  have h1 := h.turn hg t (Nat.le_succ N) hB
  have o1 := own_turn hg t
  refine ⟨h1.add hr (by omega) nb.lt (fun r' e => ?_) (fun δ hδ => setC_other (fun e => hδ (by rw [e]))) (fun δ hδ => ?_), o1.1, fun r c hc => ?_⟩
  · by_cases e' : r' = .mp β
    · subst e'; rw [setA_same] at e; exact hbm e
    · rw [setA_other e'] at e; have := (h.lt r' b e).2; omega
  · obtain rfl := one δ hδ
    rw [setC_same, setA_other (fun e => hne (by injection e)), h.hm δ hn, ho]
    exact nb.mono (Nat.zero_le _)
  · by_cases e' : r = host γ
    · subst e'; rw [setA_same] at hc; cases hc; exact .inr hb
    · rw [setA_other e'] at hc; exact o1.2 r c hc
def addP (P : Tags) (n k v t : Tx) : Tags := fun n' k' v' t' => P n' k' v' t' ∨ (n' = n ∧ k' = k ∧ v' = v ∧ t' = t)
/-- What a tag that is laid in leaves. -/
structure Added (w w' : World) (B N : Nat) (A A' : As) (C C' : Cs) (P : Tags) (n k v t : Tx) : Prop where
  mem : Mem w' B (N + 3) A' C'
  own : Own w w' A A'
  lk : Lk A' C' (addP P n k v t)
  idx : A' .idx = A .idx
  grp : ∀ m, A' (.grp m) = A (.grp m)
  fb : ∀ m, A' (.fb m) = A (.fb m)
  tg : ∀ m x, A' (.tg m x) = A (.tg m x)
  G : C' .G = C .G
  K : C' .K = C .K
  S : ∀ m, C' (.S m) = C (.S m)
  F : ∀ m, C' (.F m) = C (.F m)
/-- The first step: the book of a key's values. -/
structure St1 (w w' : World) (B N : Nat) (A A' : As) (C C' : Cs) (n k : Tx) (b : Nat) : Prop where
  mem : Mem w' B (N + 1) A' C'
  own : Own w w' A A'
  at_ : A' (.vb n k) = some b
  same : ∀ r, r ≠ .vb n k → r ≠ .mp (.T n) → A' r = A r
  eT : C' (.T n) = upd (C (.T n)) k (some (pv b))
  eV : ∀ v, C' (.V n k) v = po (A (.xb n k v))
  cs : ∀ β, β ≠ .T n → β ≠ .V n k → C' β = C β
  old : ∀ c, A (.vb n k) = some c → b = c
structure St2 (w w' : World) (B N : Nat) (A A' : As) (C C' : Cs) (P : Tags) (n k v : Tx) (b : Nat) : Prop where
  mem : Mem w' B (N + 1) A' C'
  own : Own w w' A A'
  at_ : A' (.xb n k v) = some b
  same : ∀ r, r ≠ .xb n k v → r ≠ .mp (.V n k) → A' r = A r
  eV : C' (.V n k) = upd (C (.V n k)) v (some (pv b))
  eX : ∀ t, (P n k v t → C' (.X n k v) t = some (.agg #[])) ∧ (¬ P n k v t → C' (.X n k v) t = none)
  cs : ∀ β, β ≠ .V n k → β ≠ .X n k v → C' β = C β
  old : ∀ c, A (.xb n k v) = some c → b = c
theorem under_V (w : World) (B N g : Nat) (A : As) (C : Cs) (P : Tags) (n k : Tx) (h : Mem w B N A C) (l : Lk A C P) (hg : A (.grp n) = some g) (hk : k.size ≤ maxLen) (hN : N < maxLen) (hB : B ≤ w.heap.size) :
    Calls Tryz.prog 73 #[.pointer (some ⟨g, 2, none⟩), .string k] w fun e w' => ∃ b A' C', e = .returned (pv b) ∧ St1 w w' B N A A' C C' n k b := by
  have bk := h.bk (.T n) g hg
  have eT := l.T n k (by rw [hg]; simp)
  have cT : C (.T n) k = po (A (.vb n k)) := eT
  cases hA : A (.vb n k) with
  | some b =>
    rw [hA] at cT
    refine (under_old_V w g N _ _ bk k hk b cT).mono ?_
    rintro e w' ⟨rfl, rfl⟩
    refine ⟨b, A, C, rfl, h.mono (Nat.le_succ _), Own.refl _ _, hA, fun _ _ _ => rfl, ?_, fun v => l.V n k v (by rw [hA]; simp), fun _ _ _ => rfl, fun c e => Option.some.inj (hA.symm.trans e)⟩
    funext x
    by_cases e : x = k
    · rw [e, upd_same]; exact cT
    · rw [upd_other e]
  | none =>
    rw [hA] at cT
    refine (under_new_V w g N _ _ bk k hk hN cT).mono ?_
    rintro e w' ⟨b, mo', rfl, hb, hbm, nb, t⟩
    have := Mem.under (β := .T n) (γ := .V n k) h hB hg t hb hbm nb (by simp [host]) (by simp [host]) rfl (fun δ e => by cases δ <;> simp [host] at e ⊢; exact e) hA (by simp)
    simp only [host] at this
    obtain ⟨m1, o1⟩ := this
    refine ⟨b, _, _, rfl, m1, o1, setA_same _ _ _, fun r h1 h2 => by rw [setA_other h1, setA_other h2], ?_, fun v => ?_, fun β h1 h2 => by rw [setC_other h2, setC_other h1], fun c e => by rw [hA] at e; cases e⟩
    · rw [setC_other (by simp), setC_same]; rfl
    · rw [setC_same]
      have : A (.xb n k v) = none := by
        by_cases e : A (.xb n k v) = none
        · exact e
        · obtain ⟨t, ht⟩ := (l.hx n k v).1 e
          exact absurd hA ((l.hv n k).2 ⟨v, t, ht⟩)
      rw [this]; rfl
theorem under_X (w : World) (B N g : Nat) (A : As) (C : Cs) (P : Tags) (n k v : Tx) (h : Mem w B N A C) (hV : ∀ v, C (.V n k) v = po (A (.xb n k v))) (hX : ∀ t, A (.xb n k v) ≠ none → (P n k v t → C (.X n k v) t = some (.agg #[])) ∧ (¬ P n k v t → C (.X n k v) t = none)) (hx : A (.xb n k v) = none → ∀ t, ¬ P n k v t)
    (hg : A (.vb n k) = some g) (hk : v.size ≤ maxLen) (hN : N < maxLen) (hB : B ≤ w.heap.size) :
    Calls Tryz.prog 72 #[pv g, .string v] w fun e w' => ∃ b A' C', e = .returned (pv b) ∧ St2 w w' B N A A' C C' P n k v b := by
  have bk := h.bk (.V n k) g hg
  have cT := hV v
  cases hA : A (.xb n k v) with
  | some b =>
    rw [hA] at cT
    refine (under_old_X w g N _ _ bk v hk b cT).mono ?_
    rintro e w' ⟨rfl, rfl⟩
    refine ⟨b, A, C, rfl, h.mono (Nat.le_succ _), Own.refl _ _, hA, fun _ _ _ => rfl, ?_, fun t => hX t (by rw [hA]; simp), fun _ _ _ => rfl, fun c e => Option.some.inj (hA.symm.trans e)⟩
    funext x
    by_cases e : x = v
    · rw [e, upd_same]; exact cT
    · rw [upd_other e]
  | none =>
    rw [hA] at cT
    refine (under_new_X w g N _ _ bk v hk hN cT).mono ?_
    rintro e w' ⟨b, mo', rfl, hb, hbm, nb, t⟩
    have := Mem.under (β := .V n k) (γ := .X n k v) h hB hg t hb hbm nb (by simp [host]) (by simp [host]) rfl (fun δ e => by cases δ <;> simp [host] at e ⊢; exact e) hA (by simp)
    simp only [host] at this
    obtain ⟨m1, o1⟩ := this
    refine ⟨b, _, _, rfl, m1, o1, setA_same _ _ _, fun r h1 h2 => by rw [setA_other h1, setA_other h2], ?_, fun t => ?_, fun β h1 h2 => by rw [setC_other h2, setC_other h1], fun c e => by rw [hA] at e; cases e⟩
    · rw [setC_other (by simp), setC_same]; rfl
    · rw [setC_same]
      exact ⟨fun e => absurd e (hx hA t), fun _ => rfl⟩
/-- The three steps together. -/
theorem added {w w1 w2 w3 : World} {B N b c : Nat} {A A1 A2 : As} {C C1 C2 : Cs} {P : Tags} {n k v t : Tx} {mo' : Option Nat} (l : Lk A C P) (hB : B ≤ w.heap.size) (hgr : A (.grp n) ≠ none) (s1 : St1 w w1 B N A A1 C C1 n k b) (s2 : St2 w1 w2 B (N + 1) A1 A2 C1 C2 P n k v c)
    (t3 : Turn w2 w3 c 0 (A2 (.mp (.X n k v))) mo' (N + 3) (upd (C2 (.X n k v)) t (some (.agg #[])))) :
    ∃ A' C', Added w w3 B N A A' C C' P n k v t := by
  have m3 := s2.mem.turn (β := .X n k v) s2.at_ t3 (by omega) (by have := s1.own.1.size; have := s2.own.1.size; omega)
  have o3 := own_turn (β := .X n k v) s2.at_ t3
  have a2 : ∀ r, r ≠ .xb n k v → r ≠ .mp (.V n k) → r ≠ .vb n k → r ≠ .mp (.T n) → r ≠ .mp (.X n k v) → setA A2 (.mp (.X n k v)) mo' r = A r := fun r h1 h2 h3 h4 h5 => by
    rw [setA_other h5, s2.same r h1 h2, s1.same r h3 h4]
  have c2 : ∀ β, β ≠ .T n → β ≠ .V n k → β ≠ .X n k v → setC C2 (.X n k v) (upd (C2 (.X n k v)) t (some (.agg #[]))) β = C β := fun β h1 h2 h3 => by
    rw [setC_other h3, s2.cs β h2 h3, s1.cs β h1 h2]
  have eg : ∀ m, setA A2 (.mp (.X n k v)) mo' (.grp m) = A (.grp m) := fun m => a2 _ (by simp) (by simp) (by simp) (by simp) (by simp)
  have evb : setA A2 (.mp (.X n k v)) mo' (.vb n k) = some b := by rw [setA_other (by simp), s2.same _ (by simp) (by simp), s1.at_]
  have evo : ∀ n' k', ¬ (n' = n ∧ k' = k) → setA A2 (.mp (.X n k v)) mo' (.vb n' k') = A (.vb n' k') := fun n' k' h => a2 _ (by simp) (by simp) (by simpa using h) (by simp) (by simp)
  have exb : setA A2 (.mp (.X n k v)) mo' (.xb n k v) = some c := by rw [setA_other (by simp), s2.at_]
  have exo : ∀ n' k' v', ¬ (n' = n ∧ k' = k ∧ v' = v) → setA A2 (.mp (.X n k v)) mo' (.xb n' k' v') = A (.xb n' k' v') := fun n' k' v' h => a2 _ (by simpa using h) (by simp) (by simp) (by simp) (by simp)
  refine ⟨_, _, m3, (s1.own.trans s2.own).trans o3, ⟨fun n' k' hn => ?_, fun n' k' v' hn => ?_, fun n' k' v' t' hn => ?_, fun n' k' => ?_, fun n' k' v' => ?_, fun n' k' v' t' hp => ?_⟩, a2 _ (by simp) (by simp) (by simp) (by simp) (by simp), eg, fun m => a2 _ (by simp) (by simp) (by simp) (by simp) (by simp), fun m x => a2 _ (by simp) (by simp) (by simp) (by simp) (by simp), c2 _ (by simp) (by simp) (by simp), c2 _ (by simp) (by simp) (by simp), fun m => c2 _ (by simp) (by simp) (by simp), fun m => c2 _ (by simp) (by simp) (by simp)⟩
  · rw [eg] at hn
    by_cases hnn : n' = n
    · subst hnn
      rw [setC_other (by simp), s2.cs _ (by simp) (by simp), s1.eT]
      by_cases hkk : k' = k
      · subst hkk; rw [upd_same, evb]; rfl
      · rw [upd_other hkk, evo _ _ (by simpa using hkk)]; exact l.T n' k' hn
    · rw [c2 _ (by simpa using hnn) (by simp) (by simp), evo _ _ (fun e => hnn e.1)]; exact l.T n' k' hn
  · by_cases hnk : n' = n ∧ k' = k
    · obtain ⟨rfl, rfl⟩ := hnk
      rw [setC_other (by simp), s2.eV]
      by_cases hv : v' = v
      · subst hv; rw [upd_same, exb]; rfl
      · rw [upd_other hv, exo _ _ _ (by simpa using hv)]; exact s1.eV v'
    · rw [evo _ _ hnk] at hn
      rw [c2 _ (by simp) (by simpa using hnk) (by simp), exo _ _ _ (fun e => hnk ⟨e.1, e.2.1⟩)]
      exact l.V n' k' v' hn
  · by_cases hnk : n' = n ∧ k' = k ∧ v' = v
    · obtain ⟨rfl, rfl, rfl⟩ := hnk
      rw [setC_same]
      by_cases ht : t' = t
      · subst ht; exact ⟨fun _ => upd_same _ _ _, fun e => absurd (.inr ⟨rfl, rfl, rfl, rfl⟩) e⟩
      · rw [upd_other ht]
        refine ⟨fun e => (s2.eX t').1 (e.resolve_right fun e => ht e.2.2.2), fun e => (s2.eX t').2 fun e' => e (.inl e')⟩
    · rw [exo _ _ _ hnk] at hn
      rw [c2 _ (by simp) (by simp) (by simpa using hnk)]
      have := l.X n' k' v' t' hn
      exact ⟨fun e => this.1 (e.resolve_right fun e => hnk ⟨e.1, e.2.1, e.2.2.1⟩), fun e => this.2 fun e' => e (.inl e')⟩
  · by_cases hnk : n' = n ∧ k' = k
    · obtain ⟨rfl, rfl⟩ := hnk
      rw [evb]
      exact ⟨fun _ => ⟨v, t, .inr ⟨rfl, rfl, rfl, rfl⟩⟩, fun _ => by simp⟩
    · rw [evo _ _ hnk, l.hv n' k']
      exact ⟨fun ⟨v', t', e⟩ => ⟨v', t', .inl e⟩, fun ⟨v', t', e⟩ => ⟨v', t', e.resolve_right fun e => hnk ⟨e.1, e.2.1⟩⟩⟩
  · by_cases hnk : n' = n ∧ k' = k ∧ v' = v
    · obtain ⟨rfl, rfl, rfl⟩ := hnk
      rw [exb]
      exact ⟨fun _ => ⟨t, .inr ⟨rfl, rfl, rfl, rfl⟩⟩, fun _ => by simp⟩
    · rw [exo _ _ _ hnk, l.hx n' k' v']
      exact ⟨fun ⟨t', e⟩ => ⟨t', .inl e⟩, fun ⟨t', e⟩ => ⟨t', e.resolve_right fun e => hnk ⟨e.1, e.2.1, e.2.2.1⟩⟩⟩
  · rw [eg]
    rcases hp with e | ⟨rfl, _⟩
    · exact l.hg n' k' v' t' e
    · exact hgr
end Kh
end Go.Proofs.YtalanjhpacjmmaaGreat
