/- Tombs, and what the graves say of them: plain mathematics. -/
import Derived.Test.YtmlbmiegfeadjaaGa
import Derived.Sort.Statements
namespace Go.Proofs.Ytmlbmiegfeadjaa
open Go.RowKit Go.Sort
namespace Gm
open Jb Ca Cz Ga

/-- A tomb: series, field, from, to. -/
abbrev Tmb := ByteArray × ByteArray × Int × Int
def t0 : Tmb := (⟨#[]⟩, ⟨#[]⟩, 0, 0)
def kyt (x : Tmb) : Ky := (x.1, x.2.1)
def hit (x : Tmb) (k : Ky) (t : Int) : Bool := (decide (x.1 = k.1) && (decide (x.2.1 = ⟨#[]⟩) || decide (x.2.1 = k.2))) && (decide (x.2.2.1 ≤ t) && decide (t ≤ x.2.2.2))
def cov (L : List Tmb) (k : Ky) (t : Int) : Bool := L.any fun x => hit x k t
abbrev Spn := Int × Int
def s0 : Spn := (0, 0)
def inS (S : List Spn) (t : Int) : Bool := S.any fun s => decide (s.1 ≤ t) && decide (t ≤ s.2)
theorem inS_iff (S : List Spn) (t : Int) : inS S t = true ↔ ∃ s ∈ S, s.1 ≤ t ∧ t ≤ s.2 := by simp [inS]
/-- Spans that rise and are apart. -/
def Gd (S : List Spn) : Prop := S.Pairwise (fun a b => a.2 < b.1) ∧ ∀ s ∈ S, s.1 ≤ s.2
def addS (S : List Spn) (s : Spn) : List Spn :=
  match S.getLast? with
  | some l => if s.1 ≤ l.2 then S.dropLast ++ [(l.1, max l.2 s.2)] else if s.1 ≤ s.2 then S ++ [s] else S
  | none => if s.1 ≤ s.2 then S ++ [s] else S
theorem addS_nil (s : Spn) : addS [] s = if s.1 ≤ s.2 then [s] else [] := rfl
theorem addS_snoc (S : List Spn) (l s : Spn) : addS (S ++ [l]) s = if s.1 ≤ l.2 then S ++ [(l.1, max l.2 s.2)] else if s.1 ≤ s.2 then S ++ [l] ++ [s] else S ++ [l] := by
  simp [addS]
theorem snoc_or {α : Type} (S : List α) : S = [] ∨ ∃ T l, S = T ++ [l] := by
  rcases List.eq_nil_or_concat S with h | ⟨T, l, h⟩
  · exact .inl h
  · exact .inr ⟨T, l, by rw [h]; simp⟩
theorem gd_snoc {S : List Spn} {l : Spn} : Gd (S ++ [l]) ↔ Gd S ∧ (∀ a ∈ S, a.2 < l.1) ∧ l.1 ≤ l.2 := by
  unfold Gd
  rw [List.pairwise_append]
  constructor
  · rintro ⟨⟨h1, _, h3⟩, h4⟩
    exact ⟨⟨h1, fun s hs => h4 s (by simp [hs])⟩, fun a ha => h3 a ha l (by simp), h4 l (by simp)⟩
  · rintro ⟨⟨h1, h2⟩, h3, h4⟩
    refine ⟨⟨h1, by simp, fun a ha b hb => by obtain rfl : b = l := by simpa using hb
                                              exact h3 a ha⟩, fun s hs => ?_⟩
    rcases List.mem_append.1 hs with hs | hs
    · exact h2 s hs
    · obtain rfl : s = l := by simpa using hs
      exact h4
theorem addS_good {S : List Spn} (h : Gd S) (s : Spn) (hs : ∀ a ∈ S, a.1 ≤ s.1) : Gd (addS S s) ∧ (∀ t, inS (addS S s) t = true ↔ inS S t = true ∨ (s.1 ≤ t ∧ t ≤ s.2)) ∧ ∀ a ∈ addS S s, a.1 = s.1 ∨ ∃ b ∈ S, b.1 = a.1 := by
  rcases snoc_or S with rfl | ⟨T, l, rfl⟩
  · rw [addS_nil]
    by_cases e : s.1 ≤ s.2
    · rw [if_pos e]
      refine ⟨⟨by simp, fun a ha => by obtain rfl : a = s := by simpa using ha
                                       exact e⟩, fun t => by simp [inS], fun a ha => by obtain rfl : a = s := by simpa using ha
                                                                                        exact .inl rfl⟩
    · rw [if_neg e]
      refine ⟨h, fun t => ?_, fun a ha => by cases ha⟩
      have : ¬ (s.1 ≤ t ∧ t ≤ s.2) := by omega
      simp [this]
  · rw [addS_snoc]
    obtain ⟨g1, g2, g3⟩ := gd_snoc.1 h
    have hl := hs l (by simp)
    by_cases e : s.1 ≤ l.2
    · rw [if_pos e]
      refine ⟨gd_snoc.2 ⟨g1, g2, by simp only; omega⟩, fun t => ?_, fun a ha => ?_⟩
      · rw [inS_iff, inS_iff]
        constructor
        · rintro ⟨a, ha, h1, h2⟩
          rcases List.mem_append.1 ha with ha | ha
          · exact .inl ⟨a, by simp [ha], h1, h2⟩
          · obtain rfl : a = (l.1, max l.2 s.2) := by simpa using ha
            simp only at h1 h2
            by_cases c : t ≤ l.2
            · exact .inl ⟨l, by simp, h1, c⟩
            · exact .inr (by omega)
        · rintro (⟨a, ha, h1, h2⟩ | ⟨h1, h2⟩)
          · rcases List.mem_append.1 ha with ha | ha
            · exact ⟨a, by simp [ha], h1, h2⟩
            · obtain rfl : a = l := by simpa using ha
              exact ⟨(a.1, max a.2 s.2), by simp, h1, by simp only; omega⟩
          · exact ⟨(l.1, max l.2 s.2), by simp, by simp only; omega, by simp only; omega⟩
      · rcases List.mem_append.1 ha with ha | ha
        · exact .inr ⟨a, by simp [ha], rfl⟩
        · obtain rfl : a = (l.1, max l.2 s.2) := by simpa using ha
          exact .inr ⟨l, by simp, rfl⟩
    · rw [if_neg e]
      by_cases e2 : s.1 ≤ s.2
      · rw [if_pos e2]
        refine ⟨gd_snoc.2 ⟨h, fun a ha => ?_, e2⟩, fun t => by simp [inS, or_assoc], fun a ha => ?_⟩
        · rcases List.mem_append.1 ha with ha | ha
          · have := g2 a ha; omega
          · obtain rfl : a = l := by simpa using ha
            omega
        · rcases List.mem_append.1 ha with ha | ha
          · exact .inr ⟨a, ha, rfl⟩
          · obtain rfl : a = s := by simpa using ha
            exact .inl rfl
      · rw [if_neg e2]
        refine ⟨h, fun t => ?_, fun a ha => .inr ⟨a, ha, rfl⟩⟩
        have : ¬ (s.1 ≤ t ∧ t ≤ s.2) := by omega
        simp [this]
abbrev Gv := Ky × List Spn
def addG (G : List Gv) (x : Tmb) : List Gv :=
  match G.getLast? with
  | some g => if g.1 = kyt x then G.dropLast ++ [(g.1, addS g.2 x.2.2)] else G ++ [(kyt x, addS [] x.2.2)]
  | none => [(kyt x, addS [] x.2.2)]
theorem addG_nil (x : Tmb) : addG [] x = [(kyt x, addS [] x.2.2)] := rfl
theorem addG_snoc (G : List Gv) (g : Gv) (x : Tmb) : addG (G ++ [g]) x = if g.1 = kyt x then G ++ [(g.1, addS g.2 x.2.2)] else G ++ [g] ++ [(kyt x, addS [] x.2.2)] := by
  simp [addG]
def build (R : List Tmb) : List Gv := R.foldl addG []
theorem build_take (R : List Tmb) (k : Nat) (hk : k < R.length) : build (R.take (k + 1)) = addG (build (R.take k)) (R.getD k t0) := by
  unfold build
  rw [List.take_add_one, List.foldl_append, List.getElem?_eq_getElem hk, List.getD_eq_getElem?_getD, List.getElem?_eq_getElem hk]
  rfl
/-- How tombs are sorted. -/
def ltT (x y : Tmb) : Bool := klt (kyt x) (kyt y) || (decide (kyt x = kyt y) && decide (x.2.2.1 < y.2.2.1))
structure Inv (D : List Tmb) (G : List Gv) : Prop where
  keys : G.Pairwise (fun a b => klt a.1 b.1 = true)
  good : ∀ g ∈ G, Gd g.2
  says : ∀ g ∈ G, ∀ t, inS g.2 t = true ↔ ∃ x ∈ D, kyt x = g.1 ∧ x.2.2.1 ≤ t ∧ t ≤ x.2.2.2
  has : ∀ x ∈ D, ∃ g ∈ G, g.1 = kyt x
  ofD : ∀ g ∈ G, ∃ x ∈ D, kyt x = g.1
  fr : ∀ g ∈ G, ∀ s ∈ g.2, ∃ x ∈ D, kyt x = g.1 ∧ x.2.2.1 = s.1
theorem Inv.nil : Inv [] [] := ⟨.nil, by simp, by simp, by simp, by simp, by simp⟩
theorem addS_one (s : Spn) : Gd (addS [] s) ∧ (∀ t, inS (addS [] s) t = true ↔ (s.1 ≤ t ∧ t ≤ s.2)) ∧ ∀ a ∈ addS [] s, a.1 = s.1 := by
  obtain ⟨a, b, c⟩ := addS_good (S := []) ⟨.nil, by simp⟩ s (by simp)
  refine ⟨a, fun t => by rw [b t]; simp [inS], fun x hx => ?_⟩
  rcases c x hx with h | ⟨_, h, _⟩
  · exact h
  · cases h
theorem Inv.fresh {D : List Tmb} {G : List Gv} (h : Inv D G) (x : Tmb) (hk : ∀ g ∈ G, klt g.1 (kyt x) = true) : Inv (D ++ [x]) (G ++ [(kyt x, addS [] x.2.2)]) := by
  obtain ⟨a1, a2, a3⟩ := addS_one x.2.2
  have nk : ∀ y ∈ D, kyt y ≠ kyt x := fun y hy e => by
    obtain ⟨g, hg, e2⟩ := h.has y hy
    have := hk g hg
    rw [e2, e, klt_irrefl] at this; cases this
  have ng : ∀ g ∈ G, kyt x ≠ g.1 := fun g hg e => by have := hk g hg; rw [e, klt_irrefl] at this; cases this
  constructor
  · rw [List.pairwise_append]
    exact ⟨h.keys, by simp, fun a ha b hb => by obtain rfl := List.mem_singleton.1 hb; exact hk a ha⟩
  · intro g hg
    rcases List.mem_append.1 hg with hg | hg
    · exact h.good g hg
    · obtain rfl := List.mem_singleton.1 hg; exact a1
  · intro g hg t
    rcases List.mem_append.1 hg with hg | hg
    · rw [h.says g hg t]
      constructor
      · rintro ⟨y, hy, hh⟩; exact ⟨y, by simp [hy], hh⟩
      · rintro ⟨y, hy, e, hh⟩
        rcases List.mem_append.1 hy with hy | hy
        · exact ⟨y, hy, e, hh⟩
        · rw [List.mem_singleton.1 hy] at e; exact absurd e (ng g hg)
    · obtain rfl := List.mem_singleton.1 hg
      rw [a2 t]
      constructor
      · intro hh; exact ⟨x, by simp, rfl, hh⟩
      · rintro ⟨y, hy, e, hh⟩
        rcases List.mem_append.1 hy with hy | hy
        · exact absurd e (nk y hy)
        · obtain rfl := List.mem_singleton.1 hy; exact hh
  · intro y hy
    rcases List.mem_append.1 hy with hy | hy
    · obtain ⟨g, hg, e⟩ := h.has y hy; exact ⟨g, by simp [hg], e⟩
    · obtain rfl := List.mem_singleton.1 hy; exact ⟨(kyt y, addS [] y.2.2), by simp, rfl⟩
  · intro g hg
    rcases List.mem_append.1 hg with hg | hg
    · obtain ⟨y, hy, e⟩ := h.ofD g hg; exact ⟨y, by simp [hy], e⟩
    · obtain rfl := List.mem_singleton.1 hg; exact ⟨x, by simp, rfl⟩
  · intro g hg s hs
    rcases List.mem_append.1 hg with hg | hg
    · obtain ⟨y, hy, e⟩ := h.fr g hg s hs; exact ⟨y, by simp [hy], e⟩
    · obtain rfl := List.mem_singleton.1 hg
      exact ⟨x, by simp, rfl, (a3 s hs).symm⟩
theorem Inv.step {D : List Tmb} {G : List Gv} (h : Inv D G) (x : Tmb) (hx : ∀ y ∈ D, ltT x y = false) : Inv (D ++ [x]) (addG G x) := by
  have le : ∀ y ∈ D, klt (kyt x) (kyt y) = false ∧ (kyt x = kyt y → y.2.2.1 ≤ x.2.2.1) := fun y hy => by
    have := hx y hy
    unfold ltT at this
    rw [Bool.or_eq_false_iff, Bool.and_eq_false_iff] at this
    refine ⟨this.1, fun e => ?_⟩
    rcases this.2 with h2 | h2
    · exact absurd e (of_decide_eq_false h2)
    · have := of_decide_eq_false h2; omega
  rcases snoc_or G with rfl | ⟨T, l, rfl⟩
  · rw [addG_nil]
    exact Inv.fresh h x (fun g hg => by cases hg)
  · rw [addG_snoc]
    have hkT := (List.pairwise_append.1 h.keys).2.2
    by_cases e : l.1 = kyt x
    · rw [if_pos e]
      obtain ⟨a1, a2, a3⟩ := addS_good (h.good l (by simp)) x.2.2 (fun a ha => by
        obtain ⟨y, hy, e1, e2⟩ := h.fr l (by simp) a ha
        have := (le y hy).2 (by rw [e1, e]); omega)
      have nT : ∀ g ∈ T, g.1 ≠ kyt x := fun g hg e2 => by
        have := hkT g hg l (by simp); rw [e, e2, klt_irrefl] at this; cases this
      constructor
      · have := h.keys
        rw [List.pairwise_append] at this ⊢
        exact ⟨this.1, by simp, fun a ha b hb => by obtain rfl := List.mem_singleton.1 hb; exact this.2.2 a ha l (by simp)⟩
      · intro g hg
        rcases List.mem_append.1 hg with hg | hg
        · exact h.good g (by simp [hg])
        · obtain rfl := List.mem_singleton.1 hg; exact a1
      · intro g hg t
        rcases List.mem_append.1 hg with hg | hg
        · rw [h.says g (by simp [hg]) t]
          constructor
          · rintro ⟨y, hy, hh⟩; exact ⟨y, by simp [hy], hh⟩
          · rintro ⟨y, hy, e3, hh⟩
            rcases List.mem_append.1 hy with hy | hy
            · exact ⟨y, hy, e3, hh⟩
            · rw [List.mem_singleton.1 hy] at e3; exact absurd e3.symm (nT g hg)
        · obtain rfl := List.mem_singleton.1 hg
          simp only
          rw [a2 t, h.says l (by simp) t]
          constructor
          · rintro (⟨y, hy, hh⟩ | hh)
            · exact ⟨y, by simp [hy], hh⟩
            · exact ⟨x, by simp, e.symm, hh⟩
          · rintro ⟨y, hy, e3, hh⟩
            rcases List.mem_append.1 hy with hy | hy
            · exact .inl ⟨y, hy, e3, hh⟩
            · obtain rfl := List.mem_singleton.1 hy; exact .inr hh
      · intro y hy
        rcases List.mem_append.1 hy with hy | hy
        · obtain ⟨g, hg, e3⟩ := h.has y hy
          rcases List.mem_append.1 hg with hg | hg
          · exact ⟨g, by simp [hg], e3⟩
          · rw [List.mem_singleton.1 hg] at e3; exact ⟨(l.1, addS l.2 x.2.2), by simp, e3⟩
        · rw [List.mem_singleton.1 hy]; exact ⟨(l.1, addS l.2 x.2.2), by simp, e⟩
      · intro g hg
        rcases List.mem_append.1 hg with hg | hg
        · obtain ⟨y, hy, e3⟩ := h.ofD g (by simp [hg]); exact ⟨y, by simp [hy], e3⟩
        · obtain rfl := List.mem_singleton.1 hg; exact ⟨x, by simp, e.symm⟩
      · intro g hg s hs
        rcases List.mem_append.1 hg with hg | hg
        · obtain ⟨y, hy, e3⟩ := h.fr g (by simp [hg]) s hs; exact ⟨y, by simp [hy], e3⟩
        · obtain rfl := List.mem_singleton.1 hg
          rcases a3 s hs with e3 | ⟨b, hb, e3⟩
          · exact ⟨x, by simp, e.symm, e3.symm⟩
          · obtain ⟨y, hy, e4, e5⟩ := h.fr l (by simp) b hb
            exact ⟨y, by simp [hy], e4, e5.trans e3⟩
    · rw [if_neg e]
      have hl : klt l.1 (kyt x) = true := by
        obtain ⟨y, hy, e2⟩ := h.ofD l (by simp)
        have h1 := (le y hy).1
        rw [e2] at h1
        rcases klt_total e with k | k
        · exact k
        · rw [h1] at k; cases k
      refine Inv.fresh h x fun g hg => ?_
      rcases List.mem_append.1 hg with hg | hg
      · exact klt_trans (hkT g hg l (by simp)) hl
      · obtain rfl := List.mem_singleton.1 hg; exact hl
theorem inv_build : ∀ (R : List Tmb), R.Pairwise (fun a b => ltT b a = false) → Inv R (build R) := by
  have key : ∀ (R : List Tmb) (k : Nat), k ≤ R.length → R.Pairwise (fun a b => ltT b a = false) → Inv (R.take k) (build (R.take k)) := by
    intro R k
    induction k with
    | zero => intro _ _; exact Inv.nil
    | succ k ih =>
      intro hk hp
      have h := ih (by omega) hp
      rw [build_take R k (by omega)]
      have e : R.take (k + 1) = R.take k ++ [R.getD k t0] := by
        rw [List.take_add_one, List.getElem?_eq_getElem (by omega), List.getD_eq_getElem?_getD, List.getElem?_eq_getElem (by omega)]; rfl
      have hp2 : (R.take (k + 1)).Pairwise (fun a b => ltT b a = false) := hp.sublist (List.take_sublist _ _)
      rw [e] at hp2 ⊢
      exact h.step _ fun y hy => (List.pairwise_append.1 hp2).2.2 y hy _ (by simp)
  intro R hp
  have := key R R.length (Nat.le_refl _) hp
  rwa [List.take_length] at this
/-- The spans of a place. -/
def lk (G : List Gv) (k : Ky) : List Spn := ((G.find? fun g => decide (g.1 = k)).map (·.2)).getD []
theorem look_of {G : List Gv} (h : G.Pairwise (fun a b => klt a.1 b.1 = true)) {g : Gv} (hg : g ∈ G) : lk G g.1 = g.2 := by
  unfold lk
  induction G with
  | nil => cases hg
  | cons a r ih =>
    rw [List.find?_cons]
    rcases List.mem_cons.1 hg with rfl | hr
    · simp
    · have h1 := (List.pairwise_cons.1 h).1 g hr
      have : decide (a.1 = g.1) = false := decide_eq_false (klt_ne h1)
      rw [this]
      exact ih (List.pairwise_cons.1 h).2 hr
theorem look_none {G : List Gv} {k : Ky} (h : ∀ g ∈ G, g.1 ≠ k) : lk G k = [] := by
  unfold lk
  rw [List.find?_eq_none.2 (fun g hg => by simpa using h g hg)]
  rfl
theorem inS_look {D : List Tmb} {G : List Gv} (h : Inv D G) (k : Ky) (t : Int) : inS (lk G k) t = true ↔ ∃ x ∈ D, kyt x = k ∧ x.2.2.1 ≤ t ∧ t ≤ x.2.2.2 := by
  by_cases e : ∃ g ∈ G, g.1 = k
  · obtain ⟨g, hg, rfl⟩ := e
    rw [look_of h.keys hg]
    exact h.says g hg t
  · rw [look_none fun g hg e2 => e ⟨g, hg, e2⟩]
    constructor
    · intro h; simp [inS] at h
    · rintro ⟨x, hx, e2, _⟩
      obtain ⟨g, hg, e3⟩ := h.has x hx
      exact absurd ⟨g, hg, e3.trans e2⟩ e
theorem good_look {D : List Tmb} {G : List Gv} (h : Inv D G) (k : Ky) : Gd (lk G k) := by
  by_cases e : ∃ g ∈ G, g.1 = k
  · obtain ⟨g, hg, rfl⟩ := e
    rw [look_of h.keys hg]
    exact h.good g hg
  · rw [look_none fun g hg e2 => e ⟨g, hg, e2⟩]
    exact ⟨.nil, by simp⟩
/-- What the graves say is what the tombs say. -/
theorem cov_eq {L R : List Tmb} (hp : R.Perm L) (h : Inv R (build R)) (k : Ky) (t : Int) : (inS (lk (build R) (k.1, ⟨#[]⟩)) t || inS (lk (build R) k) t) = cov L k t := by
  rw [Bool.eq_iff_iff, Bool.or_eq_true, inS_look h, inS_look h]
  unfold cov
  rw [List.any_eq_true]
  constructor
  · rintro (⟨x, hx, e, h1, h2⟩ | ⟨x, hx, e, h1, h2⟩)
    · refine ⟨x, hp.mem_iff.1 hx, ?_⟩
      have e1 : x.1 = k.1 := congrArg Prod.fst e
      have e2 : x.2.1 = ⟨#[]⟩ := congrArg Prod.snd e
      simp [hit, e1, e2, h1, h2]
    · refine ⟨x, hp.mem_iff.1 hx, ?_⟩
      have e1 : x.1 = k.1 := congrArg Prod.fst e
      have e2 : x.2.1 = k.2 := congrArg Prod.snd e
      simp [hit, e1, e2, h1, h2]
  · rintro ⟨x, hx, hh⟩
    have hx := hp.mem_iff.2 hx
    simp only [hit, Bool.and_eq_true, Bool.or_eq_true, decide_eq_true_eq] at hh
    obtain ⟨⟨e1, e2 | e2⟩, h1, h2⟩ := hh
    · exact .inl ⟨x, hx, Prod.ext e1 e2, h1, h2⟩
    · exact .inr ⟨x, hx, Prod.ext e1 e2, h1, h2⟩
/-- How many begin no later. -/
def cnt (S : List Spn) (t : Int) : Nat := (List.range S.length).countP fun i => !decide ((S.getD i s0).1 > t)
theorem good_get {S : List Spn} (h : Gd S) {i j : Nat} (hij : i < j) (hj : j < S.length) : (S.getD i s0).2 < (S.getD j s0).1 ∧ (S.getD i s0).1 ≤ (S.getD i s0).2 := by
  have e1 : S.getD i s0 = S[i]'(by omega) := by rw [List.getD_eq_getElem?_getD, List.getElem?_eq_getElem (by omega)]; rfl
  have e2 : S.getD j s0 = S[j]'hj := by rw [List.getD_eq_getElem?_getD, List.getElem?_eq_getElem hj]; rfl
  rw [e1, e2]
  exact ⟨List.pairwise_iff_getElem.1 h.1 i j (by omega) hj hij, h.2 _ (List.getElem_mem _)⟩
theorem mono_get {S : List Spn} (h : Gd S) (t : Int) (a b : Nat) (hab : a ≤ b) (hb : b < S.length) (ha : decide ((S.getD a s0).1 > t) = true) : decide ((S.getD b s0).1 > t) = true := by
  rw [decide_eq_true_iff] at ha ⊢
  by_cases e : a = b
  · subst e; exact ha
  · have := good_get h (show a < b by omega) hb; omega
theorem cnt_le (S : List Spn) (t : Int) : cnt S t ≤ S.length := by
  unfold cnt
  have := List.countP_le_length (p := fun i => !decide ((S.getD i s0).1 > t)) (l := List.range S.length)
  simpa using this
theorem cnt_take {n : Nat} (p : Nat → Bool) (hm : ∀ a b, a ≤ b → b < n → p a = true → p b = true) (i : Nat) (hi : i < n) : i < (List.range n).countP (fun i => !p i) ↔ p i = false := by
  induction n with
  | zero => omega
  | succ n ih =>
    rw [List.range_succ, List.countP_append]
    by_cases hin : i < n
    · have ih' := ih (fun a b h1 h2 h3 => hm a b h1 (by omega) h3) hin
      constructor
      · intro h
        by_cases hc : p i = false
        · exact hc
        · exfalso
          have hpi : p i = true := by simpa using hc
          have hn := hm i n (by omega) (by omega) hpi
          have : ¬ i < (List.range n).countP (fun i => !p i) := fun h2 => hc (ih'.1 h2)
          simp [hn] at h
          exact this h
      · intro h; have := ih'.2 h; omega
    · obtain rfl : i = n := by omega
      constructor
      · intro h
        by_cases hc : p i = false
        · exact hc
        · exfalso
          have hpi : p i = true := by simpa using hc
          simp [hpi] at h
          have := List.countP_le_length (p := fun i => !p i) (l := List.range i)
          rw [List.length_range] at this
          omega
      · intro h
        have hall : (List.range i).countP (fun j => !p j) = i := by
          have : (List.range i).countP (fun j => !p j) = (List.range i).length := by
            rw [List.countP_eq_length]
            intro j hj
            have hj' : j < i := by simpa using hj
            cases e : p j
            · rfl
            · have := hm j i (by omega) (by omega) e; rw [h] at this; cases this
          simpa using this
        rw [hall]; simp [h]
end Gm
end Go.Proofs.Ytmlbmiegfeadjaa
