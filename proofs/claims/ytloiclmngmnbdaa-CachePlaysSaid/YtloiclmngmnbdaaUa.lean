/- The document's table: plain mathematics. The document's table in memory; At, Size. The document's table: Size, Get. The document's table: pieces of rows, appended. The document's table: a column's points laid anew. -/
import Derived.Test.YtloiclmngmnbdaaTb
import Derived.Test.YtloiclmngmnbdaaCz
import Derived.Test.YtloiclmngmnbdaaDb
import Derived.Deep.DeepCutAuto
namespace Go.Proofs.Ytloiclmngmnbdaa
open Go.RowKit
namespace Ua
open Jb Ca Ck Ct Ce Tb

def k0 : Ky := (⟨#[]⟩, ⟨#[]⟩)
def c0 : Ky × List Pnt := (k0, [])
/-- How many columns stand ahead of k. -/
def pos (T : Tab) (k : Ky) : Nat := match T with
  | [] => 0
  | c :: r => if klt c.1 k = true then pos r k + 1 else 0
/-- Whether k stands there. -/
def fnd (T : Tab) (k : Ky) : Bool := decide (pos T k < T.length) && decide ((T.getD (pos T k) c0).1 = k)
theorem pos_le (T : Tab) (k : Ky) : pos T k ≤ T.length := by
  induction T with
  | nil => exact Nat.le_refl _
  | cons c r ih => unfold pos; split <;> simp <;> omega
theorem pos_of {T : Tab} {k : Ky} {i : Nat} (hi : i ≤ T.length) (h1 : ∀ j, j < i → klt (T.getD j c0).1 k = true) (h2 : i < T.length → klt (T.getD i c0).1 k = false) : pos T k = i := by
  induction T generalizing i with
  | nil => simp at hi; unfold pos; omega
  | cons c r ih =>
    unfold pos
    cases i with
    | zero =>
      have := h2 (by simp)
      simp only [List.getD_cons_zero] at this
      rw [if_neg (by rw [this]; decide)]
    | succ i =>
      have := h1 0 (by omega)
      simp only [List.getD_cons_zero] at this
      rw [if_pos this, ih (i := i) (by simpa using hi) (fun j hj => by simpa using h1 (j + 1) (by omega)) (fun hl => by simpa using h2 (by simpa using hl))]
theorem fnd_cons (c : Ky × List Pnt) (r : Tab) (k : Ky) : fnd (c :: r) k = if klt c.1 k = true then fnd r k else decide (c.1 = k) := by
  unfold fnd
  by_cases h : klt c.1 k = true
  · rw [if_pos h]
    have : pos (c :: r) k = pos r k + 1 := by conv => lhs; unfold pos; rw [if_pos h]
    rw [this]; simp
  · rw [if_neg h]
    have : pos (c :: r) k = 0 := by conv => lhs; unfold pos; rw [if_neg h]
    rw [this]; simp
theorem tset_old {T : Tab} {k : Ky} {L : List Pnt} (hL : L ≠ []) (h : fnd T k = true) : tset T k L = T.set (pos T k) (k, L) := by
  induction T with
  | nil => simp [fnd, pos] at h
  | cons c r ih =>
    obtain ⟨a, M⟩ := c
    rw [fnd_cons] at h
    unfold tset pos
    by_cases e : a = k
    · subst e
      rw [if_pos rfl, if_neg hL, if_neg (by rw [klt_irrefl]; decide)]; rfl
    · by_cases hk : klt a k = true
      · rw [if_pos hk] at h
        rw [if_neg e, if_neg (by rw [klt_asymm hk]; decide), if_pos hk, ih h]; rfl
      · rw [if_neg hk] at h
        exact absurd (by simpa using h) e
theorem tset_new {T : Tab} {k : Ky} {L : List Pnt} (hL : L ≠ []) (h : fnd T k = false) : tset T k L = T.take (pos T k) ++ (k, L) :: T.drop (pos T k) := by
  induction T with
  | nil => unfold tset; rw [if_neg hL]; rfl
  | cons c r ih =>
    obtain ⟨a, M⟩ := c
    rw [fnd_cons] at h
    unfold tset pos
    by_cases hk : klt a k = true
    · rw [if_pos hk] at h
      rw [if_neg (klt_ne hk), if_neg (by rw [klt_asymm hk]; decide), if_pos hk, ih h]; rfl
    · rw [if_neg hk] at h
      have e : a ≠ k := by simpa using h
      have := (klt_total e).resolve_left hk
      rw [if_neg e, if_pos this, if_neg hL, if_neg hk]; rfl
theorem tget_old {T : Tab} {k : Ky} (h : fnd T k = true) : tget T k = (T.getD (pos T k) c0).2 := by
  induction T with
  | nil => simp [fnd, pos] at h
  | cons c r ih =>
    obtain ⟨a, M⟩ := c
    rw [fnd_cons] at h
    unfold tget pos
    by_cases e : a = k
    · subst e
      rw [if_pos rfl, if_neg (by rw [klt_irrefl]; decide)]; rfl
    · by_cases hk : klt a k = true
      · rw [if_pos hk] at h
        rw [if_neg e, if_pos hk, ih h]; simp
      · rw [if_neg hk] at h
        exact absurd (by simpa using h) e
theorem tget_new {T : Tab} (hs : Srt T) {k : Ky} (h : fnd T k = false) : tget T k = [] := by
  induction T with
  | nil => rfl
  | cons c r ih =>
    obtain ⟨a, M⟩ := c
    obtain ⟨h1, h2⟩ := List.pairwise_cons.1 hs
    rw [fnd_cons] at h
    by_cases hk : klt a k = true
    · rw [if_pos hk] at h
      unfold tget
      rw [if_neg (klt_ne hk), ih h2 h]
    · rw [if_neg hk] at h
      have e : a ≠ k := by simpa using h
      have := (klt_total e).resolve_left hk
      refine tget_none fun c hc => ?_
      rcases List.mem_cons.1 hc with rfl | hc
      · exact e
      · exact (klt_ne (klt_trans this (h1 c hc))).symm
/-- What a range's going makes of one column. -/
def cf (k : Ky) (a b : Int) (c : Ky × List Pnt) : Ky × List Pnt := if c.1 = k then (c.1, cut a b c.2) else c
def cn (k : Ky) (a b : Int) (c : Ky × List Pnt) : Nat := if c.1 = k then (rng a b c.2).length else 0
def ne (c : Ky × List Pnt) : Bool := !c.2.isEmpty
def tk (T : Tab) (k : Ky) (a b : Int) : Tab := (T.map (cf k a b)).filter ne
def tn (T : Tab) (k : Ky) (a b : Int) : Nat := (T.map (cn k a b)).sum
theorem tk_no {T : Tab} {k : Ky} {a b : Int} (h : ∀ c ∈ T, c.1 ≠ k) (hn : ∀ c ∈ T, c.2 ≠ []) : tk T k a b = T ∧ tn T k a b = 0 := by
  induction T with
  | nil => exact ⟨rfl, rfl⟩
  | cons c r ih =>
    obtain ⟨i1, i2⟩ := ih (fun c hc => h c (by simp [hc])) (fun c hc => hn c (by simp [hc]))
    have e := h c (by simp)
    have n := hn c (by simp)
    unfold tk tn at *
    rw [List.map_cons, List.map_cons, List.sum_cons, i2]
    unfold cf cn
    rw [if_neg e, if_neg e, List.filter_cons_of_pos (by unfold ne; simpa using n)]
    unfold cf at i1
    rw [i1]
    exact ⟨rfl, rfl⟩
theorem tset_no {T : Tab} {k : Ky} (h : ∀ c ∈ T, c.1 ≠ k) : tset T k [] = T := by
  induction T with
  | nil => rfl
  | cons c r ih =>
    obtain ⟨a, M⟩ := c
    unfold tset
    rw [if_neg (h (a, M) (by simp)), if_pos rfl, ih fun c hc => h c (by simp [hc])]
    split <;> rfl
theorem tk_eq {T : Tab} (hs : Srt T) (hn : ∀ c ∈ T, c.2 ≠ []) (k : Ky) (a b : Int) : tk T k a b = tset T k (cut a b (tget T k)) ∧ tn T k a b = (rng a b (tget T k)).length := by
  induction T with
  | nil => exact ⟨rfl, rfl⟩
  | cons c r ih =>
    obtain ⟨x, M⟩ := c
    obtain ⟨h1, h2⟩ := List.pairwise_cons.1 hs
    have hn2 : ∀ c ∈ r, c.2 ≠ [] := fun c hc => hn c (by simp [hc])
    have hM : M ≠ [] := hn (x, M) (by simp)
    by_cases e : x = k
    · subst e
      obtain ⟨q1, q2⟩ := tk_no (a := a) (b := b) (T := r) (k := x) (fun c hc => (klt_ne (h1 c hc)).symm) hn2
      unfold tk tn at *
      rw [List.map_cons, List.map_cons, List.sum_cons, q2]
      unfold tset tget
      rw [if_pos rfl, if_pos rfl]
      have e1 : cf x a b (x, M) = (x, cut a b M) := by unfold cf; rw [if_pos rfl]
      have e2 : cn x a b (x, M) = (rng a b M).length := by unfold cn; rw [if_pos rfl]
      rw [e1, e2]
      refine ⟨?_, rfl⟩
      by_cases hc : cut a b M = []
      · rw [if_pos hc, List.filter_cons_of_neg (by unfold ne; simp [hc]), q1]
      · rw [if_neg hc, List.filter_cons_of_pos (by unfold ne; simpa using hc), q1]
    · have e1 : cf k a b (x, M) = (x, M) := by unfold cf; rw [if_neg e]
      have e2 : cn k a b (x, M) = 0 := by unfold cn; rw [if_neg e]
      have st : tk ((x, M) :: r) k a b = (x, M) :: tk r k a b := by
        unfold tk
        rw [List.map_cons, e1, List.filter_cons_of_pos (by unfold ne; simpa using hM)]
      have sn : tn ((x, M) :: r) k a b = tn r k a b := by
        unfold tn
        rw [List.map_cons, List.sum_cons, e2, Nat.zero_add]
      have sg : tget ((x, M) :: r) k = tget r k := by conv => lhs; unfold tget; rw [if_neg e]
      rw [st, sn, sg]
      obtain ⟨i1, i2⟩ := ih h2 hn2
      refine ⟨?_, i2⟩
      by_cases hk : klt k x = true
      · have hno : ∀ c ∈ r, c.1 ≠ k := fun c hc => (klt_ne (klt_trans hk (h1 c hc))).symm
        rw [tget_none hno, (tk_no hno hn2).1]
        unfold tset
        rw [if_neg e, if_pos hk]; rfl
      · rw [i1]
        conv => rhs; unfold tset
        rw [if_neg e, if_neg hk]
theorem tk_snoc (T : Tab) (c : Ky × List Pnt) (k : Ky) (a b : Int) : tk (T ++ [c]) k a b = tk T k a b ++ (if (cf k a b c).2 = [] then [] else [cf k a b c]) := by
  unfold tk
  rw [List.map_append, List.filter_append]
  congr 1
  simp only [List.map_cons, List.map_nil]
  split
  · rename_i h; rw [List.filter_cons_of_neg (by unfold ne; simp [h])]; rfl
  · rename_i h; rw [List.filter_cons_of_pos (by unfold ne; simpa using h)]; rfl
theorem tn_snoc (T : Tab) (c : Ky × List Pnt) (k : Ky) (a b : Int) : tn (T ++ [c]) k a b = tn T k a b + cn k a b c := by
  unfold tn
  rw [List.map_append, List.sum_append]; simp
theorem ins_eq {L : List Pnt} (h : Rise L) (p : Pnt) : ins p L = L.take (cnt p.1 L) ++ p :: L.drop (cnt p.1 L + if has p.1 L then 1 else 0) := by
  cases e : has p.1 L
  · rw [ins_new h p e]; simp
  · have := (has_iff h p.1).1 e
    rw [ins_old h p e, List.set_eq_take_append_cons_drop, if_pos this.1]; simp
/-- Two sorted rows of the same keys are one. -/
theorem rows_eq : ∀ {xs ys : List Ky}, xs.Pairwise (fun a b => klt a b = true) → ys.Pairwise (fun a b => klt a b = true) → (∀ x, x ∈ xs ↔ x ∈ ys) → xs = ys
  | [], [], _, _, _ => rfl
  | [], y :: r, _, _, h => absurd ((h y).2 (by simp)) (by simp)
  | x :: r, [], _, _, h => absurd ((h x).1 (by simp)) (by simp)
  | x :: r, y :: t, hx, hy, h => by
    obtain ⟨x1, x2⟩ := List.pairwise_cons.1 hx
    obtain ⟨y1, y2⟩ := List.pairwise_cons.1 hy
    have e : x = y := by
      rcases List.mem_cons.1 ((h x).1 (by simp)) with e | e
      · exact e
      · rcases List.mem_cons.1 ((h y).2 (by simp)) with e' | e'
        · exact e'.symm
        · have a := y1 x e
          have b := x1 y e'
          have := klt_trans a b
          rw [klt_irrefl] at this; cases this
    subst e
    congr 1
    refine rows_eq x2 y2 fun z => ?_
    constructor
    · intro hz
      rcases List.mem_cons.1 ((h z).1 (by simp [hz])) with e | e
      · subst e; have := x1 z hz; rw [klt_irrefl] at this; cases this
      · exact e
    · intro hz
      rcases List.mem_cons.1 ((h z).2 (by simp [hz])) with e | e
      · subst e; have := y1 z hz; rw [klt_irrefl] at this; cases this
      · exact e
theorem mem_keys {T : Tab} (hs : Srt T) (hn : ∀ c ∈ T, c.2 ≠ []) (k : Ky) : k ∈ T.map (·.1) ↔ tget T k ≠ [] := by
  induction T with
  | nil => simp [tget]
  | cons c r ih =>
    obtain ⟨a, M⟩ := c
    obtain ⟨h1, h2⟩ := List.pairwise_cons.1 hs
    have ih := ih h2 (fun c hc => hn c (by simp [hc]))
    have hM : M ≠ [] := hn (a, M) (by simp)
    unfold tget
    by_cases e : a = k
    · subst e; rw [if_pos rfl]; simp [hM]
    · rw [if_neg e, ← ih]; simp [Ne.symm e]
theorem keys_srt {T : Tab} (hs : Srt T) : (T.map (·.1)).Pairwise (fun a b => klt a b = true) := by
  rw [List.pairwise_map]; exact hs
theorem tget_at {T : Tab} (hs : Srt T) {i : Nat} (hi : i < T.length) : tget T (T.getD i c0).1 = (T.getD i c0).2 := by
  induction T generalizing i with
  | nil => simp at hi
  | cons c r ih =>
    obtain ⟨a, M⟩ := c
    obtain ⟨h1, h2⟩ := List.pairwise_cons.1 hs
    cases i with
    | zero => simp [tget]
    | succ i =>
      have hi' : i < r.length := by simpa using hi
      have hm : (r.getD i c0) ∈ r := by rw [List.getD_eq_getElem?_getD, List.getElem?_eq_getElem hi']; exact List.getElem_mem _
      simp only [List.getD_cons_succ]
      unfold tget
      rw [if_neg (klt_ne (h1 _ hm)), ih h2 hi']
end Ua
end Go.Proofs.Ytloiclmngmnbdaa

namespace Go.Proofs.Ytloiclmngmnbdaa
open Go.RowKit Go.Maps Go.ChangeMaps Go.MapKept
namespace Ub
open Jb Ca Ck Ct Cd Cz Ce Tb Ua

abbrev Col := Ky × List Pnt × Value
def ccl (R : List Col) : List Value := R.flatMap fun c => [.string c.1.1, .string c.1.2, c.2.2]
def tab (R : List Col) : Tab := R.map fun c => (c.1, c.2.1)
def cz : Col := (Ua.k0, [], .slice none 0 0)
theorem ccl_cons (c : Col) (R : List Col) : ccl (c :: R) = [.string c.1.1, .string c.1.2, c.2.2] ++ ccl R := rfl
theorem ccl_app (R T : List Col) : ccl (R ++ T) = ccl R ++ ccl T := by unfold ccl; rw [List.flatMap_append]
theorem ccl_len (R : List Col) : (ccl R).length = R.length * 3 := by
  induction R with
  | nil => rfl
  | cons c r ih => rw [ccl_cons, List.length_append, ih]; simp; omega
theorem ccl_get (R : List Col) (i j : Nat) (hj : j < 3) (hi : i < R.length) : (ccl R)[i * 3 + j]? = [Value.string (R.getD i cz).1.1, .string (R.getD i cz).1.2, (R.getD i cz).2.2][j]? := by
  induction R generalizing i with
  | nil => simp at hi
  | cons c r ih =>
    rw [ccl_cons]
    cases i with
    | zero => rw [List.getElem?_append_left (by simp; omega)]; simp
    | succ i =>
      rw [List.getElem?_append_right (by simp; omega)]
      have := ih i (by simpa using hi)
      simp only [List.length_cons, List.length_nil]
      rw [show (i + 1) * 3 + j - (0 + 1 + 1 + 1) = i * 3 + j by omega, this]
      simp
theorem tab_len (R : List Col) : (tab R).length = R.length := by simp [tab]
theorem tab_get (R : List Col) (i : Nat) : (tab R).getD i c0 = ((R.getD i cz).1, (R.getD i cz).2.1) := by
  unfold tab
  rw [List.getD_eq_getElem?_getD, List.getD_eq_getElem?_getD, List.getElem?_map]
  cases R[i]? <;> rfl
theorem getD_in {R : List Col} {i : Nat} (h : i < R.length) : R.getD i cz ∈ R := by
  rw [List.getD_eq_getElem?_getD, List.getElem?_eq_getElem h]; exact List.getElem_mem _
/-- A row of columns in memory, its blocks in S. -/
structure Tm (w : World) (S : Nat → Prop) (v : Value) (R : List Col) : Prop where
  own : w.ownsRow 0 54 3 v R.length (ccl R)
  ob : ∀ k, v.ownBlock = some k → S k
  rows : ∀ c ∈ R, w.ownsRow 0 32 4 c.2.2 c.2.1.length (pcs c.2.1) ∧ ∀ k, c.2.2.ownBlock = some k → S k
theorem own_forms {w : World} {B t k n : Nat} {v : Value} {xs : List Value} (h : w.ownsRow B t k v n xs) : ∃ a c, v = .slice a n c := by
  rcases h.2 with ⟨rfl, rfl⟩ | ⟨g, cap, _, rfl, _⟩
  · exact ⟨_, _, rfl⟩
  · exact ⟨_, _, rfl⟩
/-- One column's cells. -/
theorem Tm.at {w : World} {S : Nat → Prop} {v : Value} {R : List Col} (h : Tm w S v R) {i : Nat} (hi : i < R.length) :
    ∃ b c, v = .slice (some ⟨b, 0, none⟩) R.length c ∧ R.length ≤ c ∧ S b ∧ b < w.heap.size ∧ w.cell? ⟨b, i * 3, none⟩ = some (.string (R.getD i cz).1.1) ∧ w.cell? ⟨b, i * 3 + 1, none⟩ = some (.string (R.getD i cz).1.2) ∧ w.cell? ⟨b, i * 3 + 2, none⟩ = some (R.getD i cz).2.2 := by
  obtain ⟨q, qc, hq⟩ := Go.Joins.ownsRow_form h.own (by omega)
  have o := h.own
  rw [hq] at o
  have hqc : R.length ≤ qc := by
    rcases o.2 with ⟨e, _⟩ | ⟨_, _, _, e, _, _, hc, _⟩
    · cases e
    · cases e; exact hc
  have x0 := (o.cellAt (i * 3) (by omega)).trans (ccl_get R i 0 (by omega) hi)
  have x1 := (o.cellAt (i * 3 + 1) (by omega)).trans (ccl_get R i 1 (by omega) hi)
  have x2 := (o.cellAt (i * 3 + 2) (by omega)).trans (ccl_get R i 2 (by omega) hi)
  exact ⟨q, qc, hq, hqc, h.ob q (by rw [hq]; rfl), (own_lt o rfl).2, x0, x1, x2⟩
/-- The points of a row. -/
theorem row_at {w : World} {B : Nat} {v : Value} {L : List Pnt} (h : w.ownsRow B 32 4 v L.length (pcs L)) {i : Nat} (hi : i < L.length) :
    ∃ b c, v = .slice (some ⟨b, 0, none⟩) L.length c ∧ L.length ≤ c ∧ b < w.heap.size ∧ PAt w b (i * 4) (L.getD i p0) := by
  obtain ⟨q, qc, hq⟩ := Go.Joins.ownsRow_form h (by omega)
  have o := h
  rw [hq] at o
  have hqc : L.length ≤ qc := by
    rcases o.2 with ⟨e, _⟩ | ⟨_, _, _, e, _, _, hc, _⟩
    · cases e
    · cases e; exact hc
  exact ⟨q, qc, hq, hqc, (own_lt o rfl).2, (o.cellAt (i * 4) (by omega)).trans (pcs_get L i 0 hi (by omega)), (o.cellAt (i * 4 + 1) (by omega)).trans (pcs_get L i 1 hi (by omega)), (o.cellAt (i * 4 + 2) (by omega)).trans (pcs_get L i 2 hi (by omega)), (o.cellAt (i * 4 + 3) (by omega)).trans (pcs_get L i 3 hi (by omega))⟩
/-- The document's cache at block h. -/
structure Rt (w : World) (S : Nat → Prop) (h m : Nat) (v : Value) (R : List Col) : Prop where
  c0 : w.cell? ⟨h, 0, none⟩ = some v
  c1 : w.cell? ⟨h, 1, none⟩ = some (.int .i64 (m : Nat))
  z : ∀ i, w.frozen? ⟨h, i, none⟩ = false
  tm : Tm w S v R
  nv : v.ownBlock ≠ some h
  nr : ∀ c ∈ R, c.2.2.ownBlock ≠ some h
  wp : ∀ c ∈ R, ∀ x ∈ c.2.1, Wp x
  sh : S h
  lt : ∀ k, S k → k < w.heap.size
  m9 : m ≤ 9223372036854775807
theorem Tm.move {w w' : World} {S : Nat → Prop} {v : Value} {R : List Col} (h : Tm w S v R) (e : ∀ k, S k → w'.heap[k]? = w.heap[k]?) : Tm w' S v R :=
  ⟨own_of_block h.own (fun k hk => e k (h.ob k hk)), h.ob, fun c hc => ⟨own_of_block (h.rows c hc).1 (fun k hk => e k ((h.rows c hc).2 k hk)), (h.rows c hc).2⟩⟩
theorem Rt.move {w w' : World} {S : Nat → Prop} {h m : Nat} {v : Value} {R : List Col} (H : Rt w S h m v R) (hs : w.heap.size ≤ w'.heap.size) (e : ∀ k, S k → w'.heap[k]? = w.heap[k]?) : Rt w' S h m v R :=
  ⟨(World.cell?_of_block (e h H.sh)).trans H.c0, (World.cell?_of_block (e h H.sh)).trans H.c1, fun i => (World.frozen?_of_block (e h H.sh)).trans (H.z i), H.tm.move e, H.nv, H.nr, H.wp, H.sh, fun k hk => Nat.lt_of_lt_of_le (H.lt k hk) hs, H.m9⟩
theorem Rt.below {w w' : World} {S : Nat → Prop} {h m B : Nat} {v : Value} {R : List Col} (H : Rt w S h m v R) (b : Below B w w') (hB : w.heap.size ≤ B) : Rt w' S h m v R :=
  H.move b.size fun k hk => b.block k (Nat.lt_of_lt_of_le (H.lt k hk) hB)
theorem Rt.drewN {w : World} {S : Nat → Prop} {h m : Nat} {v : Value} {R : List Col} (H : Rt w S h m v R) (n : Nat) : Rt (w.drewN n) S h m v R := H.move (Nat.le_refl _) fun _ _ => rfl
theorem bl_eq (a b : ByteArray) : Op.bytesLess a.toList b.toList = bl a b := rfl
theorem beq_eq (a b : ByteArray) : (a.toList == b.toList) = decide (a = b) := by
  by_cases h : a = b
  · subst h; simp
  · rw [toList_ne h, decide_eq_false h]
theorem klt_eq (s k : Ky) : klt s k = (bl s.1 k.1 || (decide (s.1 = k.1) && bl s.2 k.2)) := rfl
set_option maxRecDepth 100000
set_option maxHeartbeats 2000000 in
theorem at27 (w : World) (S : Nat → Prop) (h m : Nat) (v : Value) (R : List Col) (H : Rt w S h m v R) (k : Ky) (hn : R.length ≤ 1000000) :
    Calls Try.prog 27 #[.pointer (some ⟨h, 0, none⟩), .string k.1, .string k.2] w fun e w' => e = .returned (.tuple #[.int .i64 (pos (tab R) k : Nat), .bool (fnd (tab R) k)]) ∧ ∃ n, w' = w.drewN n := by
  obtain ⟨a, c, hv⟩ := own_forms H.tm.own
  have k0 := H.c0
  rw [hv] at k0
  obtain ⟨n, hN⟩ : ∃ n, n = R.length := ⟨_, rfl⟩
  rw [← hN] at k0 hn
  obtain ⟨k1, k2⟩ := k
  have AT := Lib.hid (show ∀ i, i < n → ∃ b s f, a = some ⟨b, 0, none⟩ ∧ n ≤ c ∧ w.cell? ⟨b, i * 3, none⟩ = some (.string s) ∧ w.cell? ⟨b, i * 3 + 1, none⟩ = some (.string f) ∧ ((tab R).getD i c0).1 = (s, f) from fun i hi => by
    obtain ⟨b, c', e, h1, h2, h3, h4, h5, h6⟩ := H.tm.at (i := i) (by omega)
    rw [hv, ← hN] at e
    cases e
    exact ⟨b, _, _, rfl, by omega, h4, h5, by rw [tab_get]⟩)
  have TL := Lib.hid (show (tab R).length = n by rw [tab_len, hN])
  have FIN : ∀ i, i ≤ n → (∀ j, j < i → klt ((tab R).getD j c0).1 (k1, k2) = true) → (i < n → klt ((tab R).getD i c0).1 (k1, k2) = false) → pos (tab R) (k1, k2) = i ∧ fnd (tab R) (k1, k2) = (decide (i < n) && decide (((tab R).getD i c0).1 = (k1, k2))) := fun i hi h1 h2 => by
    have hp := pos_of (T := tab R) (k := (k1, k2)) (i := i) (by rw [TL.out]; exact hi) h1 (by rw [TL.out]; exact h2)
    refine ⟨hp, ?_⟩
    unfold fnd
    rw [hp, TL.out]
  obtain ⟨PP, hPP⟩ : ∃ PP, PP = pos (tab R) (k1, k2) := ⟨_, rfl⟩
  obtain ⟨FF, hFF⟩ : ∃ FF, FF = fnd (tab R) (k1, k2) := ⟨_, rfl⟩
  rw [← hPP, ← hFF] at FIN ⊢
  have FI := Lib.hid FIN
  clear FIN TL H hN hv hPP hFF
  generalize htT : tab R = T at AT FI
  clear htT
  simp only
  go_enter Try.func27, Try.ntmps27
  go_wp2_with fail
  go_loop [8] (fun i => ∃ q, q ≤ n ∧ i = .int .i64 (q : Nat) ∧ ∀ j, j < q → klt (T.getD j c0).1 (k1, k2) = true) (fun i => n - (intOf i).toNat)
  case atStart => exact ⟨0, Nat.zero_le _, rfl, fun j hj => by omega⟩
  case round =>
    obtain ⟨q, hq, rfl, hall⟩ := hrel
    have HALL := Lib.hid hall
    clear hall
    by_cases hqn : q < n
    case neg =>
      obtain rfl : q = n := by omega
      obtain ⟨e1, e2⟩ := FI.out q (Nat.le_refl _) HALL.out (fun h => by omega)
      have E := Lib.hid (show PP = q ∧ FF = false from ⟨e1, by rw [e2, decide_eq_false (Nat.lt_irrefl _)]; rfl⟩)
      clear e1 e2 FI AT
      go_wp2_with fail
      go_quiet (fail)
      go_wp2_with fail
      go_ret2
      obtain ⟨g1, g2⟩ := E.out; rw [g1, g2]; exact ⟨rfl, _, rfl⟩
    obtain ⟨b, s, f, rfl, hnc, x0, x1, hsf⟩ := AT.out q hqn
    cases hk : klt (s, f) (k1, k2)
    case false =>
      obtain ⟨e1, e2⟩ := FI.out q hq HALL.out (fun _ => by rw [hsf]; exact hk)
      rw [hsf, decide_eq_true hqn, Bool.true_and] at e2
      have y1 : Op.bytesLess s.toList k1.toList = false := by
        rw [bl_eq]; rw [klt_eq] at hk; simp only at hk
        exact (Bool.or_eq_false_iff.1 hk).1
      by_cases hs : s = k1
      · subst hs
        have y2 : Op.bytesLess f.toList k2.toList = false := by
          rw [bl_eq]; rw [klt_eq] at hk; simp only at hk
          have := (Bool.or_eq_false_iff.1 hk).2
          simpa using this
        have y3 : (s.toList == s.toList) = true := by simp
        by_cases hf : f = k2
        · subst hf
          have e3 : decide ((s, f) = (s, f)) = true := by simp
          have y4 : (f.toList == f.toList) = true := by simp
          have E := Lib.hid (show PP = q ∧ FF = _ from ⟨e1, e2.trans e3⟩)
          clear e1 e2 e3 FI AT hk hsf
          go_wp2_with fail
          go_quiet (fail)
          go_wp2_with fail
          go_ret2
          obtain ⟨g1, g2⟩ := E.out; rw [g1, g2]; exact ⟨rfl, _, rfl⟩
        · have e3 : decide ((s, f) = (s, k2)) = false := by simp [hf]
          have y4 : (f.toList == k2.toList) = false := toList_ne hf
          have E := Lib.hid (show PP = q ∧ FF = _ from ⟨e1, e2.trans e3⟩)
          clear e1 e2 e3 FI AT hk hsf hf
          go_wp2_with fail
          go_quiet (fail)
          go_wp2_with fail
          go_ret2
          obtain ⟨g1, g2⟩ := E.out; rw [g1, g2]; exact ⟨rfl, _, rfl⟩
      · have e3 : decide ((s, f) = (k1, k2)) = false := by simp [hs]
        have y3 : (s.toList == k1.toList) = false := toList_ne hs
        have E := Lib.hid (show PP = q ∧ FF = _ from ⟨e1, e2.trans e3⟩)
        clear e1 e2 e3 FI AT hk hsf hs
        go_wp2_with fail
        go_quiet (fail)
        go_wp2_with fail
        go_ret2
        obtain ⟨g1, g2⟩ := E.out; rw [g1, g2]; exact ⟨rfl, _, rfl⟩
    case true =>
      have HK := Lib.hid (show klt (T.getD q c0).1 (k1, k2) = true by rw [hsf]; exact hk)
      have NX := Lib.hid (show ∀ j, j < q + 1 → klt (T.getD j c0).1 (k1, k2) = true from fun j hj => by
        by_cases e : j = q
        · subst e; exact HK.out
        · exact HALL.out j (by omega))
      by_cases hb : bl s k1 = true
      · have y1 : Op.bytesLess s.toList k1.toList = true := hb
        clear hk hsf hb HK HALL FI AT
        go_wp2_with fail
        go_round
        case rel => exact ⟨q + 1, by omega, by go_num, NX.out⟩
        case measure => simp [intOf]; omega
      · have y1 : Op.bytesLess s.toList k1.toList = false := by simpa [bl_eq] using hb
        rw [klt_eq] at hk
        simp only [Bool.or_eq_true, Bool.and_eq_true, decide_eq_true_eq] at hk
        obtain ⟨rfl, hb2⟩ := hk.resolve_left hb
        have y2 : Op.bytesLess f.toList k2.toList = true := hb2
        have y3 : (s.toList == s.toList) = true := by simp
        clear hk hsf hb hb2 HK HALL FI AT
        go_wp2_with fail
        go_round
        case rel => exact ⟨q + 1, by omega, by go_num, NX.out⟩
        case measure => simp [intOf]; omega
end Ub
end Go.Proofs.Ytloiclmngmnbdaa

namespace Go.Proofs.Ytloiclmngmnbdaa
open Go.RowKit Go.Maps Go.ChangeMaps Go.MapKept
namespace Uc
open Jb Ca Ck Ct Cd Cz Ce Tb Ua Ub Li

theorem tsum_take {T : Tab} {q : Nat} (hq : q < T.length) : tsum (T.take (q + 1)) = tsum (T.take q) + (T.getD q c0).2.length := by
  unfold tsum
  rw [List.take_add_one, List.getElem?_eq_getElem hq, List.map_append, List.sum_append, List.getD_eq_getElem?_getD, List.getElem?_eq_getElem hq]
  simp
theorem tsum_take_le (T : Tab) (q : Nat) : tsum (T.take q) ≤ tsum T := by
  unfold tsum
  conv => rhs; rw [← List.take_append_drop q T, List.map_append, List.sum_append]
  omega
set_option maxRecDepth 100000
theorem size13 (w : World) (S : Nat → Prop) (h m : Nat) (v : Value) (R : List Col) (H : Rt w S h m v R) (hs : tsum (tab R) ≤ 1000000) (hn : R.length ≤ 1000000) :
    Calls Try.prog 13 #[.pointer (some ⟨h, 0, none⟩)] w fun e w' => e = .returned (.int .i64 (tsum (tab R) : Nat)) ∧ w' = w := by
  obtain ⟨a, c, hv⟩ := own_forms H.tm.own
  have k0 := H.c0
  rw [hv] at k0
  obtain ⟨n, hN⟩ : ∃ n, n = R.length := ⟨_, rfl⟩
  rw [← hN] at k0 hn
  have AT := Lib.hid (show ∀ i, i < n → ∃ b ra l rc, a = some ⟨b, 0, none⟩ ∧ n ≤ c ∧ w.cell? ⟨b, i * 3 + 2, none⟩ = some (.slice ra l rc) ∧ tsum ((tab R).take (i + 1)) = tsum ((tab R).take i) + l ∧ tsum ((tab R).take (i + 1)) ≤ 1000000 from fun i hi => by
    obtain ⟨b, c', e, h1, h2, h3, h4, h5, h6⟩ := H.tm.at (i := i) (by omega)
    rw [hv, ← hN] at e
    cases e
    obtain ⟨ra, rc, hr⟩ := own_forms (H.tm.rows _ (getD_in (i := i) (by omega))).1
    rw [hr] at h6
    refine ⟨b, ra, _, rc, rfl, by omega, h6, ?_, Nat.le_trans (tsum_take_le _ _) hs⟩
    rw [tsum_take (by rw [tab_len]; omega), tab_get])
  have FI := Lib.hid (show tsum ((tab R).take n) = tsum (tab R) by rw [List.take_of_length_le (by rw [tab_len]; omega)])
  obtain ⟨X, hX⟩ : ∃ X, X = tsum (tab R) := ⟨_, rfl⟩
  rw [← hX] at FI hs ⊢
  generalize htT : tab R = T at AT FI
  clear htT hX H hN hv
  go_enter Try.func13, Try.ntmps13
  go_wp2_with fail
  go_loop [3, 4, 10] (fun z _ i => ∃ q, q ≤ n ∧ i = .int .i64 (q : Nat) ∧ z = .int .i64 (tsum (T.take q) : Nat)) (fun _ _ i => n - (intOf i).toNat)
  case atStart => exact ⟨0, Nat.zero_le _, rfl, by simp [tsum]⟩
  case round =>
    obtain ⟨q, hq, rfl, rfl⟩ := hrel
    by_cases hqn : q < n
    case neg =>
      obtain rfl : q = n := by omega
      rw [FI.out]
      clear FI AT
      go_wp2_with fail
      go_ret
      exact ⟨rfl, rfl⟩
    obtain ⟨b, ra, l, rc, rfl, hnc, x2, hs1, hs2⟩ := AT.out q hqn
    rw [hs1] at hs2
    have HS := Lib.hid hs1
    obtain ⟨Y, hY⟩ : ∃ Y, Y = tsum (T.take q) := ⟨_, rfl⟩
    rw [← hY] at hs2 HS ⊢
    clear hs1 hY
    go_wp2_with fail
    go_round
    case rel => exact ⟨q + 1, by omega, by go_num, by rw [HS.out]; go_num⟩
    case measure => simp [intOf]; omega
theorem rng_snoc (a b : Int) (L : List Pnt) {q : Nat} (hq : q < L.length) : rng a b (L.take (q + 1)) = rng a b (L.take q) ++ (if inr a b (L.getD q p0) = true then [L.getD q p0] else []) := by
  unfold rng
  rw [List.take_add_one, List.getElem?_eq_getElem hq, List.filter_append, List.getD_eq_getElem?_getD, List.getElem?_eq_getElem hq]
  congr 1
  simp only [Option.toList, Option.getD_some]
  split
  · rename_i h; rw [List.filter_cons_of_pos h]; rfl
  · rename_i h; rw [List.filter_cons_of_neg h]; rfl
theorem cut_snoc (a b : Int) (L : List Pnt) {q : Nat} (hq : q < L.length) : cut a b (L.take (q + 1)) = cut a b (L.take q) ++ (if inr a b (L.getD q p0) = true then [] else [L.getD q p0]) := by
  unfold cut
  rw [List.take_add_one, List.getElem?_eq_getElem hq, List.filter_append, List.getD_eq_getElem?_getD, List.getElem?_eq_getElem hq]
  congr 1
  simp only [Option.toList, Option.getD_some]
  split
  · rename_i h; rw [List.filter_cons_of_neg (by simp [h])]; rfl
  · rename_i h; rw [List.filter_cons_of_pos (by simpa using h)]; rfl
theorem rng_len (a b : Int) (L : List Pnt) (q : Nat) : (rng a b (L.take q)).length ≤ q := by
  unfold rng
  exact Nat.le_trans (List.length_filter_le _ _) (by rw [List.length_take]; omega)
theorem cut_len (a b : Int) (L : List Pnt) (q : Nat) : (cut a b (L.take q)).length ≤ q := by
  unfold cut
  exact Nat.le_trans (List.length_filter_le _ _) (by rw [List.length_take]; omega)
theorem in_iff (a b : Int) (p : Pnt) : inr a b p = (decide (p.1 ≥ a) && decide (p.1 ≤ b)) := rfl

set_option maxHeartbeats 2000000 in
theorem get16 (w : World) (S : Nat → Prop) (h m : Nat) (v : Value) (R : List Col) (H : Rt w S h m v R) (k : Ky) (a b : Int) (hn : R.length ≤ 1000000) (srt : Srt (tab R)) (hl : (tget (tab R) k).length ≤ 1000000) :
    Calls Try.prog 16 #[.pointer (some ⟨h, 0, none⟩), .string k.1, .string k.2, .int .i64 a, .int .i64 b] w fun e w' => ∃ r, e = .returned r ∧ w'.ownsRow w.heap.size 32 4 r (rng a b (tget (tab R) k)).length (pcs (rng a b (tget (tab R) k))) ∧ Below w.heap.size w w' := by
  have AT := Lib.hid (at27 w S h m v R H k hn)
  obtain ⟨i0, hi, hz0, hz1, hz2⟩ := info_parts infoP
  cases hf : fnd (tab R) k
  case false =>
    rw [tget_new srt hf]
    rw [hf] at AT
    clear H hl hf
    go_enter Try.func16, Try.ntmps16
    go_wp2_with (go_at_call 27; refine (AT.out).mono ?_; rintro e w' ⟨rfl, n, rfl⟩)
    go_ret
    exact ⟨_, rfl, World.ownsRow_nil _ _ _ _, bdn (Below.refl _ _) _⟩
  case true =>
    rw [hf] at AT
    have hp : pos (tab R) k < R.length := by
      unfold fnd at hf
      simp only [Bool.and_eq_true, decide_eq_true_eq] at hf
      rw [tab_len] at hf
      exact hf.1
    have hg := tget_old hf
    rw [tab_get] at hg
    simp only at hg
    obtain ⟨i, hii⟩ : ∃ i, i = pos (tab R) k := ⟨_, rfl⟩
    rw [← hii] at hp hg AT
    rw [hg] at hl ⊢
    obtain ⟨tb, tc, hv, hRc, hSb, htb, t0, t1, t2⟩ := H.tm.at hp
    have ho := (H.tm.rows _ (getD_in hp)).1
    obtain ⟨n, hN⟩ : ∃ n, n = R.length := ⟨_, rfl⟩
    have c0 := H.c0
    rw [hv] at c0
    rw [← hN] at c0 hp hRc
    obtain ⟨L, hL⟩ : ∃ L, L = (R.getD i cz).2.1 := ⟨_, rfl⟩
    obtain ⟨rv, hrv⟩ : ∃ rv, rv = (R.getD i cz).2.2 := ⟨_, rfl⟩
    rw [← hL, ← hrv] at ho
    rw [← hrv] at t2
    rw [← hL] at hl ⊢
    obtain ⟨ra, rc, hra⟩ := own_forms ho
    rw [hra] at t2
    obtain ⟨l, hll⟩ : ∃ l, l = L.length := ⟨_, rfl⟩
    rw [← hll] at t2 hl
    have ROW := Lib.hid (show ∀ j, j < l → ∃ rb, ra = some ⟨rb, 0, none⟩ ∧ l ≤ rc ∧ rb < w.heap.size ∧ PAt w rb (j * 4) (L.getD j p0) from fun j hj => by
      obtain ⟨rb, rc', e, h1, h2, h3⟩ := row_at ho (i := j) (by omega)
      rw [hra, ← hll] at e
      cases e
      exact ⟨rb, rfl, by omega, h2, h3⟩)
    have TK := Lib.hid (show L.take l = L from by rw [hll]; exact List.take_length)
    have LE := Lib.hid (show ∀ q, q < l → q < L.length from fun q hq => by omega)
    clear ho hra hrv hL hv hN hg hii t0 t1 srt hf H hll hSb
    go_enter Try.func16, Try.ntmps16
    go_wp2_with (go_at_call 27; refine (AT.out).mono ?_; rintro e w' ⟨rfl, dn, rfl⟩)
    go_loopw [13, 15, 34] (fun o _ q wr => ∃ j, j ≤ l ∧ q = .int .i64 (j : Nat) ∧ wr.ownsRow w.heap.size 32 4 o (rng a b (L.take j)).length (pcs (rng a b (L.take j))) ∧ Below w.heap.size w wr) (fun _ _ q _ => l - (intOf q).toNat)
    case atStart => exact ⟨0, Nat.zero_le _, rfl, by simpa [rng, pcs] using World.ownsRow_nil _ _ _ _, bdn (Below.refl _ _) _⟩
    case round =>
      obtain ⟨j, hj, rfl, ho, hbl⟩ := hrel
      have HO := Lib.hid ho
      have HB := Lib.hid hbl
      clear ho hbl
      by_cases hjl : j < l
      case neg =>
        obtain rfl : j = l := by omega
        go_wp2_with fail
        go_ret
        refine ⟨_, rfl, ?_, HB.out⟩
        have := HO.out
        rw [TK.out] at this
        exact this
      obtain ⟨rb, rfl, hlc, hrb, pat⟩ := ROW.out j hjl
      obtain ⟨x0, x1, x2, x3⟩ := pat.of_block (HB.out.block rb hrb)
      have RS := Lib.hid (rng_snoc a b L (LE.out j hjl))
      have RL := rng_len a b L j
      obtain ⟨y, hy⟩ : ∃ y, y = L.getD j p0 := ⟨_, rfl⟩
      rw [← hy] at x0 x1 x2 x3 RS
      clear hy pat
      have hzb := HB.out.size
      obtain ⟨t, kd, u, x⟩ := y
      simp only at x0 x1 x2 x3
      go_upto_region 8 with (fail)
      obtain ⟨wa, hwa⟩ : ∃ wa, wa = wr.alloc (.cells #[.int .i64 t, .int .i64 kd, .int .u64 (u : Nat), .string (str x)] 32) := ⟨_, rfl⟩
      rw [← hwa]
      have hb := heap_alloc_new wr (.cells #[.int .i64 t, .int .i64 kd, .int .u64 (u : Nat), .string (str x)] 32)
      rw [← hwa] at hb
      have y0 := cell_at hb 0
      have y1 := cell_at hb 1
      have y2 := cell_at hb 2
      have y3 := cell_at hb 3
      simp at y0 y1 y2 y3
      have WB := Lib.hid (show Below w.heap.size w wa from by rw [hwa]; exact HB.out.alloc hzb _)
      have WO := Lib.hid (show wa.ownsRow w.heap.size 32 4 u13 (rng a b (L.take j)).length (pcs (rng a b (L.take j))) from by rw [hwa]; exact HO.out.alloc _)
      have HZA := Lib.hid (show wa.heap.size = wr.heap.size + 1 by rw [hwa]; simp)
      clear hb hwa HO HB x0 x1 x2 x3 ROW TK AT
      by_cases hta : a ≤ t
      case neg =>
        have qa : decide (t ≥ a) = false := decide_eq_false hta
        rw [show inr a b (t, kd, u, x) = false by unfold inr; simp [hta]] at RS
        go_wp2_with fail
        go_roundw
        case rel => exact ⟨j + 1, by omega, by go_num, by rw [RS.out]; simpa using WO.out, WB.out⟩
        case measure => simp [intOf]; omega
      have qa : decide (t ≥ a) = true := decide_eq_true hta
      by_cases htb : t ≤ b
      case neg =>
        have qb : decide (t ≤ b) = false := decide_eq_false htb
        rw [show inr a b (t, kd, u, x) = false by unfold inr; simp [htb]] at RS
        go_wp2_with fail
        go_roundw
        case rel => exact ⟨j + 1, by omega, by go_num, by rw [RS.out]; simpa using WO.out, WB.out⟩
        case measure => simp [intOf]; omega
      have qb : decide (t ≤ b) = true := decide_eq_true htb
      rw [show inr a b (t, kd, u, x) = true by unfold inr; simp [hta, htb], if_pos rfl] at RS
      have RS2 := Lib.hid (show (rng a b (L.take (j + 1))).length = (rng a b (L.take j)).length + 1 ∧ pcs (rng a b (L.take (j + 1))) = pcs (rng a b (L.take j)) ++ [.int .i64 t, .int .i64 kd, .int .u64 (u : Nat), .string (str x)] from by rw [RS.out, List.length_append, pcs_app]; exact ⟨rfl, rfl⟩)
      obtain ⟨z, hz⟩ : ∃ z, z = (rng a b (L.take j)).length := ⟨_, rfl⟩
      obtain ⟨Z, hZ⟩ : ∃ Z, Z = pcs (rng a b (L.take j)) := ⟨_, rfl⟩
      rw [← hz, ← hZ] at RS2 WO
      rw [← hz] at RL
      have HC : ∀ i v, [Value.int .i64 t, .int .i64 kd, .int .u64 (u : Nat), .string (str x)][i]? = some v → (wa.alloc (.cells #[.int .i64 t, .int .i64 kd, .int .u64 (u : Nat), .string (str x)] 32)).cell? ((⟨wa.heap.size, 0, none⟩ : Addr).add i) = some v := fun i v hi => by
        have hb := heap_alloc_new wa (.cells #[.int .i64 t, .int .i64 kd, .int .u64 (u : Nat), .string (str x)] 32)
        match i, hi with
        | 0, hi => cases hi; simp [Addr.add, cell_at hb 0]
        | 1, hi => cases hi; simp [Addr.add, cell_at hb 1]
        | 2, hi => cases hi; simp [Addr.add, cell_at hb 2]
        | 3, hi => cases hi; simp [Addr.add, cell_at hb 3]
      have HONE : ∀ v ∈ [Value.int .i64 t, .int .i64 kd, .int .u64 (u : Nat), .string (str x)], v.oneCell' = true := by simp [Value.oneCell']
      have hmx : z + 1 ≤ maxLen := by unfold maxLen; omega
      have O4 := Lib.hid (WO.out.alloc (.cells #[.int .i64 t, .int .i64 kd, .int .u64 (u : Nat), .string (str x)] 32))
      have FIN := Lib.hid (show ∀ v' w3, w3.ownsRow w.heap.size 32 4 v' (z + 1) (Z ++ [.int .i64 t, .int .i64 kd, .int .u64 (u : Nat), .string (str x)]) → (wa.alloc (.cells #[.int .i64 t, .int .i64 kd, .int .u64 (u : Nat), .string (str x)] 32)).grownBy w3 u13.ownBlock → w3.ownsRow w.heap.size 32 4 v' (rng a b (L.take (j + 1))).length (pcs (rng a b (L.take (j + 1)))) ∧ Below w.heap.size w w3 from fun v' w3 h1 h2 => ⟨by rw [RS2.out.1, RS2.out.2]; exact h1, (WB.out.alloc (by have := HZA.out; omega) _).grown h2 (by have := HZA.out; simp; omega) fun j ej => (own_lt WO.out ej).1⟩)
      clear RS RS2 hz hZ WB
      go_wp2_with (at_builtin; refine wpList_append_own _ rfl _ _ 43 rfl w.heap.size 32 i0 _ 4 40 Try.underlying43 hi hz0 hz1 hz2 rfl (by decide) _ z _ rfl O4.out ⟨wa.heap.size, 0, none⟩ 1 1 [.int .i64 t, .int .i64 kd, .int .u64 (u : Nat), .string (str x)] rfl rfl HC HONE hmx (by omega) (by have := HZA.out; simp; omega) ?_; intro v' w5 h1 h2 _; have H5 := Lib.hid (FIN.out v' w5 h1 h2); clear h1 h2)
      go_roundw
      case rel => exact ⟨j + 1, by omega, by go_num, H5.out.1, H5.out.2⟩
      case measure => simp [intOf]; omega
end Uc
end Go.Proofs.Ytloiclmngmnbdaa

namespace Go.Proofs.Ytloiclmngmnbdaa
open Go.RowKit Go.Maps Go.ChangeMaps Go.MapKept
namespace Ud
open Jb Ca Ck Ct Cd Cz Ce Tb Ua Ub Uc Li

/-- A slice's cells, for reading. -/
def Sp (w : World) (size : Nat) (x : Value) (m : Nat) (news : List Value) : Prop :=
  (x = .slice none 0 0 ∧ m = 0 ∧ news = []) ∨ ∃ ad c, x = .slice (some ad) m c ∧ news.length = m * size ∧ (∀ j u, news[j]? = some u → w.cell? (ad.add j) = some u) ∧ ∀ u ∈ news, u.oneCell' = true
theorem Sp.of_block {w w' : World} {size m : Nat} {x : Value} {news : List Value} (h : Sp w size x m news) (hb : ∀ k, x.ownBlock = some k → w'.heap[k]? = w.heap[k]?) : Sp w' size x m news := by
  rcases h with h | ⟨ad, c, rfl, h1, h2, h3⟩
  · exact .inl h
  · exact .inr ⟨ad, c, rfl, h1, fun j u hj => by
      have e := hb ad.block rfl
      have := h2 j u hj
      have e2 : (ad.add j).block = ad.block := by unfold Addr.add; split <;> rfl
      rw [← this]
      exact World.cell?_of_block (by rw [e2]; exact e), h3⟩
theorem info54 : (Try.prog.info? 54).map (fun i => (i.zero, i.size, i.bytes)) = some (some (.agg #[.string ⟨#[]⟩, .string ⟨#[]⟩, .slice none 0 0]), 3, 56) := by kernel_rfl
theorem app54 (w : World) (base : Nat) (v : Value) (n : Nat) (xs : List Value) (hown : w.ownsRow base 54 3 v n xs) (x : Value) (m : Nat) (news : List Value) (hx : Sp w 3 x m news) (hb : base ≤ w.heap.size) (hm : n + m ≤ 10000000) (ty : TypeId) :
    ∃ v' w', (Builtin.append_ #[37, 37] ty #[v, x]).run Try.prog w = .ok v' w' ∧ w'.ownsRow base 54 3 v' (n + m) (xs ++ news) ∧ w.grownBy w' v.ownBlock := by
  obtain ⟨i0, hi, hz0, hz1, hz2⟩ := info_parts info54
  rcases hx with ⟨rfl, rfl, rfl⟩ | ⟨ad, c, rfl, h1, h2, h3⟩
  · exact ⟨v, w, run_append_owned_none (P := Try.prog) (w := w) base 37 ty 54 i0 3 Try.underlying37 hi v n xs hown, by simpa using hown, World.grownBy.refl _ _⟩
  · obtain ⟨v', w', q1, q2, q3, _⟩ := run_append_own (P := Try.prog) (w := w) base 37 ty 54 i0 _ 3 56 Try.underlying37 hi hz0 hz1 hz2 rfl (by decide) v n xs hown ad m c news h1 h2 h3 (by unfold maxLen; omega) (by omega) hb
    exact ⟨v', w', q1, q2, q3⟩
theorem app32 (w : World) (base : Nat) (v : Value) (n : Nat) (xs : List Value) (hown : w.ownsRow base 32 4 v n xs) (x : Value) (m : Nat) (news : List Value) (hx : Sp w 4 x m news) (hb : base ≤ w.heap.size) (hm : n + m ≤ 10000000) (ty : TypeId) :
    ∃ v' w', (Builtin.append_ #[43, 43] ty #[v, x]).run Try.prog w = .ok v' w' ∧ w'.ownsRow base 32 4 v' (n + m) (xs ++ news) ∧ w.grownBy w' v.ownBlock := by
  obtain ⟨i0, hi, hz0, hz1, hz2⟩ := info_parts infoP
  rcases hx with ⟨rfl, rfl, rfl⟩ | ⟨ad, c, rfl, h1, h2, h3⟩
  · exact ⟨v, w, run_append_owned_none (P := Try.prog) (w := w) base 43 ty 32 i0 4 Try.underlying43 hi v n xs hown, by simpa using hown, World.grownBy.refl _ _⟩
  · obtain ⟨v', w', q1, q2, q3, _⟩ := run_append_own (P := Try.prog) (w := w) base 43 ty 32 i0 _ 4 40 Try.underlying43 hi hz0 hz1 hz2 rfl (by decide) v n xs hown ad m c news h1 h2 h3 (by unfold maxLen; omega) (by omega) hb
    exact ⟨v', w', q1, q2, q3⟩
/-- A literal without elements. -/
theorem own_empty (w : World) (t : TypeId) (k : Nat) (base : Nat) (hb : base ≤ w.heap.size) : (w.alloc (.cells #[] t)).ownsRow base t k (.slice (some ⟨w.heap.size, 0, none⟩) 0 0) 0 [] :=
  ⟨by simp, .inr ⟨w.heap.size, 0, #[], rfl, hb, heap_alloc_new _ _, Nat.le_refl _, by unfold maxLen; omega, by simp, by simp⟩⟩
/-- A piece of an own row. -/
theorem piece {w : World} {B t k n c q : Nat} {xs : List Value} (h : w.ownsRow B t k (.slice (some ⟨q, 0, none⟩) n c) n xs) (h1 : ∀ u ∈ xs, u.oneCell' = true) (lo hi : Nat) (hlh : lo ≤ hi) (hhi : hi ≤ n) (o cc : Nat) (ho : o = lo * k ∨ lo = hi) :
    Sp w k (.slice (some ⟨q, o, none⟩) (hi - lo) cc) (hi - lo) ((xs.drop (lo * k)).take ((hi - lo) * k)) := by
  have hl := h.1
  refine .inr ⟨_, _, rfl, ?_, fun j u hj => ?_, fun u hu => h1 u (List.mem_of_mem_drop (List.mem_of_mem_take hu))⟩
  · rw [List.length_take, List.length_drop, hl]
    have : hi * k ≤ n * k := Nat.mul_le_mul_right k hhi
    rw [← Nat.sub_mul]
    have : (hi - lo) * k ≤ (n - lo) * k := Nat.mul_le_mul_right k (by omega)
    omega
  · rw [List.getElem?_take] at hj
    split at hj
    · rename_i hjk
      rw [List.getElem?_drop] at hj
      rcases ho with rfl | rfl
      · rw [Addr.add_lit]
        have hlt : lo * k + j < xs.length := (List.getElem?_eq_some_iff.1 hj).1
        exact (h.cellAt (lo * k + j) (by omega)).trans hj
      · simp at hjk
    · cases hj
theorem ccl_one (R : List Col) (h : ∀ c ∈ R, c.2.2.oneCell' = true) : ∀ u ∈ ccl R, u.oneCell' = true := by
  intro u hu
  unfold ccl at hu
  obtain ⟨c, hc, hu⟩ := List.mem_flatMap.1 hu
  simp only [List.mem_cons, List.not_mem_nil, or_false] at hu
  rcases hu with rfl | rfl | rfl
  · rfl
  · rfl
  · exact h c hc
theorem ccl_take (R : List Col) (i : Nat) : (ccl R).take (i * 3) = ccl (R.take i) := by
  induction R generalizing i with
  | nil => simp [ccl]
  | cons c r ih =>
    cases i with
    | zero => simp [ccl]
    | succ i =>
      rw [ccl_cons, List.take_succ_cons, ccl_cons, ← ih i, show (i + 1) * 3 = i * 3 + 3 by omega]
      rfl
theorem ccl_drop (R : List Col) (i : Nat) : (ccl R).drop (i * 3) = ccl (R.drop i) := by
  induction R generalizing i with
  | nil => simp [ccl]
  | cons c r ih =>
    cases i with
    | zero => simp
    | succ i =>
      rw [ccl_cons, List.drop_succ_cons, ← ih i, show (i + 1) * 3 = i * 3 + 3 by omega]
      rfl
theorem pcs_take (L : List Pnt) (i : Nat) : (pcs L).take (i * 4) = pcs (L.take i) := by
  induction L generalizing i with
  | nil => simp [pcs]
  | cons c r ih =>
    cases i with
    | zero => simp [pcs]
    | succ i =>
      have e : pcs (c :: r) = pc c ++ pcs r := rfl
      rw [e, List.take_succ_cons, show pcs (c :: r.take i) = pc c ++ pcs (r.take i) from rfl, ← ih i, show (i + 1) * 4 = i * 4 + 4 by omega]
      rfl
theorem pcs_drop (L : List Pnt) (i : Nat) : (pcs L).drop (i * 4) = pcs (L.drop i) := by
  induction L generalizing i with
  | nil => simp [pcs]
  | cons c r ih =>
    cases i with
    | zero => simp
    | succ i =>
      have e : pcs (c :: r) = pc c ++ pcs r := rfl
      rw [e, List.drop_succ_cons, ← ih i, show (i + 1) * 4 = i * 4 + 4 by omega]
      rfl
theorem oneCell_own {w : World} {B t k n : Nat} {v : Value} {xs : List Value} (h : w.ownsRow B t k v n xs) : v.oneCell' = true := by
  obtain ⟨a, c, rfl⟩ := own_forms h
  rfl
/-- A piece of a table's columns. -/
theorem Tm.piece {w : World} {S : Nat → Prop} {n c q : Nat} {R : List Col} (h : Tm w S (.slice (some ⟨q, 0, none⟩) n c) R) (hn : n = R.length) (lo hi : Nat) (hlh : lo ≤ hi) (hhi : hi ≤ n) (o cc : Nat) (ho : o = lo * 3 ∨ lo = hi) :
    Sp w 3 (.slice (some ⟨q, o, none⟩) (hi - lo) cc) (hi - lo) (ccl ((R.drop lo).take (hi - lo))) := by
  have own := h.own
  rw [← hn] at own
  have := Ud.piece own (ccl_one R fun c hc => oneCell_own (h.rows c hc).1) lo hi hlh hhi o cc ho
  rwa [ccl_drop, ccl_take] at this
theorem row_piece {w : World} {B n c q : Nat} {L : List Pnt} (h : w.ownsRow B 32 4 (.slice (some ⟨q, 0, none⟩) n c) n (pcs L)) (lo hi : Nat) (hlh : lo ≤ hi) (hhi : hi ≤ n) (o cc : Nat) (ho : o = lo * 4 ∨ lo = hi) :
    Sp w 4 (.slice (some ⟨q, o, none⟩) (hi - lo) cc) (hi - lo) (pcs ((L.drop lo).take (hi - lo))) := by
  have := Ud.piece h (pcs_one L) lo hi hlh hhi o cc ho
  rwa [pcs_drop, pcs_take] at this
end Ud
end Go.Proofs.Ytloiclmngmnbdaa

namespace Go.Proofs.Ytloiclmngmnbdaa
open Go.RowKit Go.Maps Go.ChangeMaps Go.MapKept
namespace Ue
open Jb Ca Ck Ct Cd Cz Ce Tb Ua Ub Uc Ud Li

theorem ccl_set (R : List Col) (i : Nat) (hi : i < R.length) (L : List Pnt) (r : Value) : ccl (R.set i ((R.getD i cz).1, L, r)) = (ccl R).set (i * 3 + 2) r := by
  induction R generalizing i with
  | nil => simp at hi
  | cons c t ih =>
    cases i with
    | zero => simp [ccl]
    | succ i =>
      rw [List.set_cons_succ, ccl_cons, ccl_cons, List.getD_cons_succ, ih i (by simpa using hi), show (i + 1) * 3 + 2 = (i * 3 + 2) + 3 by omega]
      simp
theorem tab_set (R : List Col) (i : Nat) (c : Col) : tab (R.set i c) = (tab R).set i (c.1, c.2.1) := by unfold tab; rw [List.map_set]
theorem heap_set_other (w : World) (b i : Nat) (v : Value) (k : Nat) (h : k ≠ b) : (w.setCell ⟨b, i, none⟩ v).heap[k]? = w.heap[k]? := heap_setCell_other _ _ _ _ h
/-- A row of points and a row of columns share no block. -/
theorem apart {w : World} {B B' n n' : Nat} {v u : Value} {xs ys : List Value} (h : w.ownsRow B 54 3 v n xs) (g : w.ownsRow B' 32 4 u n' ys) {k : Nat} (hk : v.ownBlock = some k) : u.ownBlock ≠ some k := fun e => by
  rcases h.2 with ⟨rfl, _⟩ | ⟨a, _, _, rfl, _, h1, _⟩
  · cases hk
  · rcases g.2 with ⟨rfl, _⟩ | ⟨b, _, _, rfl, _, g1, _⟩
    · cases e
    · have e1 : a = k := by simpa [Value.ownBlock] using hk
      have e2 : b = k := by simpa [Value.ownBlock] using e
      subst e1; subst e2
      rw [h1] at g1
      cases g1
theorem Rt.store {w : World} {S S' : Nat → Prop} {h m n c q : Nat} {R : List Col} (H : Rt w S h m (.slice (some ⟨q, 0, none⟩) n c) R) (hn : n = R.length) {i : Nat} (hi : i < R.length) (L : List Pnt) (hL : ∀ x ∈ L, Wp x) (r : Value)
    (o : w.ownsRow 0 32 4 r L.length (pcs L)) (hr : ∀ k, r.ownBlock = some k → S' k ∧ k ≠ h) (hS : ∀ k, S k → S' k) (hlt : ∀ k, S' k → k < w.heap.size) :
    Rt (w.setCell ⟨q, i * 3 + 2, none⟩ r) S' h m (.slice (some ⟨q, 0, none⟩) n c) (R.set i ((R.getD i cz).1, L, r)) := by
  have hqh : q ≠ h := fun e => H.nv (by rw [e]; rfl)
  have own := H.tm.own
  rw [← hn] at own
  have hb : ∀ u : Value, ∀ t k B, w.ownsRow B 32 4 u t k → (w.setCell ⟨q, i * 3 + 2, none⟩ r).ownsRow B 32 4 u t k := fun u t k B hu =>
    own_of_block hu fun j hj => heap_set_other _ _ _ _ _ fun e => apart own hu (k := q) rfl (e ▸ hj)
  refine ⟨(cell_other (by simp)).trans H.c0, (cell_other (by simp)).trans H.c1, fun j => by simpa using H.z j, ⟨?_, fun k hk => hS k (H.tm.ob k hk), fun x hx => ?_⟩, H.nv, fun x hx => ?_, fun x hx => ?_, hS h H.sh, fun k hk => by simpa using hlt k hk, H.m9⟩
  · rw [List.length_set, ccl_set R i hi L r, ← hn]
    exact (own.stored (i * 3 + 2) r).1
  · rcases List.mem_or_eq_of_mem_set hx with hx | rfl
    · exact ⟨hb _ _ _ _ (H.tm.rows x hx).1, fun k hk => hS k ((H.tm.rows x hx).2 k hk)⟩
    · exact ⟨hb _ _ _ _ o, fun k hk => (hr k hk).1⟩
  · rcases List.mem_or_eq_of_mem_set hx with hx | rfl
    · exact H.nr x hx
    · exact fun e => (hr h e).2 rfl
  · rcases List.mem_or_eq_of_mem_set hx with hx | rfl
    · exact H.wp x hx
    · exact hL
end Ue
end Go.Proofs.Ytloiclmngmnbdaa
