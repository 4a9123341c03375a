/- Merging, group by group: plain mathematics. -/
import Derived.Test.YthaadpijfkmdiaaNq
namespace Go.Proofs.Ythaadpijfkmdiaa
namespace No
open Jb Ca Ga Nm Na Nj Nk Nn Nq

/-- The points of all columns. -/
def tot1 (pr : Value → List V4) (C : List C3) : Nat := (C.map fun c => (pr c.2.2).length).sum
def tot (pr : Value → List V4) (CC : List (List C3)) : Nat := (CC.map (tot1 pr)).sum
theorem sum_ind (N : List Ky) (h : N.Pairwise (· ≠ ·)) (κ0 : Ky) (x : Nat) : (N.map fun κ => if κ0 = κ then x else 0).sum ≤ x := by
  induction N with
  | nil => simp
  | cons a r ih =>
    obtain ⟨h1, h2⟩ := List.pairwise_cons.1 h
    simp only [List.map_cons, List.sum_cons]
    by_cases e : κ0 = a
    · subst e
      have : (r.map fun κ => if κ0 = κ then x else 0).sum = 0 := by
        clear ih h2 h
        induction r with
        | nil => rfl
        | cons b s ih2 =>
          simp only [List.map_cons, List.sum_cons]
          rw [if_neg (h1 b (by simp)), ih2 (fun c hc => h1 c (by simp [hc]))]
      simp [this]
    · rw [if_neg e]; have := ih h2; omega
theorem sum_add (N : List Ky) (f g h : Ky → Nat) (H : ∀ κ, h κ ≤ f κ + g κ) : (N.map h).sum ≤ (N.map f).sum + (N.map g).sum := by
  induction N with
  | nil => simp
  | cons a r ih => simp only [List.map_cons, List.sum_cons]; have := H a; omega
theorem col_tot (pr : Value → List V4) (C : List C3) (N : List Ky) (h : N.Pairwise (· ≠ ·)) : (N.map fun κ => (colOf pr C κ).length).sum ≤ tot1 pr C := by
  induction C with
  | nil =>
    have : (N.map fun κ => (colOf pr [] κ).length).sum = 0 := by
      clear h
      induction N with
      | nil => rfl
      | cons a r ih => simp only [List.map_cons, List.sum_cons, ih]; simp [colOf, lk]
    rw [this]; exact Nat.zero_le _
  | cons c r ih =>
    have h1 := sum_add N (fun κ => (colOf pr r κ).length) (fun κ => if nm c = κ then (pr c.2.2).length else 0) (fun κ => (colOf pr (c :: r) κ).length) (fun κ => by
      unfold colOf
      rw [lk_cons]
      cases lk nm r κ with
      | some d => simp
      | none =>
        by_cases e : nm c = κ
        · simp [e]
        · simp [e])
    have h2 := sum_ind N h (nm c) (pr c.2.2).length
    simp only [tot1, List.map_cons, List.sum_cons] at ih ⊢
    omega
theorem rows_tot (pr : Value → List V4) (CC : List (List C3)) (N : List Ky) (h : N.Pairwise (· ≠ ·)) : (N.map fun κ => (rowsOf pr CC κ).length).sum ≤ tot pr CC := by
  induction CC with
  | nil =>
    have : (N.map fun κ => (rowsOf pr [] κ).length).sum = 0 := by
      clear h
      induction N with
      | nil => rfl
      | cons a r ih => simp only [List.map_cons, List.sum_cons, ih]; simp [rowsOf]
    rw [this]; exact Nat.zero_le _
  | cons C r ih =>
    have h1 := sum_add N (fun κ => (colOf pr C κ).length) (fun κ => (rowsOf pr r κ).length) (fun κ => (rowsOf pr (C :: r) κ).length) (fun κ => by simp [rowsOf])
    have h2 := col_tot pr C N h
    simp only [tot, List.map_cons, List.sum_cons] at ih ⊢
    omega
theorem rows_le (pr : Value → List V4) (CC : List (List C3)) (κ : Ky) : (rowsOf pr CC κ).length ≤ tot pr CC := by
  have := rows_tot pr CC [κ] (by simp)
  simpa using this

abbrev Mc := C3 × List V4
def pairOf (p : Mc) : Ky × List V4 := (nm p.1, p.2)
/-- What is done when k parts are behind. -/
structure Inv (pr : Value → List V4) (CC : List (List C3)) (R : List V4) (k : Nat) (Y : List Mc) : Prop where
  up : Sorted (fun z : Ky × List V4 => z.1) klt (Y.map pairOf)
  below : ∀ p ∈ Y, ∀ z ∈ R.drop k, klt (nm p.1) (nameOf z) = true
  pts : ∀ p ∈ Y, p.2 ≠ [] ∧ Sorted kt ltt p.2 ∧ (∀ t, lk kt p.2 t = lk kt (rowsOf pr CC (nm p.1)) t) ∧ p.2.length ≤ (rowsOf pr CC (nm p.1)).length
  all : ∀ z ∈ R.take k, rowsOf pr CC (nameOf z) ≠ [] → ∃ p ∈ Y, nm p.1 = nameOf z
  cut : ∀ y ∈ R.take k, ∀ z ∈ R.drop k, nameOf y ≠ nameOf z
theorem inv0 (pr : Value → List V4) (CC : List (List C3)) (R : List V4) : Inv pr CC R 0 [] :=
  ⟨List.Pairwise.nil, (fun p hp => (by cases hp)), (fun p hp => (by cases hp)), (fun z hz => (by simp at hz)), (fun y hy => (by simp at hy))⟩
theorem name_le {x y : V4} (h : ltp (kp x) (kp y) = true) : klt (nameOf x) (nameOf y) = true ∨ nameOf x = nameOf y := by
  simp only [ltp, Bool.or_eq_true, Bool.and_eq_true, decide_eq_true_eq] at h
  rcases h with h | h
  · exact .inl h
  · exact .inr h.1
/-- A group. -/
structure Grp (R : List V4) (k n : Nat) (κ : Ky) : Prop where
  pos : 1 ≤ n
  le : k + n ≤ R.length
  same : ∀ z ∈ (R.drop k).take n, nameOf z = κ
  next : ∀ z ∈ R.drop (k + n), klt κ (nameOf z) = true
theorem grp_of {R : List V4} {k n : Nat} (hs : Sorted kp ltp R) (h1 : 1 ≤ n) (h2 : n ≤ (R.drop k).length) (hk : k ≤ R.length) (h3 : ∀ i, i < n → nameOf ((R.drop k).getD i d4) = nameOf ((R.drop k).getD 0 d4)) (h4 : n < (R.drop k).length → nameOf ((R.drop k).getD n d4) ≠ nameOf ((R.drop k).getD 0 d4)) : Grp R k n (nameOf ((R.drop k).getD 0 d4)) := by
  have hl : (R.drop k).length = R.length - k := List.length_drop
  refine ⟨h1, by omega, fun z hz => ?_, fun z hz => ?_⟩
  · obtain ⟨i, hi, rfl⟩ := List.getElem_of_mem hz
    rw [List.length_take] at hi
    have := h3 i (by omega)
    rw [List.getElem_take]
    rw [List.getD_eq_getElem?_getD, List.getElem?_eq_getElem (by omega)] at this
    exact this
  · have hL : Sorted kp ltp (R.drop k) := List.Pairwise.drop hs
    rw [← List.drop_drop] at hz
    generalize R.drop k = L at *
    obtain ⟨i, hi, rfl⟩ := List.getElem_of_mem hz
    rw [List.length_drop] at hi
    have hn : n < L.length := by omega
    have hlt : ∀ i j (hi : i < L.length) (hj : j < L.length), i < j → ltp (kp L[i]) (kp L[j]) = true := fun i j hi hj hij => List.pairwise_iff_getElem.1 hL i j hi hj hij
    have e0 : nameOf L[n] ≠ nameOf (L.getD 0 d4) := by
      have := h4 hn
      rwa [List.getD_eq_getElem?_getD (i := n), List.getElem?_eq_getElem hn] at this
    have g0 : L.getD 0 d4 = L[0] := by rw [List.getD_eq_getElem?_getD, List.getElem?_eq_getElem (by omega)]; rfl
    rw [g0] at e0 ⊢
    have k1 : klt (nameOf L[0]) (nameOf L[n]) = true := (name_le (hlt 0 n (by omega) hn (by omega))).resolve_right (fun h => e0 h.symm)
    rw [List.getElem_drop]
    by_cases hi0 : i = 0
    · subst hi0; exact k1
    · rcases name_le (hlt n (n + i) hn (by omega) (by omega)) with h | h
      · exact klt_trans k1 h
      · rw [← h]; exact k1
theorem split3 (R : List V4) (k n : Nat) : R = R.take k ++ (R.drop k).take n ++ R.drop (k + n) := by
  rw [List.append_assoc, ← List.drop_drop, List.take_append_drop, List.take_append_drop]
theorem take_kn (R : List V4) (k n : Nat) : R.take (k + n) = R.take k ++ (R.drop k).take n := List.take_add
theorem grp_filter {pr : Value → List V4} {CC : List (List C3)} {R : List V4} {k n : Nat} {Y : List Mc} {κ : Ky} (h : Inv pr CC R k Y) (g : Grp R k n κ) : R.filter (fun z => decide (nameOf z = κ)) = (R.drop k).take n := by
  conv => lhs; rw [split3 R k n]
  rw [List.filter_append, List.filter_append]
  have hg : ∃ z0, z0 ∈ (R.drop k).take n := by
    have : 0 < ((R.drop k).take n).length := by rw [List.length_take, List.length_drop]; have := g.pos; have := g.le; omega
    exact ⟨_, List.getElem_mem this⟩
  obtain ⟨z0, hz0⟩ := hg
  have e1 : (R.take k).filter (fun z => decide (nameOf z = κ)) = [] := List.filter_eq_nil_iff.2 fun y hy => by
    have := h.cut y hy z0 (List.mem_of_mem_take hz0)
    rw [g.same z0 hz0] at this
    simpa using this
  have e2 : ((R.drop k).take n).filter (fun z => decide (nameOf z = κ)) = (R.drop k).take n := List.filter_eq_self.2 fun y hy => by simpa using g.same y hy
  have e3 : (R.drop (k + n)).filter (fun z => decide (nameOf z = κ)) = [] := List.filter_eq_nil_iff.2 fun y hy => by
    have := klt_ne (g.next y hy)
    simpa using fun e => this e.symm
  rw [e1, e2, e3]; simp
theorem grp_rows {pr : Value → List V4} {CC : List (List C3)} {R : List V4} {k n : Nat} {Y : List Mc} {κ : Ky} (hs : Sorted kp ltp R) (hl : ∀ k, lk kp R k = lk kp (parts 0 CC) k) (h : Inv pr CC R k Y) (g : Grp R k n κ) : (rows pr ((R.drop k).take n)).flatten = rowsOf pr CC κ := by
  rw [← grp_filter h g, group_eq hs hl, gp_rows]
theorem inv_cut {pr : Value → List V4} {CC : List (List C3)} {R : List V4} {k n : Nat} {Y : List Mc} {κ : Ky} (h : Inv pr CC R k Y) (g : Grp R k n κ) : ∀ y ∈ R.take (k + n), ∀ z ∈ R.drop (k + n), nameOf y ≠ nameOf z := by
  intro y hy z hz
  rw [take_kn] at hy
  rcases List.mem_append.1 hy with hy | hy
  · exact h.cut y hy z (by rw [← List.drop_drop] at hz; exact List.mem_of_mem_drop hz)
  · rw [g.same y hy]; exact klt_ne (g.next z hz)
theorem inv_next {pr : Value → List V4} {CC : List (List C3)} {R : List V4} {k n : Nat} {Y : List Mc} {κ : Ky} (h : Inv pr CC R k Y) (g : Grp R k n κ) (u : Value) (Q : List V4) (hne : Q ≠ []) (hs : Sorted kt ltt Q) (hl : ∀ t, lk kt Q t = lk kt (rowsOf pr CC κ) t) (hc : Q.length ≤ (rowsOf pr CC κ).length) : Inv pr CC R (k + n) (Y ++ [((κ.1, κ.2, u), Q)]) := by
  have hz0 : ∃ z0, z0 ∈ (R.drop k).take n := by
    have : 0 < ((R.drop k).take n).length := by rw [List.length_take, List.length_drop]; have := g.pos; have := g.le; omega
    exact ⟨_, List.getElem_mem this⟩
  obtain ⟨z0, hz0⟩ := hz0
  have hn : nm ((κ.1, κ.2, u) : C3) = κ := rfl
  refine ⟨?_, ?_, ?_, ?_, inv_cut h g⟩
  · rw [List.map_append]
    refine List.pairwise_append.2 ⟨h.up, by simp, fun a ha b hb => ?_⟩
    obtain ⟨p, hp, rfl⟩ := List.mem_map.1 ha
    obtain rfl : b = (κ, Q) := by simpa [pairOf, hn] using hb
    have := h.below p hp z0 (List.mem_of_mem_take hz0)
    rw [g.same z0 hz0] at this
    exact this
  · intro p hp z hz
    rcases List.mem_append.1 hp with hp | hp
    · exact h.below p hp z (by rw [← List.drop_drop] at hz; exact List.mem_of_mem_drop hz)
    · obtain rfl := List.mem_singleton.1 hp
      exact g.next z hz
  · intro p hp
    rcases List.mem_append.1 hp with hp | hp
    · exact h.pts p hp
    · obtain rfl := List.mem_singleton.1 hp
      exact ⟨hne, hs, hl, hc⟩
  · intro z hz hr
    rw [take_kn] at hz
    rcases List.mem_append.1 hz with hz | hz
    · obtain ⟨p, hp, e⟩ := h.all z hz hr
      exact ⟨p, by simp [hp], e⟩
    · exact ⟨((κ.1, κ.2, u), Q), by simp, by rw [g.same z hz]; exact hn⟩
theorem inv_skip {pr : Value → List V4} {CC : List (List C3)} {R : List V4} {k n : Nat} {Y : List Mc} {κ : Ky} (h : Inv pr CC R k Y) (g : Grp R k n κ) (he : rowsOf pr CC κ = []) : Inv pr CC R (k + n) Y := by
  refine ⟨h.up, fun p hp z hz => h.below p hp z (by rw [← List.drop_drop] at hz; exact List.mem_of_mem_drop hz), h.pts, fun z hz hr => ?_, inv_cut h g⟩
  rw [take_kn] at hz
  rcases List.mem_append.1 hz with hz | hz
  · exact h.all z hz hr
  · rw [g.same z hz] at hr; exact absurd he hr
theorem lk_nil_of {L : List V4} (h : ∀ t, lk kt L t = none) : L = [] := by
  cases L with
  | nil => rfl
  | cons x r =>
    obtain ⟨y, e⟩ := lk_isSome kt (L := x :: r) (x := x) (by simp)
    rw [h] at e; cases e
/-- At the end. -/
theorem inv_ms {pr : Value → List V4} {CC : List (List C3)} {R : List V4} {Y : List Mc} (hl : ∀ k, lk kp R k = lk kp (parts 0 CC) k) (h : Inv pr CC R R.length Y) : MS pr CC (Y.map pairOf) := by
  refine ⟨h.up, fun z hz => ?_, fun κ hκ => ?_⟩
  · obtain ⟨p, hp, rfl⟩ := List.mem_map.1 hz
    obtain ⟨h1, h2, h3, _⟩ := h.pts p hp
    exact ⟨h1, h2, h3⟩
  · have hg : gp κ 0 CC ≠ [] := fun e => hκ (by rw [← gp_rows pr κ 0 CC, e]; rfl)
    cases hgz : gp κ 0 CC with
    | nil => exact absurd hgz hg
    | cons z r =>
      have hz : z ∈ gp κ 0 CC := by rw [hgz]; simp
      have hn := (gp_name κ 0 CC z hz).1
      have hk := lk_sorted lin_p (gp_sorted κ 0 CC) hz
      have e : kp z = (κ, (kp z).2) := Prod.ext hn rfl
      rw [e, gp_lk, if_pos rfl, ← hl, ← e] at hk
      have hR := (lk_mem kp hk).1
      obtain ⟨p, hp, e2⟩ := h.all z (by rw [List.take_length]; exact hR) (by rw [show nameOf z = κ from hn]; exact hκ)
      exact ⟨_, List.mem_map_of_mem hp, by rw [← show nameOf z = κ from hn]; exact e2⟩
theorem inv_tot {pr : Value → List V4} {CC : List (List C3)} {R : List V4} {k : Nat} {Y : List Mc} (h : Inv pr CC R k Y) : (Y.map fun p => p.2.length).sum ≤ tot pr CC ∧ Y.length ≤ tot pr CC := by
  have hN : ((Y.map pairOf).map (·.1)).Pairwise (· ≠ ·) := List.pairwise_map.2 (h.up.imp fun hab => klt_ne hab)
  have h1 := rows_tot pr CC _ hN
  have h2 : ∀ Y' : List Mc, (∀ p ∈ Y', p.2 ≠ [] ∧ p.2.length ≤ (rowsOf pr CC (nm p.1)).length) → (Y'.map fun p => p.2.length).sum ≤ (((Y'.map pairOf).map (·.1)).map fun κ => (rowsOf pr CC κ).length).sum ∧ Y'.length ≤ (Y'.map fun p => p.2.length).sum := by
    intro Y' hY
    induction Y' with
    | nil => simp
    | cons p r ih =>
      obtain ⟨i1, i2⟩ := ih (fun q hq => hY q (by simp [hq]))
      obtain ⟨j1, j2⟩ := hY p (by simp)
      have j3 : 1 ≤ p.2.length := by
        cases hp : p.2 with
        | nil => exact absurd hp j1
        | cons _ _ => simp
      simp only [List.map_cons, List.sum_cons, List.length_cons, pairOf] at *
      omega
  obtain ⟨h3, h4⟩ := h2 Y (fun p hp => ⟨(h.pts p hp).1, (h.pts p hp).2.2.2⟩)
  omega
end No
end Go.Proofs.Ythaadpijfkmdiaa
