/- The law IndexParts. -/
import Derived.Test.YtalanjhpacjmmaaKs
namespace Go.Proofs.Ytalanjhpacjmmaa
set_option maxRecDepth 100000
open Go.RowKit Go.Maps Go.ChangeMaps Go.MapKept Go.Sort Go.Shelf
namespace Kt
open Jb Ka Kb Kc Kd Kf Kg Kh Ki Kj Kk Kl Km Kn Ko Kp Kq Kr Ks Sa Sb Sg Sp

/-! Counting. -/
theorem sum_le {α : Type} : ∀ (l : List α) (f g : α → Nat), (∀ x ∈ l, f x ≤ g x) → (l.map f).sum ≤ (l.map g).sum
  | [], _, _, _ => Nat.le_refl _
  | a :: r, f, g, h => by
    have := sum_le r f g (fun x hx => h x (by simp [hx]))
    have := h a (by simp)
    simp; omega
/-- How many of the list have the property. -/
def cnt (l : List Sr) (p : Sr → Bool) : Nat := (l.filter p).length
theorem cnt_nil (p : Sr → Bool) : cnt [] p = 0 := rfl
theorem cnt_cons (a : Sr) (r : List Sr) (p : Sr → Bool) : cnt (a :: r) p = (if p a then 1 else 0) + cnt r p := by
  unfold cnt
  rw [List.filter_cons]
  cases p a <;> simp <;> omega
/-- Those without the tag, and those of each value, are all. -/
theorem parts_sum (vs : List Tx) (hv : vs.Nodup) (f : Sr → Tx × Bool) : ∀ (l : List Sr), (∀ s ∈ l, (f s).2 = true → (f s).1 ∈ vs) → cnt l (fun s => !(f s).2) + (vs.map fun v => cnt l (fun s => decide (f s = (v, true)))).sum = l.length
  | [], _ => by
    have z : ∀ ws : List Tx, (ws.map fun _ => 0).sum = 0 := by
      intro ws
      induction ws with
      | nil => rfl
      | cons w q ih => simp [ih]
    simp only [cnt_nil, z vs, List.length_nil]
  | a :: r, h => by
    have ih := parts_sum vs hv f r (fun s hs => h s (by simp [hs]))
    have e : (vs.map fun v => cnt (a :: r) (fun s => decide (f s = (v, true)))) = vs.map fun v => (if decide (f a = (v, true)) then 1 else 0) + cnt r (fun s => decide (f s = (v, true))) := by
      apply List.map_congr_left
      intro v _
      rw [cnt_cons]
    have add : ∀ (ws : List Tx) (g g' : Tx → Nat), (ws.map fun v => g v + g' v).sum = (ws.map g).sum + (ws.map g').sum := by
      intro ws g g'
      induction ws with
      | nil => rfl
      | cons w q ih2 => simp only [List.map_cons, List.sum_cons, ih2]; omega
    rw [e, add, cnt_cons]
    cases hb : (f a).2 with
    | false =>
      have z : ∀ ws : List Tx, (ws.map fun v => if decide (f a = (v, true)) then 1 else 0).sum = 0 := by
        intro ws
        induction ws with
        | nil => rfl
        | cons w q ih2 =>
          have : decide (f a = (w, true)) = false := decide_eq_false (fun e => by rw [e] at hb; cases hb)
          simp only [List.map_cons, List.sum_cons, this, ih2]; rfl
      rw [z vs]
      simp; omega
    | true =>
      have hm := h a (by simp) hb
      have o : ∀ ws : List Tx, ws.Nodup → ((f a).1 ∈ ws → (ws.map fun v => if decide (f a = (v, true)) then 1 else 0).sum = 1) ∧ (¬ (f a).1 ∈ ws → (ws.map fun v => if decide (f a = (v, true)) then 1 else 0).sum = 0) := by
        intro ws
        induction ws with
        | nil => intro _; exact ⟨fun h => by simp at h, fun _ => rfl⟩
        | cons w q ih2 =>
          intro hn
          obtain ⟨n1, n2⟩ := List.nodup_cons.1 hn
          obtain ⟨i1, i2⟩ := ih2 n2
          by_cases ew : f a = (w, true)
          · have e1 : (f a).1 = w := by rw [ew]
            refine ⟨fun _ => ?_, fun h => absurd (by rw [e1]; simp) h⟩
            have := i2 (by rw [e1]; exact n1)
            simp only [List.map_cons, List.sum_cons, this, decide_eq_true ew]; rfl
          · have e1 : (f a).1 ≠ w := fun e => ew (Prod.ext e hb)
            simp only [List.map_cons, List.sum_cons, decide_eq_false ew]
            refine ⟨fun h => ?_, fun h => ?_⟩
            · rw [i1 ((List.mem_cons.1 h).resolve_left e1)]; rfl
            · rw [i2 (fun h' => h (by simp [h']))]; rfl
      rw [(o vs hv).1 hm]
      simp; omega
/-- Series by their texts, as a list without doubles. -/
theorem rs_nodup {P : Sr → Prop} {ns : List (List UInt8)} (h : Tn P ns) : (rsOf ns).Nodup := by
  unfold rsOf
  refine List.pairwise_map.2 ((nodup_lt h.1).imp_of_mem fun {x y} hx hy hne e => hne ?_)
  obtain ⟨s, _, rfl⟩ := (h.2 x).1 hx
  obtain ⟨q, _, rfl⟩ := (h.2 y).1 hy
  rw [rd_of, rd_of] at e
  simp at e
  rw [e]
theorem len_of {P P' : Sr → Prop} {ns ms : List (List UInt8)} (h : Tn P ns) (h' : Tn P' ms) (p : Sr → Bool) (e : ∀ s, P' s ↔ P s ∧ p s = true) : ms.length = cnt (rsOf ns) p := by
  have e1 : ms = ns.filter (fun x => p ((rd x).getD s0)) := by
    refine rows_ext h'.1 (h.1.filter _) fun x => ?_
    rw [h'.2 x, List.mem_filter, h.2 x]
    constructor
    · rintro ⟨s, hs, rfl⟩
      obtain ⟨a, b⟩ := (e s).1 hs
      exact ⟨⟨s, a, rfl⟩, by rw [rd_of]; exact b⟩
    · rintro ⟨⟨s, hs, rfl⟩, b⟩
      rw [rd_of] at b
      exact ⟨s, (e s).2 ⟨hs, b⟩, rfl⟩
  rw [e1]
  unfold cnt rsOf
  rw [List.filter_map, List.length_map]
  rfl
/-- The numbers of the law. -/
theorem law_sum {Q : Qs} {n k : Tx} (hf : ∀ s, Q s → fm s = true) {all no : List (List UInt8)} {vs : List (List UInt8)} (ha : Tn (fun s => Q s ∧ s.1 = n) all) (hn : Tn (fun s => Q s ∧ s.1 = n ∧ (tgf s.2 k).2 = false) no) (hv : Ns (fun u => ∃ s, Q s ∧ s.1 = n ∧ Has s k u) vs)
    (g : List UInt8 → Nat) (hg : ∀ x ∈ vs, ∃ ms, Tn (fun s => Q s ∧ s.1 = n ∧ Has s k (ba x)) ms ∧ ms.length = g x) : no.length + (vs.map g).sum = all.length := by
  have e1 : no.length = cnt (rsOf all) (fun s => !(tgf s.2 k).2) := len_of ha hn _ fun s => by
    simp only [Bool.not_eq_true']
    exact ⟨fun ⟨a, b, c⟩ => ⟨⟨a, b⟩, c⟩, fun ⟨⟨a, b⟩, c⟩ => ⟨a, b, c⟩⟩
  have e2 : vs.map g = (vs.map ba).map fun v => cnt (rsOf all) (fun s => decide (tgf s.2 k = (v, true))) := by
    rw [List.map_map]
    apply List.map_congr_left
    intro x hx
    obtain ⟨ms, t, e⟩ := hg x hx
    rw [← e]
    refine len_of ha t _ fun s => ?_
    rw [decide_eq_true_eq]
    constructor
    · rintro ⟨a, b, c⟩
      exact ⟨⟨a, b⟩, (tgf_has (hf s a) k _).1 c⟩
    · rintro ⟨⟨a, b⟩, c⟩
      exact ⟨a, b, (tgf_has (hf s a) k _).2 c⟩
  have hnd : (vs.map ba).Nodup := List.pairwise_map.2 ((nodup_lt hv.1).imp fun {a b} hne e => hne (ba_inj e))
  rw [e1, e2, parts_sum _ hnd (fun s => tgf s.2 k) (rsOf all) (fun s hs hb => by
    obtain ⟨a, b⟩ := (mem_rsOf ha s).1 hs
    have hh : Has s k (tgf s.2 k).1 := (tgf_has (hf s a) k _).2 (Prod.ext rfl hb)
    exact List.mem_map.2 ⟨Sa.bl (tgf s.2 k).1, (hv.2 _).2 ⟨_, ⟨s, a, b, hh⟩, rfl⟩, ba_bl _⟩), rsOf_len]
end Kt
end Go.Proofs.Ytalanjhpacjmmaa
