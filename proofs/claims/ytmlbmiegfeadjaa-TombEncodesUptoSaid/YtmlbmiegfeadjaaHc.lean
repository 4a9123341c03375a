/- Graves in memory. -/
import Derived.Test.YtmlbmiegfeadjaaHb
namespace Go.Proofs.Ytmlbmiegfeadjaa
open Go.RowKit
namespace Hc
open Jb Ca Cz Ga Gm Gn Gt Gw Gy Gz Hb

theorem own_of_block {w w' : World} {B t k n : Nat} {v : Value} {xs : List Value} (h : w.ownsRow B t k v n xs) (hb : ∀ j, v.ownBlock = some j → w'.heap[j]? = w.heap[j]?) : w'.ownsRow B t k v n xs := by
  obtain ⟨hl, h | ⟨g, cap, cur, rfl, hbg, hg, h1, h2, h3, h4⟩⟩ := h
  · exact ⟨hl, .inl h⟩
  · exact ⟨hl, .inr ⟨g, cap, cur, rfl, hbg, (hb g rfl).trans hg, h1, h2, h3, h4⟩⟩
theorem own_base {w : World} {B B' n k : Nat} {t : TypeId} {v : Value} {xs : List Value} (h : w.ownsRow B t k v n xs) (hB : B' ≤ B) : w.ownsRow B' t k v n xs := Go.Joins.ownsRow_le h hB
/-- Rows of unlike types lie apart. -/
theorem apart {w : World} {B B' t t' k k' n n' : Nat} {v v' : Value} {xs xs' : List Value} (h : w.ownsRow B t k v n xs) (h' : w.ownsRow B' t' k' v' n' xs') (ht : t ≠ t') {j : Nat} (e : v.ownBlock = some j) (e' : v'.ownBlock = some j) : False := by
  rcases h.2 with ⟨rfl, _⟩ | ⟨g, _, _, rfl, _, hg, _⟩
  · cases e
  · rcases h'.2 with ⟨rfl, _⟩ | ⟨g', _, _, rfl, _, hg', _⟩
    · cases e'
    · cases e; cases e'
      rw [hg] at hg'
      injection hg' with hg'
      injection hg' with _ hg'
      exact ht hg'
/-- A grave: its place, its spans, the spans' slice. -/
abbrev Gc := Ky × List Spn × Value
def gz : Gc := ((⟨#[]⟩, ⟨#[]⟩), [], .slice none 0 0)
def gcl (R : List Gc) : List Value := R.flatMap fun c => [.string c.1.1, .string c.1.2, c.2.2]
def tabG (R : List Gc) : List Gv := R.map fun c => (c.1, c.2.1)
theorem gcl_cons (c : Gc) (R : List Gc) : gcl (c :: R) = [.string c.1.1, .string c.1.2, c.2.2] ++ gcl R := rfl
theorem gcl_app (R T : List Gc) : gcl (R ++ T) = gcl R ++ gcl T := by unfold gcl; rw [List.flatMap_append]
theorem gcl_len (R : List Gc) : (gcl R).length = R.length * 3 := by
  induction R with
  | nil => rfl
  | cons c r ih => rw [gcl_cons, List.length_append, ih]; simp; omega
theorem gcl_get (R : List Gc) (i j : Nat) (hj : j < 3) (hi : i < R.length) : (gcl R)[i * 3 + j]? = [Value.string (R.getD i gz).1.1, .string (R.getD i gz).1.2, (R.getD i gz).2.2][j]? := by
  induction R generalizing i with
  | nil => simp at hi
  | cons c r ih =>
    rw [gcl_cons]
    cases i with
    | zero => rw [List.getElem?_append_left (by simp; omega)]; simp
    | succ i =>
      rw [List.getElem?_append_right (by simp; omega)]
      have := ih i (by simpa using hi)
      simp only [List.length_cons, List.length_nil]
      rw [show (i + 1) * 3 + j - (0 + 1 + 1 + 1) = i * 3 + j by omega, this]
      simp
theorem tabG_len (R : List Gc) : (tabG R).length = R.length := by simp [tabG]
theorem tabG_get (R : List Gc) (i : Nat) : (tabG R).getD i g0 = ((R.getD i gz).1, (R.getD i gz).2.1) := by
  unfold tabG
  rw [List.getD_eq_getElem?_getD, List.getD_eq_getElem?_getD, List.getElem?_map]
  cases R[i]? <;> rfl
theorem getD_in {R : List Gc} {i : Nat} (h : i < R.length) : R.getD i gz ∈ R := by
  rw [List.getD_eq_getElem?_getD, List.getElem?_eq_getElem h]; exact List.getElem_mem _
theorem tabG_snoc (R : List Gc) (c : Gc) : tabG (R ++ [c]) = tabG R ++ [(c.1, c.2.1)] := by simp [tabG]
structure GR (w : World) (B : Nat) (v : Value) (R : List Gc) : Prop where
  own : w.ownsRow B 93 3 v R.length (gcl R)
  rows : ∀ c ∈ R, w.ownsRow B 96 2 c.2.2 c.2.1.length (scs c.2.1)
  ap : R.Pairwise fun a c => ∀ j, a.2.2.ownBlock = some j → c.2.2.ownBlock ≠ some j
theorem GR.nil (w : World) (B : Nat) : GR w B (.slice none 0 0) [] := ⟨World.ownsRow_nil _ _ _ _, (fun c hc => by cases hc), List.Pairwise.nil⟩
theorem GR.move {w w' : World} {B : Nat} {v : Value} {R : List Gc} (H : GR w B v R) (h : ∀ k, B ≤ k → k < w.heap.size → w'.heap[k]? = w.heap[k]?) : GR w' B v R :=
  ⟨own_of_block H.own fun j hj => h j (own_lt H.own hj).1 (own_lt H.own hj).2, fun c hc => own_of_block (H.rows c hc) fun j hj => h j (own_lt (H.rows c hc) hj).1 (own_lt (H.rows c hc) hj).2, H.ap⟩
theorem GR.below {w w' : World} {B : Nat} {v : Value} {R : List Gc} (H : GR w B v R) (b : Below w.heap.size w w') : GR w' B v R := H.move fun k _ hk => b.block k hk
/-- A grave more. -/
theorem GR.fresh {w w' : World} {B : Nat} {v v' : Value} {R : List Gc} (H : GR w B v R) (k : Ky)
    (o : w'.ownsRow B 93 3 v' (R.length + 1) (gcl R ++ [.string k.1, .string k.2, .slice none 0 0])) (g : w.grownBy w' v.ownBlock) : GR w' B v' (R ++ [(k, [], .slice none 0 0)]) := by
  refine ⟨by rw [List.length_append, gcl_app]; exact o, fun c hc => ?_, ?_⟩
  · rcases List.mem_append.1 hc with hc | hc
    · exact own_of_block (H.rows c hc) fun j hj => g.block j (own_lt (H.rows c hc) hj).2 fun e => apart H.own (H.rows c hc) (by decide) e.symm hj
    · obtain rfl := List.mem_singleton.1 hc
      exact World.ownsRow_nil _ _ _ _
  · rw [List.pairwise_append]
    refine ⟨H.ap, by simp, fun a _ c hc j _ => ?_⟩
    obtain rfl := List.mem_singleton.1 hc
    intro e; cases e
/-- The last grave turned. -/
theorem GR.laid {w w' : World} {B b n cap : Nat} {R : List Gc} {c : Gc} {S' : List Spn} (H : GR w B (.slice (some ⟨b, 0, none⟩) n cap) (R ++ [c])) (L : Laid w w' B b (R.length * 3 + 2) c.2.2 S') :
    (∃ sv', GR w' B (.slice (some ⟨b, 0, none⟩) n cap) (R ++ [(c.1, S', sv')])) ∧ (∀ k, k < w.heap.size → k < B → w'.heap[k]? = w.heap[k]?) ∧ Below B w w' ∧ (∀ k, k < w.heap.size → k ≠ b → c.2.2.ownBlock ≠ some k → w'.heap[k]? = w.heap[k]?) := by
  obtain ⟨w2, sv', hw, hg, ho, hat⟩ := L
  have hc := H.rows c (by simp)
  have hnb : c.2.2.ownBlock ≠ some b := fun e => apart H.own hc (by decide) rfl e
  have hbl : b < w.heap.size := (own_lt H.own rfl).2
  have hbB : B ≤ b := (own_lt H.own rfl).1
  have hn : n = R.length + 1 := by
    rcases H.own.2 with ⟨e, _⟩ | ⟨_, _, _, e, _⟩
    · cases e
    · injection e with _ e _; simpa using e
  have own2 : w2.ownsRow B 93 3 (.slice (some ⟨b, 0, none⟩) n cap) n (gcl (R ++ [c])) := by
    have := own_of_block H.own (w' := w2) fun j hj => hg.block j (own_lt H.own hj).2 fun e => by cases hj; exact hnb e.symm
    have e : (R ++ [c]).length = n := by rw [hn, List.length_append]; rfl
    rwa [e] at this
  -- the world at the end, against w2
  have hset : gcl (R ++ [(c.1, S', sv')]) = (gcl (R ++ [c])).set (R.length * 3 + 2) sv' := by
    rw [gcl_app, gcl_app, List.set_append_right _ _ (by rw [gcl_len]; omega), gcl_len, show R.length * 3 + 2 - R.length * 3 = 2 by omega]
    rfl
  have own3 : w'.ownsRow B 93 3 (.slice (some ⟨b, 0, none⟩) n cap) n (gcl (R ++ [(c.1, S', sv')])) := by
    rcases hw with rfl | ⟨rfl, rfl⟩
    · rw [hset]; exact (own2.stored (R.length * 3 + 2) sv').1
    · rw [show gcl (R ++ [(c.1, S', c.2.2)]) = gcl (R ++ [c]) by rw [gcl_app, gcl_app]; rfl]; exact own2
  have old : ∀ k, k < w.heap.size → k ≠ b → c.2.2.ownBlock ≠ some k → w'.heap[k]? = w.heap[k]? := fun k hk h1 h2 => by
    have e := hg.block k hk (fun e => h2 e.symm)
    rcases hw with rfl | ⟨rfl, _⟩
    · rw [heap_setCell_other _ _ _ _ (by simpa using h1)]; exact e
    · exact e
  have rowS : w'.ownsRow B 96 2 sv' S'.length (scs S') := by
    rcases hw with rfl | ⟨rfl, _⟩
    · refine own_of_block ho fun j hj => heap_setCell_other _ _ _ _ fun e => ?_
      simp only at e
      subst e
      exact apart own2 ho (by decide) rfl hj
    · exact ho
  have sz : w.heap.size ≤ w'.heap.size := by
    have := hg.size
    rcases hw with rfl | ⟨rfl, _⟩
    · simpa using this
    · exact this
  have os : w'.os = w.os ∧ w'.tape = w.tape ∧ w'.output = w.output := by
    rcases hw with rfl | ⟨rfl, _⟩
    · exact ⟨hg.os, hg.tape, hg.output⟩
    · exact ⟨hg.os, hg.tape, hg.output⟩
  have lowB : ∀ k, k < w.heap.size → k < B → w'.heap[k]? = w.heap[k]? := fun k hk hkB => old k hk (by omega) (fun e => by have := (own_lt hc e).1; omega)
  refine ⟨⟨sv', ?_, fun d hd => ?_, ?_⟩, lowB, ⟨os.1, os.2.1, os.2.2, sz, fun k hk => ?_⟩, old⟩
  · rw [List.length_append]; rw [hn] at own3; rw [hn]; exact own3
  · rcases List.mem_append.1 hd with hd | hd
    · have hd' := H.rows d (by simp [hd])
      refine own_of_block hd' fun j hj => old j (own_lt hd' hj).2 (fun e => ?_) (fun e => ?_)
      · subst e; exact apart H.own hd' (by decide) rfl hj
      · exact (List.pairwise_append.1 H.ap).2.2 d hd c (by simp) j hj e
    · obtain rfl := List.mem_singleton.1 hd
      exact rowS
  · rw [List.pairwise_append]
    refine ⟨(List.pairwise_append.1 H.ap).1, by simp, fun a ha d hd j hj e => ?_⟩
    obtain rfl := List.mem_singleton.1 hd
    simp only at e
    rcases hat with h | ⟨k, h, hk⟩
    · rw [h] at e
      exact (List.pairwise_append.1 H.ap).2.2 a ha c (by simp) j hj e
    · rw [h] at e; cases e
      have := (own_lt (H.rows a (by simp [ha])) hj).2; omega
  · exact lowB k (by have := hbl; omega) hk
/-- A span laid to the last grave. -/
theorem GR.add {w : World} {B p n cap : Nat} {R : List Gc} {c : Gc} (H : GR w B (.slice (some ⟨p, 0, none⟩) n cap) (R ++ [c])) (s : Spn) (hl : c.2.1.length ≤ 4000000000000) (hB : B ≤ w.heap.size) :
    Calls Try.prog 48 #[.pointer (some ⟨p, R.length * 3, none⟩), .agg #[.int .i64 s.1, .int .i64 s.2]] w fun e w' => e = .returned (.tuple #[]) ∧ ((∃ sv', GR w' B (.slice (some ⟨p, 0, none⟩) n cap) (R ++ [(c.1, addS c.2.1 s, sv')])) ∧ (∀ k, k < w.heap.size → k < B → w'.heap[k]? = w.heap[k]?) ∧ Below B w w' ∧ (∀ k, k < w.heap.size → k ≠ p → c.2.2.ownBlock ≠ some k → w'.heap[k]? = w.heap[k]?)) := by
  have hc := H.rows c (by simp)
  have hnb : c.2.2.ownBlock ≠ some p := fun e => apart H.own hc (by decide) rfl e
  have hcell : w.cell? ⟨p, R.length * 3 + 2, none⟩ = some c.2.2 := by
    have o := H.own
    have hn : n = (R ++ [c]).length := by
      rcases H.own.2 with ⟨e, _⟩ | ⟨_, _, _, e, _⟩
      · cases e
      · injection e
    rw [← hn] at o
    have h1 := o.cellAt (R.length * 3 + 2) (by rw [hn, List.length_append]; simp; omega)
    rw [h1, gcl_app, List.getElem?_append_right (by rw [gcl_len]; omega), gcl_len, show R.length * 3 + 2 - R.length * 3 = 2 by omega]
    rfl
  have hz : w.frozen? ⟨p, R.length * 3 + 2, none⟩ = false := by
    rcases H.own.2 with ⟨e, _⟩ | ⟨g', _, _, e, _, hg', _⟩
    · cases e
    · cases e; simp [World.frozen?, hg']
  obtain ⟨sa, sc', hf⟩ := own_forms hc
  rw [hf] at hc hcell hnb
  refine (add48 w B p (R.length * 3) c.2.1 s sa c.2.1.length sc' hcell hz rfl hl hc hnb hB).mono ?_
  rintro e w' ⟨rfl, h⟩
  rw [← hf] at h
  exact ⟨rfl, GR.laid H h⟩
theorem build_len (R : List Tmb) : (build R).length ≤ R.length ∧ ∀ g ∈ build R, g.2.length ≤ R.length := by
  have st : ∀ (G : List Gv) (x : Tmb) (m : Nat), (G.length ≤ m ∧ ∀ g ∈ G, g.2.length ≤ m) → ((addG G x).length ≤ m + 1 ∧ ∀ g ∈ addG G x, g.2.length ≤ m + 1) := by
    have la : ∀ (S : List Spn) (s : Spn), (addS S s).length ≤ S.length + 1 := by
      intro S s
      rcases snoc_or S with rfl | ⟨T, l, rfl⟩
      · rw [addS_nil]; split <;> simp
      · rw [addS_snoc]; split
        · simp
        · split <;> simp
    intro G x m ⟨h1, h2⟩
    rcases snoc_or G with rfl | ⟨T, l, rfl⟩
    · rw [addG_nil]
      refine ⟨by simp, fun g hg => ?_⟩
      obtain rfl := List.mem_singleton.1 hg
      have := la [] x.2.2
      simp only [List.length_nil] at this
      simp only; omega
    · rw [addG_snoc]
      split
      · refine ⟨by simp at h1 ⊢; omega, fun g hg => ?_⟩
        rcases List.mem_append.1 hg with hg | hg
        · have := h2 g (by simp [hg]); omega
        · obtain rfl := List.mem_singleton.1 hg
          have := la l.2 x.2.2
          have := h2 l (by simp)
          simp only; omega
      · refine ⟨by simp at h1 ⊢; omega, fun g hg => ?_⟩
        rcases List.mem_append.1 hg with hg | hg
        · have := h2 g hg; omega
        · obtain rfl := List.mem_singleton.1 hg
          have := la [] x.2.2
          simp only [List.length_nil] at this
          simp only; omega
  have key : ∀ (R : List Tmb) (G : List Gv) (m : Nat), (G.length ≤ m ∧ ∀ g ∈ G, g.2.length ≤ m) → ((R.foldl addG G).length ≤ m + R.length ∧ ∀ g ∈ R.foldl addG G, g.2.length ≤ m + R.length) := by
    intro R
    induction R with
    | nil => intro G m h; exact h
    | cons x r ih =>
      intro G m h
      have := ih (addG G x) (m + 1) (st G x m h)
      rw [List.foldl_cons, List.length_cons]
      rw [show m + (r.length + 1) = m + 1 + r.length by omega]
      exact this
  have := key R [] 0 ⟨by simp, by simp⟩
  rw [Nat.zero_add] at this
  exact this
end Hc
end Go.Proofs.Ytmlbmiegfeadjaa
