/- Series as answers: their tags cloned, their rows. -/
import Derived.Test.YtalanjhpacjmmaaGreatKm
namespace Go.Proofs.YtalanjhpacjmmaaGreat
set_option maxRecDepth 100000
open Go.RowKit Go.Maps Go.ChangeMaps Go.MapKept Go.Sort Go.Shelf
namespace Kn
open Jb Ka Kb Kc Kd Kf Kg Kh Ki Kj Kk Kl Km Sa Sb Sg

theorem tcs_one (L : List Tg) : ∀ u ∈ tcs L, u.oneCell' = true := by
  intro u hu
  obtain ⟨x, _, hx⟩ := List.mem_flatMap.1 hu
  exact tc_one x u hx
theorem ti_cells {w : World} {a : Option Addr} {c : Nat} {L : List Tg} (h : Ti w (.slice a L.length c) L) : (a = none ∧ L = []) ∨ ∃ ad, a = some ad ∧ ∀ j u, (tcs L)[j]? = some u → w.cell? (ad.add j) = some u := by
  rcases h with ⟨a', c', e, rfl⟩ | ⟨b, off, c', e, _, _, h3⟩
  · cases a with
    | none => exact .inl ⟨rfl, rfl⟩
    | some ad => exact .inr ⟨ad, rfl, fun j u h => by simp [tcs] at h⟩
  · cases e
    refine .inr ⟨_, rfl, fun j u hu => ?_⟩
    have hj : j < L.length * 2 := by rw [← tcs_len]; exact (List.getElem?_eq_some_iff.1 hu).1
    have h2 := h3 (j / 2) (by omega)
    have hg := tcs_get L (j / 2) (j % 2) (by omega) (Nat.mod_lt _ (by decide))
    rw [show j / 2 * 2 + j % 2 = j by omega, hu] at hg
    have ea : (Addr.add ⟨b, off, none⟩ j) = ⟨b, off + j, none⟩ := by by_cases hi0 : j = 0 <;> simp [Addr.add, hi0]
    rw [ea]
    rcases Nat.mod_two_eq_zero_or_one j with e | e
    · rw [e] at hg
      have := h2.1
      rw [show off + j / 2 * 2 = off + j by omega] at this
      rw [this, hg]; rfl
    · rw [e] at hg
      have := h2.2
      rw [show off + j / 2 * 2 + 1 = off + j by omega] at this
      rw [this, hg]; rfl
theorem clone_tags (w : World) (a : Option Addr) (c : Nat) (L : List Tg) (h : Ti w (.slice a L.length c) L) (hn : L.length ≤ 1000) :
    Calls Tryz.prog 88 #[.slice a L.length c] w fun e w' => ∃ r, e = .returned r ∧ w'.ownsRow w.heap.size 36 2 r L.length (tcs L) ∧ Below w.heap.size w w' := by
  obtain ⟨i0, hi, hz0, hz1, hz2⟩ := info_parts info37
  rcases ti_cells h with ⟨rfl, rfl⟩ | ⟨ad, rfl, hc⟩
  · have he : ∀ w : World, (binOp .eql 28 (.slice none 0 c) (.slice none 0 0)).run Tryz.prog w = .ok (.bool true) w := fun _ => rfl
    clear h
    go_enter Tryz.func88, Tryz.ntmps88
    go_wp2_with fail
    go_ret
    exact ⟨_, rfl, World.ownsRow_nil _ _ _ _, Below.refl _ _⟩
  · obtain ⟨n, hN⟩ : ∃ n, n = L.length := ⟨_, rfl⟩
    obtain ⟨T, hT⟩ : ∃ T, T = tcs L := ⟨_, rfl⟩
    have h1c : ∀ u ∈ T, u.oneCell' = true := by rw [hT]; exact tcs_one L
    have htl : T.length = n * 2 := by rw [hT, tcs_len, hN]
    rw [← hT] at hc ⊢
    rw [← hN] at hn ⊢
    have bA := (Below.refl w.heap.size w).alloc (Nat.le_refl _) (.cells #[] 36)
    have HC := Lib.hid (show ∀ j u, T[j]? = some u → (w.alloc (.cells #[] 36)).cell? (ad.add j) = some u from fun j u hj => by
      have := hc j u hj
      exact (bA.cell (p := ad.add j) (cell_lt this)).trans this)
    have OWN := Lib.hid (show (w.alloc (.cells #[] 36)).ownsRow w.heap.size 36 2 (.slice (some ⟨w.heap.size, 0, none⟩) 0 0) 0 [] from ⟨by simp, .inr ⟨w.heap.size, 0, #[], rfl, Nat.le_refl _, heap_alloc_new _ _, Nat.le_refl _, by unfold maxLen; omega, by simp, by simp⟩⟩)
    have BA := Lib.hid bA
    have H1 := Lib.hid h1c
    have HL := Lib.hid htl
    clear h hc bA h1c htl hN hT
    have he : ∀ w : World, (binOp .eql 28 (.slice (some ad) n c) (.slice none 0 0)).run Tryz.prog w = .ok (.bool false) w := fun _ => rfl
    go_enter Tryz.func88, Tryz.ntmps88
    go_wp2_with (at_builtin; refine wpList_append_own _ rfl (.tmp 5) (.tmp 6) 28 rfl w.heap.size 36 i0 _ 2 32 Tryz.underlying28 hi hz0 hz1 hz2 rfl (by decide) (.slice (some ⟨w.heap.size, 0, none⟩) 0 0) 0 [] (by simp [Act.eval]) OWN.out ad n c T rfl HL.out HC.out H1.out ?c3 ?c4 ?c5 ?_)
    case c3 => unfold maxLen; omega
    case c4 => omega
    case c5 => simp
    intro v' w6 hown6 hgrow _
    have O6 := Lib.hid hown6
    have B6 := Lib.hid (BA.out.grown hgrow (by simp) (fun k e => by cases e; exact Nat.le_refl _))
    clear hown6 hgrow
    go_wp2_with fail
    go_ret
    exact ⟨_, rfl, by simpa using O6.out, B6.out⟩
/-! Series in a row. -/
def s0 : Sr := (⟨#[]⟩, [])
/-- A series at the place o of block b, its tags in a block that is told of. -/
def SAt (w : World) (P : Nat → Prop) (b o : Nat) (s : Sr) : Prop := ∃ a c, w.cell? ⟨b, o, none⟩ = some (.string s.1) ∧ w.cell? ⟨b, o + 1, none⟩ = some (.slice a s.2.length c) ∧ Ti w (.slice a s.2.length c) s.2 ∧ ∀ k, (Value.slice a s.2.length c).ownBlock = some k → P k
theorem Ti.move {w w' : World} {a : Option Addr} {l c : Nat} {L : List Tg} (h : Ti w (.slice a l c) L) (hs : w.heap.size ≤ w'.heap.size) (e : ∀ k, (Value.slice a l c).ownBlock = some k → k < w.heap.size → w'.heap[k]? = w.heap[k]?) : Ti w' (.slice a l c) L := by
  rcases h with h' | ⟨b, off, c', e', l1, l2, l3⟩
  · exact .inl h'
  · have eb := e b (by rw [e']; rfl) l2
    exact .inr ⟨b, off, c', e', l1, Nat.lt_of_lt_of_le l2 hs, fun i hi => (l3 i hi).of_block eb⟩
theorem SAt.move {w w' : World} {P : Nat → Prop} {b o : Nat} {s : Sr} (h : SAt w P b o s) (hs : w.heap.size ≤ w'.heap.size) (eb : w'.heap[b]? = w.heap[b]?) (e : ∀ k, P k → k < w.heap.size → w'.heap[k]? = w.heap[k]?) : SAt w' P b o s := by
  obtain ⟨a, c, h1, h2, h3, h4⟩ := h
  exact ⟨a, c, (World.cell?_of_block eb).trans h1, (World.cell?_of_block eb).trans h2, Ti.move h3 hs (fun k hk hl => e k (h4 k hk) hl), h4⟩
theorem SAt.imp {w : World} {P P' : Nat → Prop} {b o : Nat} {s : Sr} (h : SAt w P b o s) (f : ∀ k, P k → P' k) : SAt w P' b o s := by
  obtain ⟨a, c, h1, h2, h3, h4⟩ := h
  exact ⟨a, c, h1, h2, h3, fun k hk => f k (h4 k hk)⟩
/-- A slice of these series; its blocks are P's. -/
def Sl (w : World) (P : Nat → Prop) (v : Value) (rs : List Sr) : Prop :=
  (∃ a c, v = .slice a 0 c ∧ rs = []) ∨ ∃ b off c, v = .slice (some ⟨b, off, none⟩) rs.length c ∧ rs.length ≤ c ∧ b < w.heap.size ∧ P b ∧ ∀ i, i < rs.length → SAt w P b (off + i * 2) (rs.getD i s0)
theorem Sl.forms {w : World} {P : Nat → Prop} {v : Value} {rs : List Sr} (h : Sl w P v rs) : ∃ a c, v = .slice a rs.length c := by
  rcases h with ⟨a, c, rfl, rfl⟩ | ⟨b, off, c, rfl, _⟩
  · exact ⟨a, c, rfl⟩
  · exact ⟨_, _, rfl⟩
theorem Sl.move {w w' : World} {P : Nat → Prop} {v : Value} {rs : List Sr} (h : Sl w P v rs) (hs : w.heap.size ≤ w'.heap.size) (e : ∀ k, P k → k < w.heap.size → w'.heap[k]? = w.heap[k]?) : Sl w' P v rs := by
  rcases h with h | ⟨b, off, c, h1, h2, h3, h4, h5⟩
  · exact .inl h
  · exact .inr ⟨b, off, c, h1, h2, Nat.lt_of_lt_of_le h3 hs, h4, fun i hi => (h5 i hi).move hs (e b h4 h3) e⟩
theorem Sl.below {w w' : World} {P : Nat → Prop} {v : Value} {rs : List Sr} (h : Sl w P v rs) (b : Below w.heap.size w w') : Sl w' P v rs := h.move b.size fun k _ hk => b.block k hk
theorem Sl.imp {w : World} {P P' : Nat → Prop} {v : Value} {rs : List Sr} (h : Sl w P v rs) (f : ∀ k, P k → P' k) : Sl w P' v rs := by
  rcases h with h | ⟨b, off, c, h1, h2, h3, h4, h5⟩
  · exact .inl h
  · exact .inr ⟨b, off, c, h1, h2, h3, f b h4, fun i hi => (h5 i hi).imp f⟩
/-- A block that may be stored to. -/
def Fz (w : World) (k : Nat) : Prop := k < w.heap.size ∧ ∀ i, w.frozen? ⟨k, i, none⟩ = false
theorem Fz.move {w w' : World} {k : Nat} (h : Fz w k) (e : w'.heap[k]? = w.heap[k]?) (hs : w.heap.size ≤ w'.heap.size) : Fz w' k := ⟨Nat.lt_of_lt_of_le h.1 hs, fun i => (World.frozen?_of_block e).trans (h.2 i)⟩
theorem own_fz {w : World} {B t k n j : Nat} {v : Value} {xs : List Value} (h : w.ownsRow B t k v n xs) (hj : v.ownBlock = some j) : Fz w j := by
  have hl := (own_lt h hj).2
  obtain ⟨_, ⟨rfl, _⟩ | ⟨g, c, cur, rfl, hg, hh, _⟩⟩ := h
  · cases hj
  · cases hj
    exact ⟨hl, fun i => Lib.frozen_of_heap hh i⟩
/-- A row of series that is being filled: j of them are there. -/
structure Fl (w : World) (rb n j : Nat) (rs : List Sr) : Prop where
  row : ∃ cs : Array Value, w.heap[rb]? = some (.cells cs 30 (0, 0)) ∧ cs.size = n * 2
  at_ : ∀ i, i < j → SAt w (fun k => rb < k ∧ Fz w k) rb (i * 2) (rs.getD i s0)
theorem Fl.below {w w' : World} {rb n j : Nat} {rs : List Sr} (h : Fl w rb n j rs) (b : Below w.heap.size w w') : Fl w' rb n j rs := by
  obtain ⟨cs, h1, h2⟩ := h.row
  have hl : rb < w.heap.size := (Array.getElem?_eq_some_iff.1 h1).1
  exact ⟨⟨cs, (b.block rb hl).trans h1, h2⟩, fun i hi => ((h.at_ i hi).move b.size (b.block rb hl) (fun k _ hk => b.block k hk)).imp fun k hk => ⟨hk.1, hk.2.move (b.block k hk.2.1) b.size⟩⟩
theorem Fl.lt {w : World} {rb n j : Nat} {rs : List Sr} (h : Fl w rb n j rs) : rb < w.heap.size := by
  obtain ⟨cs, h1, h2⟩ := h.row
  exact (Array.getElem?_eq_some_iff.1 h1).1
/-- Its cells ahead of the next store, and what the store leaves. -/
theorem Fl.step {w : World} {rb n j : Nat} {rs : List Sr} (h : Fl w rb n j rs) (hj : j < n) {a : Option Addr} {c : Nat} (ht : Ti w (.slice a (rs.getD j s0).2.length c) (rs.getD j s0).2) (ho : ∀ k, (Value.slice a (rs.getD j s0).2.length c).ownBlock = some k → rb < k ∧ Fz w k) :
    (∃ u1 u2, w.cell? ⟨rb, j * 2, none⟩ = some u1 ∧ w.cell? ⟨rb, j * 2 + 1, none⟩ = some u2) ∧ (∀ i, w.frozen? ⟨rb, i, none⟩ = false) ∧
      Fl ((w.setCell ⟨rb, j * 2, none⟩ (.string (rs.getD j s0).1)).setCell ⟨rb, j * 2 + 1, none⟩ (.slice a (rs.getD j s0).2.length c)) rb n (j + 1) rs := by
  obtain ⟨cs, h1, h2⟩ := h.row
  have hl := h.lt
  have g1 : w.cell? ⟨rb, j * 2, none⟩ = cs[j * 2]? := Sb.cell_at h1 _
  have g2 : w.cell? ⟨rb, j * 2 + 1, none⟩ = cs[j * 2 + 1]? := Sb.cell_at h1 _
  obtain ⟨w', hw'⟩ : ∃ w', w' = (w.setCell ⟨rb, j * 2, none⟩ (.string (rs.getD j s0).1)).setCell ⟨rb, j * 2 + 1, none⟩ (.slice a (rs.getD j s0).2.length c) := ⟨_, rfl⟩
  have hs : w'.heap.size = w.heap.size := by rw [hw']; simp
  have hb : ∀ k, k ≠ rb → w'.heap[k]? = w.heap[k]? := fun k hk => by rw [hw']; exact (heap_setCell_ne hk).trans (heap_setCell_ne hk)
  have hr := Go.Joins.block_setCell (i := j * 2 + 1) (Go.Joins.block_setCell (i := j * 2) h1 (.string (rs.getD j s0).1)) (.slice a (rs.getD j s0).2.length c)
  rw [← hw'] at hr ⊢
  refine ⟨⟨cs[j * 2]'(by omega), cs[j * 2 + 1]'(by omega), by rw [g1, Array.getElem?_eq_getElem], by rw [g2, Array.getElem?_eq_getElem]⟩, fun i => Lib.frozen_of_heap h1 i, ⟨⟨_, hr, by simp [h2]⟩, fun i hi => ?_⟩⟩
  have cc : ∀ q, w'.cell? ⟨rb, q, none⟩ = ((cs.setIfInBounds (j * 2) (.string (rs.getD j s0).1)).setIfInBounds (j * 2 + 1) (.slice a (rs.getD j s0).2.length c))[q]? := fun q => Sb.cell_at hr q
  by_cases e : i = j
  · subst e
    refine ⟨a, c, ?_, ?_, Ti.move ht (by omega) (fun k hk _ => hb k (by have := (ho k hk).1; omega)), fun k hk => ⟨(ho k hk).1, (ho k hk).2.move (hb k (by have := (ho k hk).1; omega)) (by omega)⟩⟩
    · rw [cc, Array.getElem?_setIfInBounds_ne (by omega), Array.getElem?_setIfInBounds_self_of_lt (by omega)]
    · rw [cc, Array.getElem?_setIfInBounds_self_of_lt (by simp; omega)]
  · obtain ⟨a', c', k1, k2, k3, k4⟩ := h.at_ i (by omega)
    refine ⟨a', c', ?_, ?_, Ti.move k3 (by omega) (fun k hk _ => hb k (by have := (k4 k hk).1; omega)), fun k hk => ⟨(k4 k hk).1, (k4 k hk).2.move (hb k (by have := (k4 k hk).1; omega)) (by omega)⟩⟩
    · rw [cc, Array.getElem?_setIfInBounds_ne (by omega), Array.getElem?_setIfInBounds_ne (by omega), ← Sb.cell_at h1 _]; exact k1
    · rw [cc, Array.getElem?_setIfInBounds_ne (by omega), Array.getElem?_setIfInBounds_ne (by omega), ← Sb.cell_at h1 _]; exact k2
/-- A slice of these series in blocks that may be stored to. -/
def Tf (w : World) (lo : Nat) (v : Value) (rs : List Sr) : Prop :=
  (∃ a c, v = .slice a 0 c ∧ rs = []) ∨ ∃ b c, v = .slice (some ⟨b, 0, none⟩) rs.length c ∧ rs.length ≤ c ∧ lo ≤ b ∧ Fl w b rs.length rs.length rs
theorem Tf.sl {w : World} {lo : Nat} {v : Value} {rs : List Sr} (h : Tf w lo v rs) : Sl w (fun k => lo ≤ k) v rs := by
  rcases h with h | ⟨b, c, h1, h2, h3, h4⟩
  · exact .inl h
  · refine .inr ⟨b, 0, c, h1, h2, h4.lt, h3, fun i hi => ?_⟩
    rw [Nat.zero_add]
    exact (h4.at_ i hi).imp fun k hk => Nat.le_trans h3 (Nat.le_of_lt hk.1)
theorem Tf.lo {w : World} {lo lo' : Nat} {v : Value} {rs : List Sr} (h : Tf w lo v rs) (hl : lo' ≤ lo) : Tf w lo' v rs := by
  rcases h with h | ⟨b, c, h1, h2, h3, h4⟩
  · exact .inl h
  · exact .inr ⟨b, c, h1, h2, Nat.le_trans hl h3, h4⟩
end Kn
end Go.Proofs.YtalanjhpacjmmaaGreat
