/- A series in memory of its own. -/
import Derived.Test.YtalanjhpacjmmaaGreatKi
namespace Go.Proofs.YtalanjhpacjmmaaGreat
set_option maxRecDepth 100000
open Go.RowKit Go.Maps Go.ChangeMaps Go.MapKept Go.Sort Go.Shelf
namespace Kj
open Jb Ka Kb Kc Kd Kf Kg Kh Ki Sa Sb

/-- A series under way: its block, and the row of its tags. -/
def Rs (w : World) (g : Nat) (nm : ByteArray) (v : Value) (L : List Tg) : Prop := w.heap[g]? = some (.cells #[.string nm, v] 30 (0, 0)) ∧ w.ownsRow (g + 1) 36 2 v L.length (tcs L)
theorem own_move {w w' : World} {B : Nat} {v : Value} {L : List Tg} (h : w.ownsRow B 36 2 v L.length (tcs L)) (f : ∀ i, v.ownBlock = some i → B ≤ i → i < w.heap.size → w'.heap[i]? = w.heap[i]?) : w'.ownsRow B 36 2 v L.length (tcs L) := by
  obtain ⟨hl, ⟨rfl, h0⟩ | ⟨g, c, cur, rfl, hg, hh, hr⟩⟩ := h
  · exact ⟨hl, .inl ⟨rfl, h0⟩⟩
  · have hgl : g < w.heap.size := by rw [Array.getElem?_eq_some_iff] at hh; exact hh.1
    exact ⟨hl, .inr ⟨g, c, cur, rfl, hg, (f g rfl hg hgl).trans hh, hr⟩⟩
theorem own_mono {w : World} {B lo : Nat} {v : Value} {L : List Tg} (h : w.ownsRow B 36 2 v L.length (tcs L)) (hl : lo ≤ B) : w.ownsRow lo 36 2 v L.length (tcs L) := by
  obtain ⟨hl', ⟨rfl, h0⟩ | ⟨g, c, cur, rfl, hg, hh, hr⟩⟩ := h
  · exact ⟨hl', .inl ⟨rfl, h0⟩⟩
  · exact ⟨hl', .inr ⟨g, c, cur, rfl, Nat.le_trans hl hg, hh, hr⟩⟩
theorem Rs.lt {w : World} {g : Nat} {nm : ByteArray} {v : Value} {L : List Tg} (h : Rs w g nm v L) : g < w.heap.size := by
  have h1 := h.1
  rw [Array.getElem?_eq_some_iff] at h1; exact h1.1
theorem Rs.below {w w' : World} {g : Nat} {nm : ByteArray} {v : Value} {L : List Tg} (h : Rs w g nm v L) (b : Below w.heap.size w w') : Rs w' g nm v L :=
  ⟨(b.block g h.lt).trans h.1, own_move h.2 fun i _ _ hl => b.block i hl⟩
theorem Rs.c0 {w : World} {g : Nat} {nm : ByteArray} {v : Value} {L : List Tg} (h : Rs w g nm v L) : w.cell? ⟨g, 0, none⟩ = some (.string nm) := by rw [Lib.cell_of_heap h.1]; rfl
theorem Rs.c1 {w : World} {g : Nat} {nm : ByteArray} {v : Value} {L : List Tg} (h : Rs w g nm v L) : w.cell? ⟨g, 1, none⟩ = some v := by rw [Lib.cell_of_heap h.1]; rfl
theorem Rs.f1 {w : World} {g : Nat} {nm : ByteArray} {v : Value} {L : List Tg} (h : Rs w g nm v L) : w.frozen? ⟨g, 1, none⟩ = false := Lib.frozen_of_heap h.1 1
theorem Rs.forms {w : World} {g : Nat} {nm : ByteArray} {v : Value} {L : List Tg} (h : Rs w g nm v L) : ∃ a c, v = .slice a L.length c := own_forms h.2
theorem Rs.own {w : World} {g : Nat} {nm : ByteArray} {v : Value} {L : List Tg} (h : Rs w g nm v L) {i : Nat} (hi : v.ownBlock = some i) : g < i ∧ i < w.heap.size := own_lt h.2 hi
/-- One tag more. -/
theorem step_appT {ops : Array Oper} {o : Oper} {a : Act} {K : Act → World → Prop} {Q : Exit → Act → World → Prop} {E : Prop} (hgd : o.guard = none) (s x : Operand)
    (ho : o.op = .call { callee := .builtin .append, args := #[s, x], argTypes := #[28, 28] }) (w : World) (g : Nat) (nm : ByteArray) (v : Value) (L : List Tg) (t : Tg) (hs : a.eval s = v)
    (hx : a.eval x = .slice (some ⟨w.heap.size, 0, none⟩) 1 1) (hr : Rs w g nm v L) (hl : L.length ≤ 1099511627776)
    (h : ∀ v' w', (w'.heap[g]? = some (.cells #[.string nm, v] 30 (0, 0)) ∧ w'.ownsRow (g + 1) 36 2 v' (L ++ [t]).length (tcs (L ++ [t]))) → (w.alloc (.cells #[.string t.1, .string t.2] 36)).grownBy w' v.ownBlock → K (a.put o.dst v') w') :
    if Region.wanted o (yielded ops a.tmps) = true then Oper.wp Tryz.prog o a (w.alloc (.cells #[.string t.1, .string t.2] 36)) K Q else E := by
  obtain ⟨i0, hi, hz0, hz1, hz2⟩ := info_parts info37
  have hown := hr.2
  have hg := hr.lt
  refine step_append_own hgd s x 28 ho (g + 1) 36 i0 (.agg #[.string ⟨#[]⟩, .string ⟨#[]⟩]) 2 32 Tryz.underlying28 hi hz0 hz1 hz2 rfl (by decide) v L.length _ hs (hown.alloc _) ⟨w.heap.size, 0, none⟩ 1 1 (tc t) hx rfl ?_ (tc_one t) ?_ ?_ ?_ ?_
  · intro j u hj
    match j, hj with
    | 0, hj => simp [tc] at hj; subst hj; exact new_cell _ _ _ 0 _ rfl
    | 1, hj => simp [tc] at hj; subst hj; exact new_cell _ _ _ 1 _ rfl
  · unfold maxLen; omega
  · omega
  · simp; omega
  · intro v' w' h1 h2
    refine h v' w' ⟨?_, by rw [tcs_snoc]; simpa using h1⟩ h2
    rw [h2.block g (by simp; omega) (fun e => by have := (hr.own e.symm).1; omega), Lib.alloc_old w _ g hg]
    exact hr.1
theorem own_blk {A : Option Addr} {n m C : Nat} : (Value.slice A n C).ownBlock = (Value.slice A m C).ownBlock := by cases A <;> rfl
theorem clone_s (w : World) (s : ByteArray) (hs : s.size ≤ 281474976710656) : Calls Tryz.prog 60 #[.string s] w fun e w' => e = .returned (.string s) ∧ Below w.heap.size w w' := Sp.clone28 w s hs
set_option maxHeartbeats 8000000 in
theorem own_s (w : World) (nm : ByteArray) (a : Option Addr) (c : Nat) (L : List Tg) (h : Ti w (.slice a L.length c) L) (hn : nm.size ≤ 140737488355328) (hz : ∀ i, i < L.length → (L.getD i t0).1.size ≤ 140737488355328 ∧ (L.getD i t0).2.size ≤ 140737488355328) (hl : L.length ≤ 1000) :
    Calls Tryz.prog 39 #[.agg #[.string nm, .slice a L.length c]] w fun e w' => ∃ v', e = .returned (.agg #[.string nm, v']) ∧ w'.ownsRow w.heap.size 36 2 v' L.length (tcs L) ∧ Below w.heap.size w w' := by
  obtain ⟨_, _, e1, hg⟩ := h.get
  cases e1
  obtain ⟨m, hm⟩ : ∃ m, m = L.length := ⟨_, rfl⟩
  rw [← hm] at hz hl hg ⊢
  obtain ⟨r1, hr1⟩ : ∃ r, r = w.heap.size := ⟨_, rfl⟩
  obtain ⟨W1, hW1⟩ : ∃ W1, W1 = (w.alloc (.cells #[.string nm, .slice a m c] 30)).alloc (.cells #[.string ⟨#[]⟩, .slice none 0 0] 30) := ⟨_, rfl⟩
  have b1 : Below r1 w W1 := by rw [hW1, hr1]; exact ((Below.refl _ w).alloc (Nat.le_refl _) _).alloc (by simp) _
  have s1 : W1.heap.size = r1 + 2 := by rw [hW1, hr1]; simp
  have hz2 : W1.heap[r1 + 1]? = some (.cells #[.string ⟨#[]⟩, .slice none 0 0] 30 (0, 0)) := by
    rw [hW1, hr1, show w.heap.size + 1 = (w.alloc (.cells #[.string nm, .slice a m c] 30)).heap.size by simp]; exact heap_alloc_new _ _
  have hz1 : W1.heap[r1]? = some (.cells #[.string nm, .slice a m c] 30 (0, 0)) := by
    rw [hW1, Lib.alloc_old _ _ _ (by simp [hr1]), hr1]; exact heap_alloc_new _ _
  have c0 : W1.cell? ⟨r1, 0, none⟩ = some (.string nm) := by rw [Lib.cell_of_heap hz1]; rfl
  have c1 : W1.cell? ⟨r1, 1, none⟩ = some (.slice a m c) := by rw [Lib.cell_of_heap hz1]; rfl
  have CN := Lib.hid (clone_s W1 nm (by omega))
  have HM := Lib.hid hm
  have HG := Lib.hid hg
  have HZ := Lib.hid hz
  have HR := Lib.hid hr1
  have S1 := Lib.hid s1
  have B1 := Lib.hid b1
  have Z2 := Lib.hid hz2
  have hm9 : m ≤ 9223372036854775807 := by omega
  clear h hn hz hg hz1 hz2 hm b1
  go_enter Tryz.func39, Tryz.ntmps39
  go_upto_region 1 with (fail)
  rw [← hr1, ← hW1]
  clear hr1 hW1 s1
  go_upto_region 2 with (go_at_call 60; refine CN.out.mono ?_; clear CN; rintro e w1 ⟨rfl, bc⟩; have BC := Lib.hid bc; have z1 : w1.cell? ⟨r1, 1, none⟩ = some (.slice a m c) := (bc.cell (p := ⟨r1, 1, none⟩) (by rw [S1.out]; exact Nat.lt_succ_of_lt (Nat.lt_succ_self _))).trans c1; clear bc)
  obtain ⟨r3, hr3⟩ : ∃ r, r = w1.heap.size := ⟨_, rfl⟩
  obtain ⟨W3, hW3⟩ : ∃ W3, W3 = w1.alloc (.cells #[.string nm, .slice none 0 0] 30) := ⟨_, rfl⟩
  have RS0 := Lib.hid (show Rs W3 r3 nm (.slice none 0 0) (L.take 0) by
    refine ⟨by rw [hW3, hr3]; exact heap_alloc_new _ _, ?_⟩
    simpa [tcs] using World.ownsRow_nil _ _ _ _)
  have B3 := Lib.hid (show Below r3 w1 W3 by rw [hW3, hr3]; exact (Below.refl _ w1).alloc (Nat.le_refl _) _)
  have L3 := Lib.hid (show r1 + 2 ≤ r3 by rw [hr3, ← S1.out]; exact BC.out.size)
  have z3 : W3.cell? ⟨r1, 1, none⟩ = some (.slice a m c) := (B3.out.cell (p := ⟨r1, 1, none⟩) (by have := L3.out; show r1 < r3; omega)).trans z1
  rw [← hW3, ← hr3]
  have H3 := Lib.hid hr3
  clear hW3 hr3 z1 c0 c1
  go_wp2_with fail
  clear z3
  go_loopw [5, 13] (fun _ i wr => ∃ j : Nat, j ≤ m ∧ i = .int .i64 (j : Nat) ∧ ∃ v, Hid (Rs wr r3 nm v (L.take j)) ∧ Hid (Below r3 W3 wr)) (fun _ i _ => m - (intOf i).toNat)
  case atStart => exact ⟨0, Nat.zero_le _, rfl, _, RS0, Lib.hid (Below.refl _ _)⟩
  case round =>
    obtain ⟨j, hj, rfl, v, RS, BW⟩ := hrel
    have BA := Lib.hid (show Below w.heap.size w wr from (HR.out ▸ B1.out).trans (((BC.out.mono (by rw [S1.out, ← HR.out]; omega)).trans (B3.out.mono (by have := L3.out; rw [← HR.out]; omega))).trans (BW.out.mono (by have := L3.out; rw [← HR.out]; omega))))
    by_cases hjm : j < m
    case neg =>
      obtain rfl : j = m := by omega
      have RE := Lib.hid (show Rs wr r3 nm v L by have := RS.out; rwa [List.take_of_length_le (by rw [← HM.out]; exact Nat.le_refl _)] at this)
      obtain ⟨va, vc, rfl⟩ := RE.out.forms
      obtain ⟨q, hq⟩ : ∃ q, q = L.length := ⟨_, rfl⟩
      have x0 := RE.out.c0
      have x1 := RE.out.c1
      have Z2w : wr.heap[r1 + 1]? = some (.cells #[.string ⟨#[]⟩, .slice none 0 0] 30 (0, 0)) := by
        rw [BW.out.block _ (by have := L3.out; omega), B3.out.block _ (by have := L3.out; omega), BC.out.block _ (by have := S1.out; omega)]; exact Z2.out
      have u := Go.Joins.block_setCell (i := 1) (Go.Joins.block_setCell (i := 0) Z2w (.string nm)) (.slice va L.length vc)
      have q0 : wr.cell? ⟨r1 + 1, 0, none⟩ = some (.string ⟨#[]⟩) := by rw [Lib.cell_of_heap Z2w]; rfl
      have q1 : wr.cell? ⟨r1 + 1, 1, none⟩ = some (.slice none 0 0) := by rw [Lib.cell_of_heap Z2w]; rfl
      have q2 := Lib.frozen_of_heap Z2w 0
      have q3 := Lib.frozen_of_heap Z2w 1
      have Q4 := Lib.hid (Go.Joins.cell_of_block u 0)
      have Q5 := Lib.hid (Go.Joins.cell_of_block u 1)
      have OW := Lib.hid (show ((wr.setCell ⟨r1 + 1, 0, none⟩ (.string nm)).setCell ⟨r1 + 1, 1, none⟩ (.slice va L.length vc)).ownsRow w.heap.size 36 2 (.slice va L.length vc) L.length (tcs L) by
        refine own_mono (own_move RE.out.2 fun i _ hi _ => ?_) (by have := L3.out; rw [← HR.out]; omega)
        have : i ≠ r1 + 1 := by have := L3.out; omega
        exact (heap_setCell_ne this).trans (heap_setCell_ne this))
      have BE := Lib.hid ((BA.out.setCell (p := ⟨r1 + 1, 0, none⟩) (by rw [← HR.out]; show r1 ≤ r1 + 1; omega) (.string nm)).setCell (p := ⟨r1 + 1, 1, none⟩) (by rw [← HR.out]; show r1 ≤ r1 + 1; omega) (.slice va L.length vc))
      rw [← hq] at Q4 Q5 OW BE x1
      have HQ := Lib.hid hq
      clear hjm Z2w u hq
      go_wp2_with fail
      refine bodyPost_ret (v := .agg #[.string nm, .slice va q vc]) (by simp [results, Tryz.results39, go_sem, Q4.out, Q5.out]) rfl ⟨_, rfl, ?_, BE.out⟩
      obtain rfl : q = j := HQ.out.trans HM.out.symm
      exact OW.out
    obtain ⟨tb, off, rfl, hnc, htb, hat⟩ := HG.out j hjm
    obtain ⟨⟨ka, va⟩, hkv⟩ : ∃ q, q = L.getD j t0 := ⟨_, rfl⟩
    obtain ⟨x0, x1⟩ := hat wr BA.out
    obtain ⟨zk, zv⟩ := HZ.out j hjm
    rw [← hkv] at x0 x1 zk zv
    simp only at x0 x1 zk zv
    have HKV := Lib.hid hkv
    have hj0 : (0 : Int) ≤ (j : Int) := by omega
    clear hkv hat htb
    go_upto_region 5 with (fail)
    obtain ⟨wa, hwa⟩ : ∃ wa, wa = wr.alloc (.cells #[.string ka, .string va] 36) := ⟨_, rfl⟩
    obtain ⟨y, hy⟩ : ∃ y, y = wr.heap.size := ⟨_, rfl⟩
    have bwa : Below wr.heap.size wr wa := by rw [hwa]; exact (Below.refl _ wr).alloc (Nat.le_refl _) _
    have RSa := RS.out.below bwa
    have hy0 : wa.cell? ⟨y, 0, none⟩ = some (.string ka) := by rw [hwa, hy]; exact new_cell _ _ _ 0 _ rfl
    have hy1 : wa.cell? ⟨y, 1, none⟩ = some (.string va) := by rw [hwa, hy]; exact new_cell _ _ _ 1 _ rfl
    obtain ⟨na, nc, rfl⟩ := RS.out.forms
    have hml : (L.take j).length = j := Sb.take_len L (by rw [← HM.out]; omega)
    rw [hml] at RSa
    have R3L := Lib.hid (show r3 ≤ wr.heap.size from Nat.le_of_lt RS.out.lt)
    have KY := Lib.hid (show ∀ z, Below wa.drew.heap.size wa.drew z → (z.cell? ⟨y, 0, none⟩ = some (.string ka) ∧ z.cell? ⟨y, 1, none⟩ = some (.string va)) ∧ Rs z r3 nm (.slice na j nc) (L.take j) ∧ Below r3 W3 z ∧ wa.heap.size ≤ z.heap.size from fun z hz => by
      have hz' : Below wa.heap.size wa z := ⟨hz.os, hz.tape, hz.output, hz.size, hz.block⟩
      refine ⟨⟨(hz'.cell (p := ⟨y, 0, none⟩) (cell_lt hy0)).trans hy0, (hz'.cell (p := ⟨y, 1, none⟩) (cell_lt hy1)).trans hy1⟩, RSa.below hz', ?_, hz'.size⟩
      exact (BW.out.trans (bwa.mono R3L.out)).trans (hz'.mono (Nat.le_trans R3L.out bwa.size)))
    have KZ := Lib.hid (show ∀ z2, Below wa.drew.heap.size wa.drew z2 → ∀ z3, (z2.alloc (.cells #[.string ka, .string va] 36)).grownBy z3 (Value.slice na j nc).ownBlock → z3.cell? ⟨y, 0, none⟩ = some (.string ka) ∧ z3.cell? ⟨y, 1, none⟩ = some (.string va) from fun z2 b2 z3 g3 => by
      have b2' : Below wa.heap.size wa z2 := ⟨b2.os, b2.tape, b2.output, b2.size, b2.block⟩
      have yl : y < wa.heap.size := cell_lt hy0
      have yl2 : y < z2.heap.size := Nat.lt_of_lt_of_le yl b2'.size
      have ny : (Value.slice na j nc).ownBlock ≠ some y := fun e => by
        have := (RS.out.own (i := y) (by rw [own_blk]; exact e)).2
        omega
      have eb : z3.heap[y]? = wa.heap[y]? := (g3.block y (by simp; omega) (fun e => ny e.symm)).trans ((Lib.alloc_old z2 _ y yl2).trans (b2'.block y yl))
      exact ⟨(World.cell?_of_block eb).trans hy0, (World.cell?_of_block eb).trans hy1⟩)
    have KZ4 := Lib.hid (show ∀ z3 : World, (z3.cell? ⟨y, 0, none⟩ = some (.string ka) ∧ z3.cell? ⟨y, 1, none⟩ = some (.string va)) → ∀ u, (z3.setCell ⟨r3, 1, none⟩ u).cell? ⟨y, 0, none⟩ = some (.string ka) ∧ (z3.setCell ⟨r3, 1, none⟩ u).cell? ⟨y, 1, none⟩ = some (.string va) from fun z3 h u => by
      have ne : ∀ i, (⟨r3, 1, none⟩ : Addr) ≠ ⟨y, i, none⟩ := fun i e => by injection e with e1; have := RS.out.lt; omega
      exact ⟨(cell_other (ne 0)).trans h.1, (cell_other (ne 1)).trans h.2⟩)
    have YL := Lib.hid (show y < wa.heap.size ∧ r3 < y from ⟨cell_lt hy0, by rw [hy]; exact RS.out.lt⟩)
    obtain ⟨k0, r0, -, -⟩ := KY.out wa.drew (Below.refl _ _)
    have e0 := r0.c1
    rw [← hwa, ← hy]
    have CL := Lib.hid (fun (z : World) (q : ByteArray) (hq : q.size ≤ 140737488355328) => clone_s z q (Nat.le_trans hq (by decide)))
    have HML := Lib.hid hml
    have HL9 := Lib.hid (show (L.take j).length ≤ 1099511627776 by rw [hml]; omega)
    clear hwa hy hy0 hy1 bwa RSa x0 x1 r0 hml
    obtain ⟨k00, k01⟩ := k0
    go_region_law
      (first
        | (go_simp; go_at_call 60; refine (CL.out wa.drew _ (by assumption)).mono ?_; rintro e z1 ⟨rfl, b1⟩; have B1 := Lib.hid b1; (obtain ⟨⟨k10, k11⟩, r1', -, -⟩ := KY.out z1 b1); have e1 := r1'.c1; clear b1 r1')
        | (go_simp; go_at_call 60; refine (CL.out z1 _ (by assumption)).mono ?_; rintro e z2 ⟨rfl, b2⟩; have B2 := Lib.hid (B1.out.trans (b2.mono B1.out.size)); clear b2; (obtain ⟨⟨k20, k21⟩, r2', -, -⟩ := KY.out z2 B2.out); have e2 := r2'.c1; have RZ := Lib.hid r2'; have l2 := r2'.lt; clear r2')
        | (refine step_appT rfl (.tmp 18) (.tmp 26) rfl z2 r3 nm (.slice na j nc) (L.take j) (ka, va) (by simp [Act.eval]) (by simp [Act.eval]) RZ.out HL9.out ?_; rintro v' z3 ⟨h1, h2⟩ g3; have H1 := Lib.hid h1; have H2 := Lib.hid h2; have G3 := Lib.hid g3; (obtain ⟨a3, c3, e3⟩ := own_forms h2); obtain ⟨m3, hm3⟩ : ∃ m3, m3 = ((L.take j) ++ [(ka, va)]).length := ⟨_, rfl⟩; rw [← hm3] at e3; subst e3; have HM3 := Lib.hid hm3; have x6 : z3.frozen? ⟨r3, 1, none⟩ = false := Lib.frozen_of_heap H1.out 1; have x7 : z3.cell? ⟨r3, 1, none⟩ = some (.slice na j nc) := (by rw [Lib.cell_of_heap H1.out]; rfl); clear h1 h2 g3 hm3))
    all_goals
      go_wp2_with fail
      go_roundw
    all_goals first
      | (simp [intOf]; omega)
      | skip
    all_goals
      have bZ := (KY.out z2 B2.out).2.2.1
      have eS : z3.cell? ⟨r3, 1, none⟩ = some (.slice na j nc) := x7
      refine ⟨j + 1, by omega, by go_num, .slice a3 m3 c3, Lib.hid ?_, Lib.hid ?_⟩
      · refine ⟨?_, ?_⟩
        · have := Go.Joins.block_setCell (i := 1) H1.out (.slice a3 m3 c3)
          simpa using this
        · have e9 : (L.take (j + 1)) = L.take j ++ [(ka, va)] := by rw [take_snoc L (by rw [← HM.out]; exact hjm), ← HKV.out]
          rw [e9]
          have h2 := H2.out
          rw [HM3.out] at h2 ⊢
          exact own_move h2 fun i hi hB _ => heap_setCell_ne (by omega)
      · have hg3 := G3.out
        refine Below.setCell (p := ⟨r3, 1, none⟩) ?_ (Nat.le_refl _) _
        exact (bZ.alloc (by have := YL.out; have := (KY.out z2 B2.out).2.2.2; omega) _).grown hg3 (by have := YL.out; have := (KY.out z2 B2.out).2.2.2; simp; omega) (fun k hk => by
          have := (RS.out.own (i := k) (by rw [own_blk]; exact hk)).1; omega)
end Kj
end Go.Proofs.YtalanjhpacjmmaaGreat
