/- The program's Parse. -/
import Derived.Test.YtedlgcbgbphlkaaSl
namespace Go.Proofs.Ytedlgcbgbphlkaa
open Go.RowKit
namespace Sm
open Jb Sa Sb Sc Sd Se Sf Sg Sh Si Sj Sk Sl

theorem tagst_sizes (L : List Tg) : L.length ≤ (tagst L).length ∧ ∀ x ∈ L, x.1.size ≤ (tagst L).length ∧ x.2.size ≤ (tagst L).length := by
  induction L with
  | nil => exact ⟨Nat.le_refl _, fun x hx => by cases hx⟩
  | cons y r ih =>
    obtain ⟨h1, h2⟩ := ih
    rw [tagst_cons]
    have e1 := (esc_len (bl y.1)).1
    have e2 := (esc_len (bl y.2)).1
    rw [bl_len] at e1 e2
    simp only [tagt, List.length_append, List.length_cons]
    refine ⟨by omega, fun x hx => ?_⟩
    rcases List.mem_cons.1 hx with rfl | hx
    · omega
    · have := h2 x hx; omega
theorem txt_sizes {t : List UInt8} {s : Sr} (h : rd t = some s) : s.1.size ≤ t.length ∧ s.2.length ≤ t.length ∧ ∀ x ∈ s.2, x.1.size ≤ t.length ∧ x.2.size ≤ t.length := by
  have e := rd_is h
  obtain ⟨h1, h2⟩ := tagst_sizes s.2
  have e1 := (esc_len (bl s.1)).1
  rw [bl_len] at e1
  rw [e]
  simp only [txt, List.length_append]
  refine ⟨by omega, by omega, fun x hx => ?_⟩
  have := h2 x hx
  omega
/-- What Parse answers. -/
def PaE (w' : World) (t : List UInt8) (e : Ending) : Prop :=
  (∃ s v, rd t = some s ∧ fm s = true ∧ e = .returned (.tuple #[.agg #[.string s.1, v], .int .i64 0]) ∧ Ti w' v s.2) ∨
    ((∀ s, rd t = some s → fm s = false) ∧ e = .returned (.tuple #[.agg #[.string ⟨#[]⟩, .slice none 0 0], .int .i64 2]))
theorem rd_long {t : List UInt8} (h : 2192 < t.length) : ∀ s, rd t = some s → fm s = false := by
  intro s hs
  cases e : fm s with
  | false => rfl
  | true =>
    exfalso
    have := fm_len e
    rw [← rd_is hs] at this
    omega
set_option maxRecDepth 100000 in
set_option maxHeartbeats 2000000 in
theorem parse16 (w : World) (s : ByteArray) (hs : s.size ≤ 140737488355328) :
    Calls Try.prog 16 #[.string s] w fun e w' => PaE w' (bl s) e ∧ Below w.heap.size w w' := by
  obtain ⟨n, hn⟩ : ∃ n, n = s.size := ⟨_, rfl⟩
  have hlen : ∀ (ty : TypeId) (y : World), (Builtin.len_ #[9] ty #[.string s]).run Try.prog y = .ok (.int .i64 (n : Nat)) y := fun ty y => by rw [hn]; exact run_len_string y 9 ty s Try.underlying9
  obtain ⟨r0, hr0⟩ : ∃ r, r = w.heap.size := ⟨_, rfl⟩
  obtain ⟨W, hW⟩ : ∃ W, W = w.alloc (.cells #[.string ⟨#[]⟩, .slice none 0 0] 24) := ⟨_, rfl⟩
  have hz := (show W.heap[r0]? = some (.cells #[.string ⟨#[]⟩, .slice none 0 0] 24 (0, 0)) by rw [hW, hr0]; exact heap_alloc_new _ _)
  have ZW := Lib.hid hz
  have BW := Lib.hid (show Below r0 w W by rw [hW, hr0]; exact (Below.refl _ w).alloc (Nat.le_refl _) _)
  have SW := Lib.hid (show W.heap.size = r0 + 1 by rw [hW, hr0]; simp)
  have HR0 := Lib.hid hr0
  have HN := Lib.hid hn
  rw [← hr0]
  rw [← hn] at hs
  -- an end that stores
  have STO := Lib.hid (fun (wr : World) (hz : wr.heap[r0]? = some (.cells #[.string ⟨#[]⟩, .slice none 0 0] 24 (0, 0))) (hb : Below r0 w wr) (a b : Value) =>
    (show (wr.cell? ⟨r0, 0, none⟩ = some (.string ⟨#[]⟩) ∧ wr.cell? ⟨r0, 1, none⟩ = some (.slice none 0 0) ∧ wr.frozen? ⟨r0, 0, none⟩ = false ∧ wr.frozen? ⟨r0, 1, none⟩ = false) ∧
      (((wr.setCell ⟨r0, 0, none⟩ a).setCell ⟨r0, 1, none⟩ b).cell? ⟨r0, 0, none⟩ = some a ∧ ((wr.setCell ⟨r0, 0, none⟩ a).setCell ⟨r0, 1, none⟩ b).cell? ⟨r0, 1, none⟩ = some b) ∧ Below r0 w ((wr.setCell ⟨r0, 0, none⟩ a).setCell ⟨r0, 1, none⟩ b) from by
      have u := Go.Joins.block_setCell (i := 1) (Go.Joins.block_setCell (i := 0) hz a) b
      exact ⟨⟨by rw [Lib.cell_of_heap hz]; rfl, by rw [Lib.cell_of_heap hz]; rfl, Lib.frozen_of_heap hz 0, Lib.frozen_of_heap hz 1⟩, ⟨Go.Joins.cell_of_block u 0, Go.Joins.cell_of_block u 1⟩, (hb.setCell (p := ⟨r0, 0, none⟩) (Nat.le_refl _) _).setCell (p := ⟨r0, 1, none⟩) (Nat.le_refl _) _⟩))
  clear hn hz
  by_cases hl : 2192 < n
  · have d : decide ((n : Int) > 2192) = true := decide_eq_true (by omega)
    obtain ⟨⟨q0, q1, q2, q3⟩, q4, q5⟩ := STO.out W ZW.out BW.out (.string ⟨#[]⟩) (.slice none 0 0)
    have Q4 := Lib.hid q4
    have Q5 := Lib.hid q5
    have RL := Lib.hid (rd_long (t := bl s) (by rw [bl_len, ← HN.out]; exact hl))
    clear hl q4 q5
    go_enter Try.func16, Try.ntmps16
    go_upto_region 1 with (fail)
    rw [← hW, ← hr0]
    clear hW hr0
    go_wp2_with fail
    obtain ⟨m0, m1⟩ := Q4.out
    refine bodyPost_ret (v := .tuple #[.agg #[.string ⟨#[]⟩, .slice none 0 0], .int .i64 2]) (by simp [results, Try.results16, go_sem, m0, m1] <;> rfl) rfl ⟨.inr ⟨RL.out, rfl⟩, Q5.out⟩
  have d : decide ((n : Int) > 2192) = false := decide_eq_false (by omega)
  have HLE := Lib.hid (show s.size ≤ 2192 by rw [← HN.out]; omega)
  have RD := Lib.hid (read27 W s (by have := HLE.out; omega))
  clear hl
  go_enter Try.func16, Try.ntmps16
  go_upto_region 1 with (fail)
  rw [← hW, ← hr0]
  clear hW hr0
  go_upto_region 4 with (go_at_call 27; refine RD.out.mono ?_; clear RD; rintro e w1 ⟨⟨nm, v, L, o, rfl, h1, h2, h3, h4⟩, b1⟩; (obtain ⟨va, vn, vc, rfl⟩ : ∃ a n c, v = .slice a n c := (by obtain ⟨a, c, e⟩ := own_forms h1; exact ⟨a, _, c, e⟩)); have H1 := Lib.hid h1; have H2 := Lib.hid h2; have H3 := Lib.hid h3; have H4 := Lib.hid h4; have B1 := Lib.hid b1; clear h1 h2 h3 h4 b1)
  obtain ⟨g, hg⟩ : ∃ g, g = w1.heap.size := ⟨_, rfl⟩
  obtain ⟨w2, hw2⟩ : ∃ w2, w2 = w1.alloc (.cells #[.string nm, .slice va vn vc] 24) := ⟨_, rfl⟩
  have B12 := (show Below w1.heap.size w1 w2 by rw [hw2]; exact (Below.refl _ w1).alloc (Nat.le_refl _) _)
  have BW2 := B1.out.trans (B12.mono B1.out.size)
  have c0 : w2.cell? ⟨g, 0, none⟩ = some (.string nm) := by rw [hw2, hg]; exact new_cell _ _ _ 0 _ rfl
  have c1 : w2.cell? ⟨g, 1, none⟩ = some (.slice va vn vc) := by rw [hw2, hg]; exact new_cell _ _ _ 1 _ rfl
  have G2 := (show g < w2.heap.size by rw [hw2, hg]; simp)
  have O2 := own_move H1.out (w' := w2) (fun i _ _ hi => B12.block i hi)
  have T2 := ti_own O2
  have O2' := Lib.hid O2
  clear O2
  have Z2 := Lib.hid (show w2.heap[r0]? = some (.cells #[.string ⟨#[]⟩, .slice none 0 0] 24 (0, 0)) from (BW2.block r0 (by rw [SW.out]; omega)).trans ZW.out)
  have BF := Lib.hid (show Below r0 w w2 from BW.out.trans (BW2.mono (by rw [SW.out]; omega)))
  rw [← hw2, ← hg]
  cases o with
  | false =>
    obtain ⟨⟨q0, q1, q2, q3⟩, q4, q5⟩ := STO.out w2 Z2.out BF.out (.string ⟨#[]⟩) (.slice none 0 0)
    have Q4 := Lib.hid q4
    have Q5 := Lib.hid q5
    have RL := Lib.hid (show ∀ x, rd (bl s) = some x → fm x = false from fun x hx => by rw [H4.out rfl] at hx; cases hx)
    clear hw2 hg B12 BW2 q4 q5 c0 c1 G2 T2
    go_wp2_with fail
    obtain ⟨m0, m1⟩ := Q4.out
    refine bodyPost_ret (v := .tuple #[.agg #[.string ⟨#[]⟩, .slice none 0 0], .int .i64 2]) (by simp [results, Try.results16, go_sem, m0, m1] <;> rfl) rfl ⟨.inr ⟨RL.out, rfl⟩, Q5.out⟩
  | true =>
    have RDT := Lib.hid (H3.out rfl)
    obtain ⟨z1, z2, z3⟩ := txt_sizes RDT.out
    rw [bl_len] at z1 z2
    simp only at z1 z2 z3
    have FM := Lib.hid (formed11 w2 nm _ L T2 (by have := HLE.out; omega) (fun x hx => by have := z3 x hx; rw [bl_len] at this; have := HLE.out; omega) (by have := HLE.out; omega))
    have T2' := Lib.hid T2
    have G2' := Lib.hid G2
    clear hw2 hg B12 BW2 G2 T2 z1 z2 z3
    have C0 := Lib.hid c0
    have C1 := Lib.hid c1
    cases hf : fm (nm, L) with
    | false =>
      rw [hf] at FM
      have RL := Lib.hid (show ∀ x, rd (bl s) = some x → fm x = false from fun x hx => by rw [RDT.out] at hx; cases hx; exact hf)
      have ST := Lib.hid (fun (w3 : World) (b3 : Below w2.heap.size w2 w3) => STO.out w3 ((b3.block r0 (by have := Z2.out; rw [Array.getElem?_eq_some_iff] at this; exact this.1)).trans Z2.out) (BF.out.trans (b3.mono (by rw [HR0.out]; exact BF.out.size))) (.string ⟨#[]⟩) (.slice none 0 0))
      clear hf
      go_wp2_with (go_at_call 11; refine FM.out.mono ?_; clear FM; rintro e w3 ⟨rfl, b3⟩; obtain ⟨⟨q0, q1, q2, q3⟩, q4, q5⟩ := ST.out w3 b3; have Q4 := Lib.hid q4; have Q5 := Lib.hid q5; clear q4 q5 b3)
      obtain ⟨m0, m1⟩ := Q4.out
      refine bodyPost_ret (v := .tuple #[.agg #[.string ⟨#[]⟩, .slice none 0 0], .int .i64 2]) (by simp [results, Try.results16, go_sem, m0, m1] <;> rfl) rfl ⟨.inr ⟨RL.out, rfl⟩, Q5.out⟩
    | true =>
      rw [hf] at FM
      have HF := Lib.hid hf
      have ST := Lib.hid (fun (w3 : World) (b3 : Below w2.heap.size w2 w3) => STO.out w3 ((b3.block r0 (by have := Z2.out; rw [Array.getElem?_eq_some_iff] at this; exact this.1)).trans Z2.out) (BF.out.trans (b3.mono (by rw [HR0.out]; exact BF.out.size))) (.string nm) (.slice va vn vc))
      have TI := Lib.hid (fun (w3 : World) (b3 : Below w2.heap.size w2 w3) => (show Ti ((w3.setCell ⟨r0, 0, none⟩ (.string nm)).setCell ⟨r0, 1, none⟩ (.slice va vn vc)) (.slice va vn vc) L from ti_own (own_move O2'.out (fun i _ hB hi => by
        have hne : i ≠ r0 := by have := SW.out; omega
        rw [heap_setCell_ne hne, heap_setCell_ne hne, b3.block i hi]))))
      clear hf c0 c1
      have c0 := C0.out
      have c1 := C1.out
      go_upto_region 6 with (go_at_call 11; refine FM.out.mono ?_; clear FM; rintro e w3 ⟨rfl, b3⟩; have B3 := Lib.hid b3; clear b3)
      obtain ⟨⟨q0, q1, q2, q3⟩, q4, q5⟩ := ST.out w3 B3.out
      have Q4 := Lib.hid q4
      have Q5 := Lib.hid q5
      have T3 := Lib.hid (TI.out w3 B3.out)
      clear q4 q5 c0 c1
      have c0 : w3.cell? ⟨g, 0, none⟩ = some (.string nm) := (B3.out.cell (p := ⟨g, 0, none⟩) G2'.out).trans C0.out
      have c1 : w3.cell? ⟨g, 1, none⟩ = some (.slice va vn vc) := (B3.out.cell (p := ⟨g, 1, none⟩) G2'.out).trans C1.out
      go_wp2_with fail
      obtain ⟨m0, m1⟩ := Q4.out
      refine bodyPost_ret (v := .tuple #[.agg #[.string nm, .slice va vn vc], .int .i64 0]) (by simp [results, Try.results16, go_sem, m0, m1] <;> rfl) rfl ⟨.inl ⟨(nm, L), _, RDT.out, HF.out, rfl, T3.out⟩, Q5.out⟩
end Sm
end Go.Proofs.Ytedlgcbgbphlkaa
