/- The law MergeParts. -/
import Derived.Test.YthaadpijfkmdiaaNp
import Derived.Test.YthaadpijfkmdiaaNs
import Derived.Test.YthaadpijfkmdiaaLf
namespace Go.Proofs.Ythaadpijfkmdiaa
open Go.RowKit
namespace Nu
open Jb Ca Ga Nm Na Nj Nk Nn Nq No Np Ns

theorem at4_one {w : World} {b o : Nat} {x y : V4} (h : At4 w b o x) (g : At4 w b o y) : x = y := by
  obtain ⟨h0, h1, h2, h3⟩ := h
  obtain ⟨g0, g1, g2, g3⟩ := g
  obtain ⟨x0, x1, x2, x3⟩ := x
  obtain ⟨y0, y1, y2, y3⟩ := y
  simp only at h0 h1 h2 h3 g0 g1 g2 g3
  rw [h0] at g0; rw [h1] at g1; rw [h2] at g2; rw [h3] at g3
  cases g0; cases g1; cases g2; cases g3; rfl
/-- What a slice holds is one list. -/
theorem sl_unique {w : World} {v : Value} {L M : List V4} (h : Sl w v L) (g : Sl w v M) : L = M := by
  have hl : L.length = M.length := by
    obtain ⟨a, c, e⟩ := h.forms
    obtain ⟨a', c', e'⟩ := g.forms
    have := e.symm.trans e'
    injection this
  obtain ⟨a, c, e, h⟩ := h.get
  obtain ⟨a', c', e', g⟩ := g.get
  have e9 := e.symm.trans e'
  injection e9 with e91 e92 e93
  subst e91
  refine List.ext_getElem hl fun i h1 h2 => ?_
  obtain ⟨b, off, ea, _, _, hT⟩ := h i h1
  obtain ⟨b', off', ea', _, _, gT⟩ := g i h2
  rw [ea] at ea'; cases ea'
  have := at4_one (hT w (Below.refl _ _)) (gT w (Below.refl _ _))
  rwa [List.getD_eq_getElem?_getD, List.getD_eq_getElem?_getD, List.getElem?_eq_getElem h1, List.getElem?_eq_getElem h2] at this
open Classical in
/-- The points that a slice holds. -/
noncomputable def pch (w : World) (u : Value) : List V4 := if h : ∃ L, Sl w u L ∧ ∀ z ∈ L, Dt z ∧ One z then Classical.choose h else []
theorem pch_ok {w : World} {u : Value} (h : ∃ L, Sl w u L ∧ ∀ z ∈ L, Dt z ∧ One z) : Sl w u (pch w u) ∧ ∀ z ∈ pch w u, Dt z ∧ One z := by
  unfold pch
  rw [dif_pos h]
  exact Classical.choose_spec h
theorem pch_eq {w : World} {u : Value} {L : List V4} (h : Sl w u L) (hD : ∀ z ∈ L, Dt z ∧ One z) : pch w u = L := sl_unique (pch_ok ⟨L, h, hD⟩).1 h
theorem ms_col {pr pr3 : Value → List V4} {CC : List (List C3)} {Y : List Mc} (hM : MS pr CC (Y.map pairOf)) (hpr : ∀ p ∈ Y, pr3 p.1.2.2 = p.2) (κ : Ky) (t : Int) : lk kt (colOf pr3 (Y.map (·.1)) κ) t = lk kt (rowsOf pr CC κ) t := by
  unfold colOf
  cases h : lk nm (Y.map (·.1)) κ with
  | some c =>
    obtain ⟨h1, h2⟩ := lk_mem nm h
    obtain ⟨p, hp, rfl⟩ := List.mem_map.1 h1
    simp only
    rw [hpr p hp, ← h2]
    exact (hM.pts _ (List.mem_map_of_mem hp)).2.2 t
  | none =>
    have : rowsOf pr CC κ = [] := Classical.byContradiction fun hne => by
      obtain ⟨z, hz, e⟩ := hM.all κ hne
      obtain ⟨p, hp, rfl⟩ := List.mem_map.1 hz
      obtain ⟨y, hy⟩ := lk_isSome nm (L := Y.map (·.1)) (x := p.1) (List.mem_map_of_mem hp)
      rw [show nm p.1 = κ from e, h] at hy
      cases hy
    rw [this]
theorem rows_app (pr : Value → List V4) (A B : List (List C3)) (κ : Ky) : rowsOf pr (A ++ B) κ = rowsOf pr A κ ++ rowsOf pr B κ := by
  unfold rowsOf; rw [List.map_append, List.flatten_append]
theorem tot_app (pr : Value → List V4) (A B : List (List C3)) : tot pr (A ++ B) = tot pr A + tot pr B := by
  unfold tot; rw [List.map_append, List.sum_append]
theorem tot_mc {pr3 : Value → List V4} {Y : List Mc} (hpr : ∀ p ∈ Y, pr3 p.1.2.2 = p.2) : tot1 pr3 (Y.map (·.1)) = (Y.map fun p => p.2.length).sum := by
  unfold tot1
  rw [List.map_map]
  congr 1
  exact List.map_congr_left fun p hp => by simp [hpr p hp]
theorem rc_take {w : World} {a : Option Addr} {n c k : Nat} {CC : List (List C3)} (h : Rc w (.slice a n c) CC) (hk : k ≤ CC.length) : Rc w (.slice a k c) (CC.take k) := by
  obtain ⟨a', c', e, h⟩ := h
  cases e
  have hl : (CC.take k).length = k := by rw [List.length_take]; omega
  refine ⟨a, c, by rw [hl], fun i hi => ?_⟩
  rw [hl] at hi
  obtain ⟨b, off, u, h1, h2, h3, h4, h5⟩ := h i (by omega)
  refine ⟨b, off, u, h1, by omega, h3, h4, ?_⟩
  rw [List.getD_eq_getElem?_getD, List.getElem?_take_of_lt hi, ← List.getD_eq_getElem?_getD]
  exact h5
theorem rc_drop {w : World} {b off n c k : Nat} {CC : List (List C3)} (h : Rc w (.slice (some ⟨b, off, none⟩) n c) CC) (hk : k ≤ CC.length) : Rc w (.slice (some ⟨b, off + k, none⟩) (n - k) (c - k)) (CC.drop k) := by
  obtain ⟨a', c', e, h⟩ := h
  cases e
  have hl : (CC.drop k).length = CC.length - k := List.length_drop
  refine ⟨_, _, by rw [hl], fun i hi => ?_⟩
  rw [hl] at hi
  obtain ⟨b', off', u, h1, h2, h3, h4, h5⟩ := h (k + i) (by omega)
  cases h1
  refine ⟨b, off + k, u, rfl, by omega, h3, by rw [Nat.add_assoc]; exact h4, ?_⟩
  rw [List.getD_eq_getElem?_getD, List.getElem?_drop, ← List.getD_eq_getElem?_getD]
  exact h5
theorem le_sum_mem {Y : List Mc} {q : Mc} (h : q ∈ Y) : q.2.length ≤ (Y.map fun p => p.2.length).sum := by
  induction Y with
  | nil => cases h
  | cons x r ih =>
    simp only [List.map_cons, List.sum_cons]
    rcases List.mem_cons.1 h with rfl | h
    · omega
    · have := ih h; omega
theorem same_of {Y Y' : List Mc} (h : Y.map pairOf = Y'.map pairOf) : Y.length = Y'.length ∧ ∀ i, i < Y.length → ∃ p ∈ Y, ∃ p' ∈ Y', (Y.map (·.1)).getD i c0 = p.1 ∧ (Y'.map (·.1)).getD i c0 = p'.1 ∧ nm p.1 = nm p'.1 ∧ p.2 = p'.2 ∧ (Y.getD i (c0, [])) = p := by
  have hl : Y.length = Y'.length := by simpa using congrArg List.length h
  refine ⟨hl, fun i hi => ?_⟩
  have hi' : i < Y'.length := by omega
  have e : pairOf Y[i] = pairOf Y'[i] := by
    have := congrArg (fun l => l[i]?) h
    simpa [hi, hi'] using this
  refine ⟨Y[i], List.getElem_mem hi, Y'[i], List.getElem_mem hi', ?_, ?_, congrArg Prod.fst e, by have := congrArg Prod.snd e; exact this, ?_⟩
  · simp [List.getD_eq_getElem?_getD, hi]
  · simp [List.getD_eq_getElem?_getD, hi']
  · simp [List.getD_eq_getElem?_getD, hi]
set_option maxRecDepth 100000
set_option maxHeartbeats 4000000
/-- What Merge answers. -/
def Ans (_ W W' : World) (pr : Value → List V4) (CC : List (List C3)) (r : Value) (Y : List Mc) : Prop := Mg W W' r Y ∧ MS pr CC (Y.map pairOf) ∧ (Y.map fun p => p.2.length).sum ≤ tot pr CC ∧ Y.length ≤ tot pr CC
theorem rows_ok {W W' : World} {r : Value} {Y : List Mc} (h : Mg W W' r Y) : ∀ p ∈ Y, Sl W' p.1.2.2 p.2 ∧ ∀ z ∈ p.2, Dt z ∧ One z := fun p hp => ⟨sl_own (h.rows p hp).1, (h.rows p hp).2⟩
theorem cs_of {W W' : World} {r : Value} {Y : List Mc} (h : Mg W W' r Y) : Cs W' r (Y.map (·.1)) := cs_own (by have := h.own; rwa [show Y.length = (Y.map (·.1)).length by simp] at this)
theorem third (w3 w4 W3 W4 : World) (r3 r4 : Value) (YA YB : List Mc) (mA : Mg W3 w3 r3 YA) (mB : Mg W4 w4 r4 YB) (h34 : Below w3.heap.size w3 w4) (t : Nat) (tA : (YA.map fun p => p.2.length).sum + (YB.map fun p => p.2.length).sum ≤ t) (lA : YA.length + YB.length ≤ t + t) (ht : t ≤ 100000000) :
    (∀ p ∈ YA, pch (w4.alloc (.cells #[r3, r4] 25)) p.1.2.2 = p.2) ∧ (∀ p ∈ YB, pch (w4.alloc (.cells #[r3, r4] 25)) p.1.2.2 = p.2) ∧
    Calls Try.prog 7 #[.slice (some ⟨w4.heap.size, 0, none⟩) 2 2] (w4.alloc (.cells #[r3, r4] 25)) fun e w' => ∃ r Y, e = .returned r ∧ Mg (w4.alloc (.cells #[r3, r4] 25)) w' r Y ∧ MS (pch (w4.alloc (.cells #[r3, r4] 25))) [YA.map (·.1), YB.map (·.1)] (Y.map pairOf) ∧ (Y.map fun p => p.2.length).sum ≤ tot (pch (w4.alloc (.cells #[r3, r4] 25))) [YA.map (·.1), YB.map (·.1)] ∧ Y.length ≤ tot (pch (w4.alloc (.cells #[r3, r4] 25))) [YA.map (·.1), YB.map (·.1)] := by
  obtain ⟨w5, hw5⟩ : ∃ w5, w5 = w4.alloc (.cells #[r3, r4] 25) := ⟨_, rfl⟩
  have b45 : Below w4.heap.size w4 w5 := by rw [hw5]; exact (Below.refl _ w4).alloc (Nat.le_refl _) _
  have hh : w5.heap[w4.heap.size]? = some (.cells #[r3, r4] 25) := by rw [hw5]; exact heap_alloc_new w4 _
  have sz : w4.heap.size < w5.heap.size := by rw [hw5]; simp
  rw [← hw5]
  clear hw5
  have mA5 := (mA.fr h34).fr b45
  have mB5 := mB.fr b45
  have pA : ∀ p ∈ YA, pch w5 p.1.2.2 = p.2 := fun p hp => pch_eq (rows_ok mA5 p hp).1 (rows_ok mA5 p hp).2
  have pB : ∀ p ∈ YB, pch w5 p.1.2.2 = p.2 := fun p hp => pch_eq (rows_ok mB5 p hp).1 (rows_ok mB5 p hp).2
  have tt : tot (pch w5) [YA.map (·.1), YB.map (·.1)] ≤ t := by
    unfold tot
    simp only [List.map_cons, List.map_nil, List.sum_cons, List.sum_nil]
    rw [tot_mc pA, tot_mc pB]; omega
  have all : ∀ C ∈ [YA.map (·.1), YB.map (·.1)], ∀ c ∈ C, ∃ L, Sl w5 c.2.2 L ∧ ∀ z ∈ L, Dt z ∧ One z := by
    intro C hC c hc
    simp only [List.mem_cons, List.not_mem_nil, or_false] at hC
    rcases hC with rfl | rfl <;> obtain ⟨p, hp, rfl⟩ := List.mem_map.1 hc
    · exact ⟨p.2, rows_ok mA5 p hp⟩
    · exact ⟨p.2, rows_ok mB5 p hp⟩
  refine ⟨pA, pB, merge7 w5 _ [YA.map (·.1), YB.map (·.1)] (pch w5) ⟨_, _, rfl, fun i hi => ?_⟩ (fun C hC c hc => ?_) (fun C hC c hc => pch_ok (all C hC c hc)) (by simp) (by simp; omega) (by omega)⟩
  · simp only [List.length_cons, List.length_nil] at hi
    have hi2 : i = 0 ∨ i = 1 := by omega
    rcases hi2 with rfl | rfl
    · exact ⟨_, 0, r3, rfl, by simp, sz, La.cell_at hh 0, cs_of mA5⟩
    · exact ⟨_, 0, r4, rfl, by simp, sz, La.cell_at hh 1, cs_of mB5⟩
  · obtain ⟨L, h, _⟩ := all C hC c hc
    obtain ⟨x, y, e⟩ := h.forms
    exact ⟨x, _, y, e⟩
theorem parts3 (w : World) (v : Value) (at' : Int) (CC : List (List C3)) (h : Rc w v CC) (hv : ∀ a n c, v = .slice a n c → n ≤ c ∧ (a = none → c = 0)) (hP : ∀ C ∈ CC, ∀ c ∈ C, ∃ L, Sl w c.2.2 L ∧ ∀ z ∈ L, Dt z ∧ One z)
    (hn : CC.length ≤ 100000000) (ht : CC.flatten.length ≤ 100000000) (htot : tot (pch w) CC ≤ 100000000) (_ : -9223372036854775808 ≤ at' ∧ at' ≤ 9223372036854775807) :
    Calls Try.prog 3 #[v, .int .i64 at'] w fun e w' => e = .returned (.bool true) ∧ Below w.heap.size w w' := by
  have A6 := Lib.hid (Lf.awake6 w)
  have hu : ∀ C ∈ CC, ∀ c ∈ C, ∃ a n k, c.2.2 = .slice a n k := fun C hC c hc => by
    obtain ⟨L, h, _⟩ := hP C hC c hc
    obtain ⟨x, y, e⟩ := h.forms
    exact ⟨x, _, y, e⟩
  obtain ⟨a, c, rfl, hg⟩ := id h
  obtain ⟨hnc, hnil⟩ := hv _ _ _ rfl
  obtain ⟨n, hN⟩ : ∃ n, n = CC.length := ⟨_, rfl⟩
  have HH := Lib.hid h
  rw [← hN] at HH hn hnc ⊢
  have HN := Lib.hid hN
  obtain ⟨I, hI, hIn⟩ : ∃ I : Nat, wrap64 ((IntKind.u64.wrap at').tmod ((n : Int) + 1)) = (I : Int) ∧ I ≤ n := by
    have e1 : 0 ≤ IntKind.u64.wrap at' := by rw [IntKind.wrap_u64]; omega
    have e2 : (IntKind.u64.wrap at').tmod ((n : Int) + 1) = (IntKind.u64.wrap at') % ((n : Int) + 1) := Int.tmod_eq_emod_of_nonneg e1
    have e3 := Int.emod_nonneg (IntKind.u64.wrap at') (show (n : Int) + 1 ≠ 0 by omega)
    have e4 := Int.emod_lt_of_pos (IntKind.u64.wrap at') (show 0 < (n : Int) + 1 by omega)
    refine ⟨((IntKind.u64.wrap at') % ((n : Int) + 1)).toNat, ?_, by omega⟩
    rw [e2]
    unfold wrap64
    omega
  have SUB := Lib.hid (show ∀ W v DD, Below w.heap.size w W → Rc w v DD → DD.length ≤ n → DD.flatten.length ≤ 100000000 → tot (pch w) DD ≤ 100000000 → (∀ C ∈ DD, C ∈ CC) → Calls Try.prog 7 #[v] W fun e w' => ∃ r Y, e = .returned r ∧ Mg W w' r Y ∧ MS (pch w) DD (Y.map pairOf) ∧ (Y.map fun p => p.2.length).sum ≤ tot (pch w) DD ∧ Y.length ≤ tot (pch w) DD from fun W v DD hW hR h1 h2 h3 h4 =>
    merge7 W v DD (pch w) (hR.below hW (Nat.le_refl _)) (fun C hC => hu C (h4 C hC)) (fun C hC c hc => ⟨(pch_ok (hP C (h4 C hC) c hc)).1.below hW (Nat.le_refl _), (pch_ok (hP C (h4 C hC) c hc)).2⟩) (by omega) (by omega) (by omega))
  have TT : tot (pch w) (CC.take I) + tot (pch w) (CC.drop I) = tot (pch w) CC := by rw [← tot_app, List.take_append_drop]
  have FL : (CC.take I).flatten.length + (CC.drop I).flatten.length = CC.flatten.length := by rw [← List.length_append, ← List.flatten_append, List.take_append_drop]
  go_enter Try.func3, Try.ntmps3
  go_wp2_with fail
  refine A6.out.mono ?_
  rintro e w1 ⟨rfl, b1⟩
  have B1 := Lib.hid b1
  have MA := Lib.hid (SUB.out w1.drew (.slice a I c) (CC.take I) b1.drew (rc_take HH.out (by rw [← HN.out]; exact hIn)) (by rw [List.length_take]; omega) (by omega) (by omega) (fun C hC => List.mem_of_mem_take hC))
  have MBB := Lib.hid (show ∀ sv, Rc w sv (CC.drop I) → ∀ w3, Below w1.drew.heap.size w1.drew w3 → Calls Try.prog 7 #[sv] w3 fun e w' => ∃ r Y, e = .returned r ∧ Mg w3 w' r Y ∧ MS (pch w) (CC.drop I) (Y.map pairOf) ∧ (Y.map fun p => p.2.length).sum ≤ tot (pch w) (CC.drop I) ∧ Y.length ≤ tot (pch w) (CC.drop I) from fun sv hsv w3 h3 =>
    SUB.out w3 sv (CC.drop I) (B1.out.drew.trans (h3.mono B1.out.size)) hsv (by rw [List.length_drop]; omega) (by omega) (by omega) (fun C hC => List.mem_of_mem_drop hC))
  have MC := Lib.hid (show ∀ (w3 w4 : World) (r3 r4 : Value) (YA YB : List Mc) (_ _ : Unit), (Mg w1.drew w3 r3 YA ∧ MS (pch w) (CC.take I) (YA.map pairOf) ∧ (YA.map fun p => p.2.length).sum ≤ tot (pch w) (CC.take I) ∧ YA.length ≤ tot (pch w) (CC.take I)) → (Mg w3 w4 r4 YB ∧ MS (pch w) (CC.drop I) (YB.map pairOf) ∧ (YB.map fun p => p.2.length).sum ≤ tot (pch w) (CC.drop I) ∧ YB.length ≤ tot (pch w) (CC.drop I)) → _ from fun w3 w4 r3 r4 YA YB _ _ fA fB => (third w3 w4 w1.drew w3 r3 r4 YA YB fA.1 fB.1 fB.1.bl (tot (pch w) CC) (by have := fA.2.2.1; have := fB.2.2.1; omega) (by have := fA.2.2.2; have := fB.2.2.2; omega) htot).2.2)
  have MD := Lib.hid (show ∀ (w3 w4 w6 : World) (r3 r4 r6 : Value) (YA YB YC : List Mc) (_ _ : Unit), (Mg w1.drew w3 r3 YA ∧ MS (pch w) (CC.take I) (YA.map pairOf) ∧ (YA.map fun p => p.2.length).sum ≤ tot (pch w) (CC.take I) ∧ YA.length ≤ tot (pch w) (CC.take I)) → (Mg w3 w4 r4 YB ∧ MS (pch w) (CC.drop I) (YB.map pairOf) ∧ (YB.map fun p => p.2.length).sum ≤ tot (pch w) (CC.drop I) ∧ YB.length ≤ tot (pch w) (CC.drop I)) →
      (Mg (w4.alloc (.cells #[r3, r4] 25)) w6 r6 YC ∧ MS (pch (w4.alloc (.cells #[r3, r4] 25))) [YA.map (·.1), YB.map (·.1)] (YC.map pairOf) ∧ YC.length ≤ tot (pch (w4.alloc (.cells #[r3, r4] 25))) [YA.map (·.1), YB.map (·.1)]) →
      Calls Try.prog 7 #[.slice a n c] w6 fun e w' => ∃ r Y, e = .returned r ∧ (Below w.heap.size w w' ∧ ∃ a n c, r = .slice a n c) ∧ Calls Try.prog 8 #[r6, r] w' fun e w'' => e = .returned (.bool true) ∧ Below w'.heap.size w' w'' from fun w3 w4 w6 r3 r4 r6 YA YB YC _ _ fA fB fC => by
    obtain ⟨pA, pB, _⟩ := third w3 w4 w1.drew w3 r3 r4 YA YB fA.1 fB.1 fB.1.bl (tot (pch w) CC) (by have := fA.2.2.1; have := fB.2.2.1; omega) (by have := fA.2.2.2; have := fB.2.2.2; omega) htot
    have tt : tot (pch (w4.alloc (.cells #[r3, r4] 25))) [YA.map (·.1), YB.map (·.1)] ≤ tot (pch w) CC := by
      unfold tot
      simp only [List.map_cons, List.map_nil, List.sum_cons, List.sum_nil]
      rw [tot_mc pA, tot_mc pB]
      have := fA.2.2.1; have := fB.2.2.1
      unfold tot at *; omega
    have bw4 : Below w.heap.size w w4 := (B1.out.drew.trans (fA.1.bl.mono B1.out.size)).trans (fB.1.bl.mono (Nat.le_trans B1.out.size fA.1.bl.size))
    have bw5 : Below w.heap.size w (w4.alloc (.cells #[r3, r4] 25)) := bw4.alloc bw4.size _
    have bw6 : Below w.heap.size w w6 := bw5.trans (fC.1.bl.mono bw5.size)
    refine (SUB.out w6 (.slice a n c) CC bw6 HH.out (by rw [← HN.out]; exact Nat.le_refl _) ht htot (fun C hC => hC)).mono ?_
    rintro e w7 ⟨r7, YD, rfl, mD, sD, tD, lD⟩
    have eq := fC.2.1.one sD (fun κ t => by
      have e1 : rowsOf (pch (w4.alloc (.cells #[r3, r4] 25))) [YA.map (·.1), YB.map (·.1)] κ = colOf (pch (w4.alloc (.cells #[r3, r4] 25))) (YA.map (·.1)) κ ++ colOf (pch (w4.alloc (.cells #[r3, r4] 25))) (YB.map (·.1)) κ := by simp [rowsOf]
      have e2 : rowsOf (pch w) CC κ = rowsOf (pch w) (CC.take I) κ ++ rowsOf (pch w) (CC.drop I) κ := by rw [← rows_app, List.take_append_drop]
      rw [e1, e2, lk_app, lk_app, ms_col fA.2.1 pA, ms_col fB.2.1 pB])
    obtain ⟨sl, sm⟩ := same_of eq
    obtain ⟨x, y, ex⟩ := La.own_forms mD.own
    refine ⟨r7, YD, rfl, ⟨bw6.trans (mD.bl.mono bw6.size), x, _, y, ex⟩, ?_⟩
    have mC7 := fC.1.fr mD.bl
    refine samec8 w7 r6 r7 (YC.map (·.1)) (YD.map (·.1)) (fun i => (YC.getD i (c0, [])).2) (cs_of mC7) (cs_of mD) (by simpa using sl) (by rw [List.length_map]; have := fC.2.2; omega) (fun i hi => ?_)
    rw [List.length_map] at hi
    obtain ⟨q, hq, q', hq', k1, k2, k3, k4, k5⟩ := sm i hi
    rw [k1, k2, k5]
    have h1 := rows_ok mC7 q hq
    have h2 := rows_ok mD q' hq'
    refine ⟨k3, h1.1, by rw [k4]; exact h2.1, fun z hz => (h1.2 z hz).1, ?_⟩
    have := le_sum_mem hq'
    rw [k4]
    omega)
  clear hg hN b1 A6 SUB TT FL hP hu hv ht htot h
  have hIc : I ≤ c := by omega
  go_upto_region 4 with (fail)
  rw [hI]
  clear hI
  by_cases hcI : c = I
  · subst hcI
    obtain rfl : n = c := by omega
    have MB := Lib.hid (MBB.out (.slice a 0 0) ⟨a, 0, by rw [List.length_drop, ← HN.out, Nat.sub_self], fun i hi => by rw [List.length_drop, ← HN.out, Nat.sub_self] at hi; omega⟩)
    clear MBB HH
    refine wp_region_held_drew (S := fun _ => True) (by kernel_rfl) trivial (fun hS => ?_)
    refine wpAnyH_take (i := 0) (oi := { dst := some 17, op := Op.move (Operand.tmp 0), type := 22, pos := "law.go:90", after := #[], guard := none }) (v := ?pv0) rfl (by kernel_rfl) (by kernel_rfl) (by kernel_rfl) (fun _ _ _ h => h) (Or.inl ⟨by rfl, ?ph0⟩) hS ?pr0
    case ph0 => (intro w _; go_simp; try (with_reducible rfl))
    try simp only [Act.put, List.setIfInBounds_toArray, List.set_cons_zero, List.set_cons_succ]
    refine wpAnyH_take (i := 1) (oi := { dst := some 18, op := Op.move (Operand.tmp 5), type := 3, pos := "law.go:90", after := #[], guard := none }) (v := ?pv1) rfl (by kernel_rfl) (by kernel_rfl) (by kernel_rfl) (fun _ _ _ h => h) (Or.inl ⟨by rfl, ?ph1⟩) hS ?pr1
    case ph1 => (intro w _; go_simp; try (with_reducible rfl))
    try simp only [Act.put, List.setIfInBounds_toArray, List.set_cons_zero, List.set_cons_succ]
    refine wpAnyH_take (i := 2) (oi := { dst := some 19, op := Op.slice 22 (Operand.tmp 17) none (some (Operand.tmp 18)) none, type := 22, pos := "law.go:90", after := #[{ on := 0, ground := Ground.data }, { on := 1, ground := Ground.data }], guard := none }) (v := ?pv2) rfl (by kernel_rfl) (by kernel_rfl) (by kernel_rfl) (fun _ _ _ h => h) (Or.inl ⟨by rfl, ?ph2⟩) hS ?pr2
    case ph2 => (intro w _; go_simp; try (with_reducible rfl))
    try simp only [Act.put, List.setIfInBounds_toArray, List.set_cons_zero, List.set_cons_succ]
    refine wpAnyH_take (i := 4) (oi := { dst := some 21, op := Op.move (Operand.tmp 0), type := 22, pos := "law.go:90", after := #[], guard := none }) (v := ?pv4) rfl (by kernel_rfl) (by kernel_rfl) (by kernel_rfl) (fun _ _ _ h => h) (Or.inl ⟨by rfl, ?ph4⟩) hS ?pr4
    case ph4 => (intro w _; go_simp; try (with_reducible rfl))
    try simp only [Act.put, List.setIfInBounds_toArray, List.set_cons_zero, List.set_cons_succ]
    refine wpAnyH_take (i := 5) (oi := { dst := some 22, op := Op.move (Operand.tmp 5), type := 3, pos := "law.go:90", after := #[], guard := none }) (v := ?pv5) rfl (by kernel_rfl) (by kernel_rfl) (by kernel_rfl) (fun _ _ _ h => h) (Or.inl ⟨by rfl, ?ph5⟩) hS ?pr5
    case ph5 => (intro w _; go_simp; try (with_reducible rfl))
    try simp only [Act.put, List.setIfInBounds_toArray, List.set_cons_zero, List.set_cons_succ]
    refine wpAnyH_take (i := 6) (oi := { dst := some 23, op := Op.slice 22 (Operand.tmp 21) (some (Operand.tmp 22)) none none, type := 22, pos := "law.go:90", after := #[{ on := 4, ground := Ground.data }, { on := 5, ground := Ground.data }], guard := none }) (v := ?pv6) rfl (by kernel_rfl) (by kernel_rfl) (by kernel_rfl) (fun _ _ _ h => h) (Or.inl ⟨by rfl, ?ph6⟩) hS ?pr6
    case ph6 => (intro w _; go_simp; try (with_reducible rfl))
    try simp only [Act.put, List.setIfInBounds_toArray, List.set_cons_zero, List.set_cons_succ]
    refine wpAnyH_ready (rs := [3]) (by kernel_rfl) (by simp) ?_
    refine AllReadyH.cons rfl (fun K hK => ?_) AllReadyH.nil
    go_simp
    go_at_call 7
    refine MA.out.mono ?_
    rintro e w3 ⟨r3, YA, rfl, mA, sA, tA, lA⟩
    obtain ⟨r3a, r3c, he⟩ := La.own_forms mA.own
    subst he
    have FA := Lib.hid (And.intro mA (And.intro sA (And.intro tA lA)))
    have MB2 := Lib.hid (MB.out w3 mA.bl)
    clear mA sA tA lA
    (try dsimp only)
    refine hK.out _ _ trivial (fun hS => ?_)
    clear hK K
    try simp only [Act.put, List.setIfInBounds_toArray, List.set_cons_zero, List.set_cons_succ]
    refine wpAnyH_ready (rs := [7]) (by kernel_rfl) (by simp) ?_
    refine AllReadyH.cons rfl (fun K hK => ?_) AllReadyH.nil
    go_simp
    go_at_call 7
    refine MB2.out.mono ?_
    rintro e w4 ⟨r4, YB, rfl, mB, sB, tB, lB⟩
    obtain ⟨r4a, r4c, he⟩ := La.own_forms mB.own
    subst he
    have FB := Lib.hid (And.intro mB (And.intro sB (And.intro tB lB)))
    have MC2 := Lib.hid (MC.out w3 w4 _ _ _ _ () () FA.out FB.out)
    clear mB sB tB lB
    (try dsimp only)
    refine hK.out _ _ trivial (fun hS => ?_)
    clear hK K
    try simp only [Act.put, List.setIfInBounds_toArray, List.set_cons_zero, List.set_cons_succ]
    refine wpAnyH_ready (rs := [8]) (by kernel_rfl) (by simp) ?_
    refine AllReadyH.cons rfl (fun K hK => ?_) AllReadyH.nil
    go_simp
    (try dsimp only)
    refine hK.out _ _ trivial (fun hS => ?_)
    clear hK K
    try simp only [Act.put, List.setIfInBounds_toArray, List.set_cons_zero, List.set_cons_succ]
    refine wpAnyH_ready (rs := [9]) (by kernel_rfl) (by simp) ?_
    refine AllReadyH.cons rfl (fun K hK => ?_) AllReadyH.nil
    go_simp
    go_at_call 7
    refine MC2.out.mono ?_
    rintro e w6 ⟨r6, YC, rfl, mC, sC, tC, lC⟩
    obtain ⟨r6a, r6c, he⟩ := La.own_forms mC.own
    subst he
    have FC := Lib.hid (And.intro mC (And.intro sC lC))
    have MD2 := Lib.hid (MD.out w3 w4 w6 _ _ _ _ _ _ () () FA.out FB.out FC.out)
    clear mC sC tC lC
    (try dsimp only)
    refine hK.out _ _ trivial (fun hS => ?_)
    clear hK K
    try simp only [Act.put, List.setIfInBounds_toArray, List.set_cons_zero, List.set_cons_succ]
    refine wpAnyH_take (i := 10) (oi := { dst := some 6, op := Op.assign (Operand.tmp 26), type := 25, pos := "law.go:90", after := #[{ on := 9, ground := Ground.data }, { on := 9, ground := Ground.chain }, { on := 0, ground := Ground.phase }, { on := 1, ground := Ground.phase }, { on := 2, ground := Ground.phase }, { on := 3, ground := Ground.phase }, { on := 4, ground := Ground.phase }, { on := 5, ground := Ground.phase }, { on := 6, ground := Ground.phase }, { on := 7, ground := Ground.phase }, { on := 8, ground := Ground.phase }, { on := 9, ground := Ground.phase }], guard := none }) (v := ?pzv10) rfl (by kernel_rfl) (by kernel_rfl) (by kernel_rfl) (fun _ _ _ h => h) (Or.inl ⟨by rfl, ?pzh10⟩) hS ?pzr10
    case pzh10 => (intro w _; go_simp; try (with_reducible rfl))
    try simp only [Act.put, List.setIfInBounds_toArray, List.set_cons_zero, List.set_cons_succ]
    refine wpAnyH_done (by kernel_rfl) ?_ _
    clear hS
    go_wp2_with fail
    refine MD2.out.mono ?_
    rintro e w7 ⟨r7, YD, rfl, B7, S8⟩
    obtain ⟨r7a, r7n, r7c, he⟩ := B7.2
    subst he
    have B7' := Lib.hid B7.1
    have S8' := Lib.hid S8
    clear B7 S8
    go_wp2_with fail
    refine S8'.out.mono ?_
    rintro e w8 ⟨rfl, b8⟩
    have B8 := Lib.hid (B7'.out.trans (b8.mono B7'.out.size))
    clear b8
    go_wp2_with fail
    go_ret
    exact ⟨rfl, B8.out⟩
  · have hc1 : I < c := by omega
    by_cases h0 : n = 0
    · subst h0
      obtain rfl : I = 0 := by omega
      have MB := Lib.hid (MBB.out (.slice a 0 c) ⟨a, c, by rw [List.length_drop, ← HN.out], fun i hi => by rw [List.length_drop, ← HN.out] at hi; omega⟩)
      clear MBB HH
      refine wp_region_held_drew (S := fun _ => True) (by kernel_rfl) trivial (fun hS => ?_)
      refine wpAnyH_take (i := 0) (oi := { dst := some 17, op := Op.move (Operand.tmp 0), type := 22, pos := "law.go:90", after := #[], guard := none }) (v := ?qv0) rfl (by kernel_rfl) (by kernel_rfl) (by kernel_rfl) (fun _ _ _ h => h) (Or.inl ⟨by rfl, ?qh0⟩) hS ?qr0
      case qh0 => (intro w _; go_simp; try (with_reducible rfl))
      try simp only [Act.put, List.setIfInBounds_toArray, List.set_cons_zero, List.set_cons_succ]
      refine wpAnyH_take (i := 1) (oi := { dst := some 18, op := Op.move (Operand.tmp 5), type := 3, pos := "law.go:90", after := #[], guard := none }) (v := ?qv1) rfl (by kernel_rfl) (by kernel_rfl) (by kernel_rfl) (fun _ _ _ h => h) (Or.inl ⟨by rfl, ?qh1⟩) hS ?qr1
      case qh1 => (intro w _; go_simp; try (with_reducible rfl))
      try simp only [Act.put, List.setIfInBounds_toArray, List.set_cons_zero, List.set_cons_succ]
      refine wpAnyH_take (i := 2) (oi := { dst := some 19, op := Op.slice 22 (Operand.tmp 17) none (some (Operand.tmp 18)) none, type := 22, pos := "law.go:90", after := #[{ on := 0, ground := Ground.data }, { on := 1, ground := Ground.data }], guard := none }) (v := ?qv2) rfl (by kernel_rfl) (by kernel_rfl) (by kernel_rfl) (fun _ _ _ h => h) (Or.inl ⟨by rfl, ?qh2⟩) hS ?qr2
      case qh2 => (intro w _; go_simp; try (with_reducible rfl))
      try simp only [Act.put, List.setIfInBounds_toArray, List.set_cons_zero, List.set_cons_succ]
      refine wpAnyH_take (i := 4) (oi := { dst := some 21, op := Op.move (Operand.tmp 0), type := 22, pos := "law.go:90", after := #[], guard := none }) (v := ?qv4) rfl (by kernel_rfl) (by kernel_rfl) (by kernel_rfl) (fun _ _ _ h => h) (Or.inl ⟨by rfl, ?qh4⟩) hS ?qr4
      case qh4 => (intro w _; go_simp; try (with_reducible rfl))
      try simp only [Act.put, List.setIfInBounds_toArray, List.set_cons_zero, List.set_cons_succ]
      refine wpAnyH_take (i := 5) (oi := { dst := some 22, op := Op.move (Operand.tmp 5), type := 3, pos := "law.go:90", after := #[], guard := none }) (v := ?qv5) rfl (by kernel_rfl) (by kernel_rfl) (by kernel_rfl) (fun _ _ _ h => h) (Or.inl ⟨by rfl, ?qh5⟩) hS ?qr5
      case qh5 => (intro w _; go_simp; try (with_reducible rfl))
      try simp only [Act.put, List.setIfInBounds_toArray, List.set_cons_zero, List.set_cons_succ]
      refine wpAnyH_take (i := 6) (oi := { dst := some 23, op := Op.slice 22 (Operand.tmp 21) (some (Operand.tmp 22)) none none, type := 22, pos := "law.go:90", after := #[{ on := 4, ground := Ground.data }, { on := 5, ground := Ground.data }], guard := none }) (v := ?qv6) rfl (by kernel_rfl) (by kernel_rfl) (by kernel_rfl) (fun _ _ _ h => h) (Or.inl ⟨by rfl, ?qh6⟩) hS ?qr6
      case qh6 => (intro w _; go_simp; try (with_reducible rfl))
      try simp only [Act.put, List.setIfInBounds_toArray, List.set_cons_zero, List.set_cons_succ]
      refine wpAnyH_ready (rs := [3]) (by kernel_rfl) (by simp) ?_
      refine AllReadyH.cons rfl (fun K hK => ?_) AllReadyH.nil
      go_simp
      go_at_call 7
      refine MA.out.mono ?_
      rintro e w3 ⟨r3, YA, rfl, mA, sA, tA, lA⟩
      obtain ⟨r3a, r3c, he⟩ := La.own_forms mA.own
      subst he
      have FA := Lib.hid (And.intro mA (And.intro sA (And.intro tA lA)))
      have MB2 := Lib.hid (MB.out w3 mA.bl)
      clear mA sA tA lA
      (try dsimp only)
      refine hK.out _ _ trivial (fun hS => ?_)
      clear hK K
      try simp only [Act.put, List.setIfInBounds_toArray, List.set_cons_zero, List.set_cons_succ]
      refine wpAnyH_ready (rs := [7]) (by kernel_rfl) (by simp) ?_
      refine AllReadyH.cons rfl (fun K hK => ?_) AllReadyH.nil
      go_simp
      go_at_call 7
      refine MB2.out.mono ?_
      rintro e w4 ⟨r4, YB, rfl, mB, sB, tB, lB⟩
      obtain ⟨r4a, r4c, he⟩ := La.own_forms mB.own
      subst he
      have FB := Lib.hid (And.intro mB (And.intro sB (And.intro tB lB)))
      have MC2 := Lib.hid (MC.out w3 w4 _ _ _ _ () () FA.out FB.out)
      clear mB sB tB lB
      (try dsimp only)
      refine hK.out _ _ trivial (fun hS => ?_)
      clear hK K
      try simp only [Act.put, List.setIfInBounds_toArray, List.set_cons_zero, List.set_cons_succ]
      refine wpAnyH_ready (rs := [8]) (by kernel_rfl) (by simp) ?_
      refine AllReadyH.cons rfl (fun K hK => ?_) AllReadyH.nil
      go_simp
      (try dsimp only)
      refine hK.out _ _ trivial (fun hS => ?_)
      clear hK K
      try simp only [Act.put, List.setIfInBounds_toArray, List.set_cons_zero, List.set_cons_succ]
      refine wpAnyH_ready (rs := [9]) (by kernel_rfl) (by simp) ?_
      refine AllReadyH.cons rfl (fun K hK => ?_) AllReadyH.nil
      go_simp
      go_at_call 7
      refine MC2.out.mono ?_
      rintro e w6 ⟨r6, YC, rfl, mC, sC, tC, lC⟩
      obtain ⟨r6a, r6c, he⟩ := La.own_forms mC.own
      subst he
      have FC := Lib.hid (And.intro mC (And.intro sC lC))
      have MD2 := Lib.hid (MD.out w3 w4 w6 _ _ _ _ _ _ () () FA.out FB.out FC.out)
      clear mC sC tC lC
      (try dsimp only)
      refine hK.out _ _ trivial (fun hS => ?_)
      clear hK K
      try simp only [Act.put, List.setIfInBounds_toArray, List.set_cons_zero, List.set_cons_succ]
      refine wpAnyH_take (i := 10) (oi := { dst := some 6, op := Op.assign (Operand.tmp 26), type := 25, pos := "law.go:90", after := #[{ on := 9, ground := Ground.data }, { on := 9, ground := Ground.chain }, { on := 0, ground := Ground.phase }, { on := 1, ground := Ground.phase }, { on := 2, ground := Ground.phase }, { on := 3, ground := Ground.phase }, { on := 4, ground := Ground.phase }, { on := 5, ground := Ground.phase }, { on := 6, ground := Ground.phase }, { on := 7, ground := Ground.phase }, { on := 8, ground := Ground.phase }, { on := 9, ground := Ground.phase }], guard := none }) (v := ?qzv10) rfl (by kernel_rfl) (by kernel_rfl) (by kernel_rfl) (fun _ _ _ h => h) (Or.inl ⟨by rfl, ?qzh10⟩) hS ?qzr10
      case qzh10 => (intro w _; go_simp; try (with_reducible rfl))
      try simp only [Act.put, List.setIfInBounds_toArray, List.set_cons_zero, List.set_cons_succ]
      refine wpAnyH_done (by kernel_rfl) ?_ _
      clear hS
      go_wp2_with fail
      refine MD2.out.mono ?_
      rintro e w7 ⟨r7, YD, rfl, B7, S8⟩
      obtain ⟨r7a, r7n, r7c, he⟩ := B7.2
      subst he
      have B7' := Lib.hid B7.1
      have S8' := Lib.hid S8
      clear B7 S8
      go_wp2_with fail
      refine S8'.out.mono ?_
      rintro e w8 ⟨rfl, b8⟩
      have B8 := Lib.hid (B7'.out.trans (b8.mono B7'.out.size))
      clear b8
      go_wp2_with fail
      go_ret
      exact ⟨rfl, B8.out⟩
    · obtain ⟨b, off, ha⟩ : ∃ b off, a = some ⟨b, off, none⟩ := by
        obtain ⟨_, _, e, h⟩ := HH.out
        cases e
        obtain ⟨b, off, _, e, _⟩ := h 0 (by rw [← HN.out]; omega)
        exact ⟨b, off, e⟩
      subst ha
      have MB := Lib.hid (MBB.out (.slice (some ⟨b, off + I, none⟩) (n - I) (c - I)) (rc_drop HH.out (by rw [← HN.out]; exact hIn)))
      clear MBB HH
      refine wp_region_held_drew (S := fun _ => True) (by kernel_rfl) trivial (fun hS => ?_)
      refine wpAnyH_take (i := 0) (oi := { dst := some 17, op := Op.move (Operand.tmp 0), type := 22, pos := "law.go:90", after := #[], guard := none }) (v := ?rv0) rfl (by kernel_rfl) (by kernel_rfl) (by kernel_rfl) (fun _ _ _ h => h) (Or.inl ⟨by rfl, ?rh0⟩) hS ?rr0
      case rh0 => (intro w _; go_simp; try (with_reducible rfl))
      try simp only [Act.put, List.setIfInBounds_toArray, List.set_cons_zero, List.set_cons_succ]
      refine wpAnyH_take (i := 1) (oi := { dst := some 18, op := Op.move (Operand.tmp 5), type := 3, pos := "law.go:90", after := #[], guard := none }) (v := ?rv1) rfl (by kernel_rfl) (by kernel_rfl) (by kernel_rfl) (fun _ _ _ h => h) (Or.inl ⟨by rfl, ?rh1⟩) hS ?rr1
      case rh1 => (intro w _; go_simp; try (with_reducible rfl))
      try simp only [Act.put, List.setIfInBounds_toArray, List.set_cons_zero, List.set_cons_succ]
      refine wpAnyH_take (i := 2) (oi := { dst := some 19, op := Op.slice 22 (Operand.tmp 17) none (some (Operand.tmp 18)) none, type := 22, pos := "law.go:90", after := #[{ on := 0, ground := Ground.data }, { on := 1, ground := Ground.data }], guard := none }) (v := ?rv2) rfl (by kernel_rfl) (by kernel_rfl) (by kernel_rfl) (fun _ _ _ h => h) (Or.inl ⟨by rfl, ?rh2⟩) hS ?rr2
      case rh2 => (intro w _; go_simp; try (with_reducible rfl))
      try simp only [Act.put, List.setIfInBounds_toArray, List.set_cons_zero, List.set_cons_succ]
      refine wpAnyH_take (i := 4) (oi := { dst := some 21, op := Op.move (Operand.tmp 0), type := 22, pos := "law.go:90", after := #[], guard := none }) (v := ?rv4) rfl (by kernel_rfl) (by kernel_rfl) (by kernel_rfl) (fun _ _ _ h => h) (Or.inl ⟨by rfl, ?rh4⟩) hS ?rr4
      case rh4 => (intro w _; go_simp; try (with_reducible rfl))
      try simp only [Act.put, List.setIfInBounds_toArray, List.set_cons_zero, List.set_cons_succ]
      refine wpAnyH_take (i := 5) (oi := { dst := some 22, op := Op.move (Operand.tmp 5), type := 3, pos := "law.go:90", after := #[], guard := none }) (v := ?rv5) rfl (by kernel_rfl) (by kernel_rfl) (by kernel_rfl) (fun _ _ _ h => h) (Or.inl ⟨by rfl, ?rh5⟩) hS ?rr5
      case rh5 => (intro w _; go_simp; try (with_reducible rfl))
      try simp only [Act.put, List.setIfInBounds_toArray, List.set_cons_zero, List.set_cons_succ]
      refine wpAnyH_take (i := 6) (oi := { dst := some 23, op := Op.slice 22 (Operand.tmp 21) (some (Operand.tmp 22)) none none, type := 22, pos := "law.go:90", after := #[{ on := 4, ground := Ground.data }, { on := 5, ground := Ground.data }], guard := none }) (v := ?rv6) rfl (by kernel_rfl) (by kernel_rfl) (by kernel_rfl) (fun _ _ _ h => h) (Or.inl ⟨by rfl, ?rh6⟩) hS ?rr6
      case rh6 => (intro w _; go_simp; try (with_reducible rfl))
      try simp only [Act.put, List.setIfInBounds_toArray, List.set_cons_zero, List.set_cons_succ]
      refine wpAnyH_ready (rs := [3]) (by kernel_rfl) (by simp) ?_
      refine AllReadyH.cons rfl (fun K hK => ?_) AllReadyH.nil
      go_simp
      go_at_call 7
      refine MA.out.mono ?_
      rintro e w3 ⟨r3, YA, rfl, mA, sA, tA, lA⟩
      obtain ⟨r3a, r3c, he⟩ := La.own_forms mA.own
      subst he
      have FA := Lib.hid (And.intro mA (And.intro sA (And.intro tA lA)))
      have MB2 := Lib.hid (MB.out w3 mA.bl)
      clear mA sA tA lA
      (try dsimp only)
      refine hK.out _ _ trivial (fun hS => ?_)
      clear hK K
      try simp only [Act.put, List.setIfInBounds_toArray, List.set_cons_zero, List.set_cons_succ]
      refine wpAnyH_ready (rs := [7]) (by kernel_rfl) (by simp) ?_
      refine AllReadyH.cons rfl (fun K hK => ?_) AllReadyH.nil
      go_simp
      go_at_call 7
      refine MB2.out.mono ?_
      rintro e w4 ⟨r4, YB, rfl, mB, sB, tB, lB⟩
      obtain ⟨r4a, r4c, he⟩ := La.own_forms mB.own
      subst he
      have FB := Lib.hid (And.intro mB (And.intro sB (And.intro tB lB)))
      have MC2 := Lib.hid (MC.out w3 w4 _ _ _ _ () () FA.out FB.out)
      clear mB sB tB lB
      (try dsimp only)
      refine hK.out _ _ trivial (fun hS => ?_)
      clear hK K
      try simp only [Act.put, List.setIfInBounds_toArray, List.set_cons_zero, List.set_cons_succ]
      refine wpAnyH_ready (rs := [8]) (by kernel_rfl) (by simp) ?_
      refine AllReadyH.cons rfl (fun K hK => ?_) AllReadyH.nil
      go_simp
      (try dsimp only)
      refine hK.out _ _ trivial (fun hS => ?_)
      clear hK K
      try simp only [Act.put, List.setIfInBounds_toArray, List.set_cons_zero, List.set_cons_succ]
      refine wpAnyH_ready (rs := [9]) (by kernel_rfl) (by simp) ?_
      refine AllReadyH.cons rfl (fun K hK => ?_) AllReadyH.nil
      go_simp
      go_at_call 7
      refine MC2.out.mono ?_
      rintro e w6 ⟨r6, YC, rfl, mC, sC, tC, lC⟩
      obtain ⟨r6a, r6c, he⟩ := La.own_forms mC.own
      subst he
      have FC := Lib.hid (And.intro mC (And.intro sC lC))
      have MD2 := Lib.hid (MD.out w3 w4 w6 _ _ _ _ _ _ () () FA.out FB.out FC.out)
      clear mC sC tC lC
      (try dsimp only)
      refine hK.out _ _ trivial (fun hS => ?_)
      clear hK K
      try simp only [Act.put, List.setIfInBounds_toArray, List.set_cons_zero, List.set_cons_succ]
      refine wpAnyH_take (i := 10) (oi := { dst := some 6, op := Op.assign (Operand.tmp 26), type := 25, pos := "law.go:90", after := #[{ on := 9, ground := Ground.data }, { on := 9, ground := Ground.chain }, { on := 0, ground := Ground.phase }, { on := 1, ground := Ground.phase }, { on := 2, ground := Ground.phase }, { on := 3, ground := Ground.phase }, { on := 4, ground := Ground.phase }, { on := 5, ground := Ground.phase }, { on := 6, ground := Ground.phase }, { on := 7, ground := Ground.phase }, { on := 8, ground := Ground.phase }, { on := 9, ground := Ground.phase }], guard := none }) (v := ?rzv10) rfl (by kernel_rfl) (by kernel_rfl) (by kernel_rfl) (fun _ _ _ h => h) (Or.inl ⟨by rfl, ?rzh10⟩) hS ?rzr10
      case rzh10 => (intro w _; go_simp; try (with_reducible rfl))
      try simp only [Act.put, List.setIfInBounds_toArray, List.set_cons_zero, List.set_cons_succ]
      refine wpAnyH_done (by kernel_rfl) ?_ _
      clear hS
      go_wp2_with fail
      refine MD2.out.mono ?_
      rintro e w7 ⟨r7, YD, rfl, B7, S8⟩
      obtain ⟨r7a, r7n, r7c, he⟩ := B7.2
      subst he
      have B7' := Lib.hid B7.1
      have S8' := Lib.hid S8
      clear B7 S8
      go_wp2_with fail
      refine S8'.out.mono ?_
      rintro e w8 ⟨rfl, b8⟩
      have B8 := Lib.hid (B7'.out.trans (b8.mono B7'.out.size))
      clear b8
      go_wp2_with fail
      go_ret
      exact ⟨rfl, B8.out⟩
end Nu
end Go.Proofs.Ythaadpijfkmdiaa
