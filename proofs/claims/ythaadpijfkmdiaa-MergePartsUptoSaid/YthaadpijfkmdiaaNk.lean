/- Columns in memory; the parts that they make. -/
import Derived.Test.YthaadpijfkmdiaaNj
import Derived.Deep.DeepCutAuto
namespace Go.Proofs.Ythaadpijfkmdiaa
open Go.RowKit
namespace Nk
open Jb Ca Ga Nm Na Nj

/-- A column: its series, its field, the slice of its points. -/
abbrev C3 := ByteArray × ByteArray × Value
def c0 : C3 := (⟨#[]⟩, ⟨#[]⟩, .slice none 0 0)
def nm (c : C3) : Ky := (c.1, c.2.1)
def cc (c : C3) : List Value := [.string c.1, .string c.2.1, c.2.2]
def ccs (C : List C3) : List Value := C.flatMap cc
theorem ccs_snoc (C : List C3) (c : C3) : ccs (C ++ [c]) = ccs C ++ cc c := by simp [ccs]
theorem ccs_len (C : List C3) : (ccs C).length = C.length * 3 := by
  induction C with
  | nil => rfl
  | cons v r ih => simp only [ccs, List.flatMap_cons, List.length_append, List.length_cons] at *; rw [ih]; simp [cc]; omega
theorem ccs_get (C : List C3) (i j : Nat) (hi : i < C.length) (hj : j < 3) : (ccs C)[i * 3 + j]? = (cc (C.getD i c0))[j]? := by
  induction C generalizing i with
  | nil => simp at hi
  | cons v r ih =>
    have e : ccs (v :: r) = cc v ++ ccs r := rfl
    have hl : (cc v).length = 3 := rfl
    rw [e]
    cases i with
    | zero => rw [List.getElem?_append_left (by omega)]; simp
    | succ i =>
      rw [List.getElem?_append_right (by omega), hl, show (i + 1) * 3 + j - 3 = i * 3 + j from by omega, ih i (by simpa using hi)]
      simp [List.getD_eq_getElem?_getD]
def CAt (w : World) (b o : Nat) (c : C3) : Prop := w.cell? ⟨b, o, none⟩ = some (.string c.1) ∧ w.cell? ⟨b, o + 1, none⟩ = some (.string c.2.1) ∧ w.cell? ⟨b, o + 2, none⟩ = some c.2.2
theorem CAt.of_block {w w' : World} {b o : Nat} {v : C3} (h : CAt w b o v) (e : w'.heap[b]? = w.heap[b]?) : CAt w' b o v :=
  ⟨(World.cell?_of_block e).trans h.1, (World.cell?_of_block e).trans h.2.1, (World.cell?_of_block e).trans h.2.2⟩
/-- A slice of these columns, for reading. -/
def Cs (w : World) (v : Value) (C : List C3) : Prop :=
  ∃ a c, v = .slice a C.length c ∧ ∀ i, i < C.length → ∃ b off, a = some ⟨b, off, none⟩ ∧ C.length ≤ c ∧ b < w.heap.size ∧ CAt w b (off + i * 3) (C.getD i c0)
theorem Cs.below {w w' : World} {v : Value} {C : List C3} {B : Nat} (h : Cs w v C) (b : Below B w w') (hB : w.heap.size ≤ B) : Cs w' v C := by
  obtain ⟨a, c, e, h⟩ := h
  refine ⟨a, c, e, fun i hi => ?_⟩
  obtain ⟨q, off, h1, h2, h3, h4⟩ := h i hi
  exact ⟨q, off, h1, h2, Nat.lt_of_lt_of_le h3 b.size, h4.of_block (b.block q (by omega))⟩
theorem cs_own {w : World} {B t : Nat} {v : Value} {C : List C3} (h : w.ownsRow B t 3 v C.length (ccs C)) : Cs w v C := by
  obtain ⟨hl, ⟨rfl, h0⟩ | ⟨q, c, cur, rfl, hg, hh, hnc, hcm, hsz, htk⟩⟩ := h
  · exact ⟨none, 0, by rw [h0], fun i hi => by omega⟩
  · have hgl : q < w.heap.size := by rw [Array.getElem?_eq_some_iff] at hh; exact hh.1
    have ho : w.ownsRow B t 3 (.slice (some ⟨q, 0, none⟩) C.length c) C.length (ccs C) := ⟨hl, .inr ⟨q, c, cur, rfl, hg, hh, hnc, hcm, hsz, htk⟩⟩
    refine ⟨_, c, rfl, fun i hi => ⟨q, 0, rfl, hnc, hgl, ?_, ?_, ?_⟩⟩ <;> rw [Nat.zero_add]
    · exact (ho.cellAt (i * 3) (by omega)).trans (ccs_get C i 0 hi (by decide))
    · exact (ho.cellAt (i * 3 + 1) (by omega)).trans (ccs_get C i 1 hi (by decide))
    · exact (ho.cellAt (i * 3 + 2) (by omega)).trans (ccs_get C i 2 hi (by decide))
/-- A slice of slices of columns, for reading. -/
def Rc (w : World) (v : Value) (CC : List (List C3)) : Prop :=
  ∃ a c, v = .slice a CC.length c ∧ ∀ i, i < CC.length → ∃ b off u, a = some ⟨b, off, none⟩ ∧ CC.length ≤ c ∧ b < w.heap.size ∧ w.cell? ⟨b, off + i, none⟩ = some u ∧ Cs w u (CC.getD i [])
theorem Rc.below {w w' : World} {v : Value} {CC : List (List C3)} {B : Nat} (h : Rc w v CC) (b : Below B w w') (hB : w.heap.size ≤ B) : Rc w' v CC := by
  obtain ⟨a, c, e, h⟩ := h
  refine ⟨a, c, e, fun i hi => ?_⟩
  obtain ⟨q, off, u, h1, h2, h3, h4, h5⟩ := h i hi
  exact ⟨q, off, u, h1, h2, Nat.lt_of_lt_of_le h3 b.size, (World.cell?_of_block (b.block q (by omega))).trans h4, h5.below b hB⟩
/-- Parts of a list of columns. -/
def tp (i : Nat) (c : C3) : V4 := (.string c.1, .string c.2.1, c.2.2, .int .i64 (i : Nat))
def pl (i : Nat) (C : List C3) : List V4 := C.map (tp i)
def parts : Nat → List (List C3) → List V4
  | _, [] => []
  | i, C :: r => pl i C ++ parts (i + 1) r
theorem parts_snoc (i : Nat) (A : List (List C3)) (C : List C3) : parts i (A ++ [C]) = parts i A ++ pl (i + A.length) C := by
  induction A generalizing i with
  | nil => simp [parts]
  | cons D r ih => simp only [List.cons_append, parts, ih, List.length_cons, List.append_assoc]; rw [show i + 1 + r.length = i + (r.length + 1) by omega]
theorem parts_take {A : List (List C3)} {k : Nat} (hk : k < A.length) : parts 0 (A.take (k + 1)) = parts 0 (A.take k) ++ pl k (A.getD k []) := by
  rw [List.take_add_one, List.getElem?_eq_getElem hk, List.getD_eq_getElem?_getD, List.getElem?_eq_getElem hk]
  simp only [Option.toList_some, Option.getD_some]
  rw [parts_snoc, List.length_take, Nat.min_eq_left (by omega), Nat.zero_add]
theorem pl_take {i : Nat} {C : List C3} {k : Nat} (hk : k < C.length) : pl i (C.take (k + 1)) = pl i (C.take k) ++ [tp i (C.getD k c0)] := by
  unfold pl
  rw [List.take_add_one, List.getElem?_eq_getElem hk, List.getD_eq_getElem?_getD, List.getElem?_eq_getElem hk, List.map_append]
  rfl
theorem parts_len (i : Nat) (A : List (List C3)) : (parts i A).length = A.flatten.length := by
  induction A generalizing i with
  | nil => rfl
  | cons D r ih => simp [parts, pl, ih]
theorem infoQ : (Try.prog.info? 44).map (fun i => (i.zero, i.size, i.bytes)) = some (some (.agg #[.string ⟨#[]⟩, .string ⟨#[]⟩, .slice none 0 0, .int .i64 0]), 4, 64) := by kernel_rfl
theorem pref_le (A : List (List C3)) (k : Nat) (hk : k < A.length) : (A.take k).flatten.length + (A.getD k []).length ≤ A.flatten.length := by
  have h : A.flatten.length = (A.take (k + 1)).flatten.length + (A.drop (k + 1)).flatten.length := by
    conv => lhs; rw [← List.take_append_drop (k + 1) A, List.flatten_append, List.length_append]
  rw [List.take_add_one, List.getElem?_eq_getElem hk] at h
  rw [List.getD_eq_getElem?_getD, List.getElem?_eq_getElem hk]
  simp only [Option.toList_some, Option.getD_some, List.flatten_append, List.flatten_cons, List.flatten_nil, List.append_nil, List.length_append] at h ⊢
  omega
set_option maxRecDepth 100000
set_option maxHeartbeats 8000000
theorem parts14 (w : World) (v : Value) (CC : List (List C3)) (h : Rc w v CC) (hu : ∀ C ∈ CC, ∀ c ∈ C, ∃ a n k, c.2.2 = .slice a n k) (hn : CC.length ≤ 1000000000) (ht : CC.flatten.length ≤ 1000000000) :
    Calls Try.prog 14 #[v] w fun e w' => ∃ r, e = .returned r ∧ w'.ownsRow w.heap.size 44 4 r (parts 0 CC).length (c4s (parts 0 CC)) ∧ Below w.heap.size w w' := by
  obtain ⟨i0, hi, hz0, hz1, hz2⟩ := info_parts infoQ
  obtain ⟨a, c, rfl, hg⟩ := h
  obtain ⟨n, hN⟩ : ∃ n, n = CC.length := ⟨_, rfl⟩
  have HN := Lib.hid hN
  rw [← hN] at hg hn ⊢
  have HG := Lib.hid hg
  have HU := Lib.hid hu
  have HT := Lib.hid ht
  clear hg hu ht hN
  go_enter Try.func14, Try.ntmps14
  go_wp2_with fail
  go_loopw [3, 10, 4, 5, 7, 17] (fun o i _ _ _ _ wr => ∃ k : Nat, k ≤ n ∧ i = .int .i64 (k : Nat) ∧ Hid (wr.ownsRow w.heap.size 44 4 o (parts 0 (CC.take k)).length (c4s (parts 0 (CC.take k)))) ∧ Hid (Below w.heap.size w wr)) (fun _ i _ _ _ _ _ => n - (intOf i).toNat)
  case atStart => exact ⟨0, Nat.zero_le _, rfl, Lib.hid (World.ownsRow_nil _ _ _ _), Lib.hid (Below.refl _ _)⟩
  case round =>
    obtain ⟨k, hk, rfl, HO, HB⟩ := hrel
    obtain ⟨wa, rfl⟩ : ∃ wa, wa = wr := ⟨_, rfl⟩
    obtain ⟨oa, oc, he⟩ := La.own_forms HO.out
    subst he
    by_cases hkn : k < n
    case neg =>
      obtain rfl : k = n := by omega
      have et : CC.take k = CC := by rw [List.take_of_length_le (by have := HN.out; omega)]
      rw [et] at HO ⊢
      go_wp2_with fail
      go_ret
      exact ⟨_, rfl, HO.out, HB.out⟩
    obtain ⟨b, off, s, rfl, hnc, hb, e1, hS⟩ := HG.out k hkn
    have e1 := (HB.out.cell (p := ⟨b, off + k, none⟩) hb).trans e1
    have hbw : b < wa.heap.size := Nat.lt_of_lt_of_le hb HB.out.size
    have hk9 : k < CC.length := by have := HN.out; omega
    have hpt := parts_take hk9
    have hpr := pref_le CC k hk9
    have HU2 := Lib.hid (show ∀ c ∈ CC.getD k [], ∃ a n k, c.2.2 = .slice a n k from HU.out _ (by rw [List.getD_eq_getElem?_getD, List.getElem?_eq_getElem hk9]; exact List.getElem_mem _))
    have hql := parts_len 0 (CC.take k)
    have htt := HT.out
    obtain ⟨Q, hQ⟩ : ∃ Q, Q = parts 0 (CC.take k) := ⟨_, rfl⟩
    rw [← hQ] at HO hpt hql ⊢
    obtain ⟨C, hC⟩ : ∃ C, C = CC.getD k [] := ⟨_, rfl⟩
    rw [← hC] at hS hpt hpr HU2
    obtain ⟨sa, sc, rfl, hs⟩ := hS
    obtain ⟨m, hm⟩ : ∃ m, m = C.length := ⟨_, rfl⟩
    rw [← hm] at hs hpr e1
    have HM := Lib.hid hm
    have HS := Lib.hid hs
    have HPT := Lib.hid hpt
    have hb9 : Q.length + m ≤ 1000000000 := by omega
    clear hpr hql htt hQ hC hm hs hpt
    go_wp2_with fail
    go_loopw [3, 17, 7] (fun o i _ wr => ∃ j : Nat, j ≤ m ∧ i = .int .i64 (j : Nat) ∧ Hid (wr.ownsRow w.heap.size 44 4 o (Q ++ pl k (C.take j)).length (c4s (Q ++ pl k (C.take j)))) ∧ Hid (Below w.heap.size w wr)) (fun _ i _ _ => m - (intOf i).toNat)
    case atStart => exact ⟨0, Nat.zero_le _, rfl, Lib.hid (by simpa [pl] using HO.out), HB⟩
    case round =>
      obtain ⟨j, hj, rfl, HO2, HB2⟩ := hrel
      obtain ⟨wb, rfl⟩ : ∃ wb, wb = wr := ⟨_, rfl⟩
      obtain ⟨pa, pc, he⟩ := La.own_forms HO2.out
      subst he
      by_cases hjm : j < m
      case neg =>
        obtain rfl : j = m := by omega
        have et : C.take j = C := by rw [List.take_of_length_le (by have := HM.out; omega)]
        rw [et] at HO2 ⊢
        go_wp2_with fail
        go_roundw
        case rel => exact ⟨k + 1, by omega, by go_num, Lib.hid (by rw [HPT.out]; exact HO2.out), HB2⟩
        case measure => simp [intOf]; omega
      obtain ⟨q, qo, rfl, hmc, hq, hat⟩ := HS.out j hjm
      have hj9 : j < C.length := by have := HM.out; omega
      obtain ⟨⟨x0, x1, x2⟩, hxu⟩ : CAt wb q (qo + j * 3) (C.getD j c0) ∧ ∃ a n k, (C.getD j c0).2.2 = .slice a n k := ⟨hat.of_block (HB2.out.block q hq), HU2.out _ (by rw [List.getD_eq_getElem?_getD, List.getElem?_eq_getElem hj9]; exact List.getElem_mem _)⟩
      have hqw : q < wb.heap.size := Nat.lt_of_lt_of_le hq HB2.out.size
      have HPL := Lib.hid (pl_take (i := k) hj9)
      have hll : (pl k (C.take j)).length = j := by unfold pl; rw [List.length_map, List.length_take]; omega
      generalize C.getD j c0 = y at x0 x1 x2 hxu HPL
      obtain ⟨y0, y1, y2⟩ := y
      obtain ⟨ya, yn, yc, hyu⟩ := hxu
      simp only at hyu x0 x1 x2
      subst hyu
      have BA := Lib.hid ((HB2.out.alloc HB2.out.size (.cells #[.string y0, .string y1, .slice ya yn yc] 42)).alloc (by have := HB2.out.size; simp; omega) (.cells #[.string y0, .string y1, .slice ya yn yc, .int .i64 (k : Nat)] 44))
      have OW := Lib.hid ((HO2.out.alloc (.cells #[.string y0, .string y1, .slice ya yn yc] 42)).alloc (.cells #[.string y0, .string y1, .slice ya yn yc, .int .i64 (k : Nat)] 44))
      have hh := heap_alloc_new (wb.alloc (.cells #[.string y0, .string y1, .slice ya yn yc] 42)) (.cells #[.string y0, .string y1, .slice ya yn yc, .int .i64 (k : Nat)] 44)
      simp only [World.size_alloc] at hh
      have NEWC : ∀ i u, (c4 (tp k (y0, y1, .slice ya yn yc)))[i]? = some u → ((wb.alloc (.cells #[.string y0, .string y1, .slice ya yn yc] 42)).alloc (.cells #[.string y0, .string y1, .slice ya yn yc, .int .i64 (k : Nat)] 44)).cell? ((⟨wb.heap.size + 1, 0, none⟩ : Addr).add i) = some u := fun i u hj => by
        match i, hj with
        | 0, hj => cases hj; exact La.cell_at hh 0
        | 1, hj => cases hj; exact La.cell_at hh 1
        | 2, hj => cases hj; exact La.cell_at hh 2
        | 3, hj => cases hj; exact La.cell_at hh 3
      have ONE : ∀ u ∈ c4 (tp k (y0, y1, .slice ya yn yc)), u.oneCell' = true := by
        intro u hu
        simp only [c4, tp, List.mem_cons, List.not_mem_nil, or_false] at hu
        rcases hu with rfl | rfl | rfl | rfl <;> rfl
      have hl9 : (Q ++ pl k (C.take j)).length + 1 ≤ 1000000000 := by rw [List.length_append, hll]; omega
      have zb := HB2.out.size
      obtain ⟨T, hT⟩ : ∃ T, T = Q ++ pl k (C.take j) := ⟨_, rfl⟩
      rw [← hT] at HO2 OW hl9 ⊢
      have HTT := Lib.hid hT
      clear hT hll hat hh
      go_wp2_with (at_builtin; refine wpList_append_own _ rfl (.tmp 21) (.tmp 25) 38 rfl w.heap.size 44 i0 _ 4 64 Try.underlying38 hi hz0 hz1 hz2 rfl (by decide) (.slice pa T.length pc) T.length (c4s T) (by simp [Act.eval]) OW.out ⟨wb.heap.size + 1, 0, none⟩ 1 1 (c4 (tp k (y0, y1, .slice ya yn yc))) (by simp [Act.eval]) rfl NEWC ONE (by unfold maxLen; omega) (by omega) (by simp; omega) ?_)
      intro v6 w6 o6 g6 _
      have B6 := Lib.hid (BA.out.grown g6 (by simp; omega) (fun i ej => (La.own_lt OW.out ej).1))
      have O6 := Lib.hid (show w6.ownsRow w.heap.size 44 4 v6 (Q ++ pl k (C.take (j + 1))).length (c4s (Q ++ pl k (C.take (j + 1)))) by
        rw [HPL.out, ← List.append_assoc, ← HTT.out, c4s_snoc, List.length_append]; exact o6)
      clear o6 g6 NEWC ONE
      go_wp2_with fail
      go_roundw
      case rel => exact ⟨j + 1, by omega, by go_num, O6, B6⟩
      case measure => simp [intOf]; omega
end Nk
end Go.Proofs.Ythaadpijfkmdiaa
