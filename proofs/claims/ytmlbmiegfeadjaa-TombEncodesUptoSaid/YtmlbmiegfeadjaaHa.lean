/- Tombs cloned and sorted. -/
import Derived.Test.YtmlbmiegfeadjaaGz
import Derived.Test.YtmlbmiegfeadjaaGr
import Derived.Shelf.SlSortCmp.NoneTotal
namespace Go.Proofs.Ytmlbmiegfeadjaa
open Go.RowKit Go.Sort Go.Shelf
namespace Ha
open Jb Ca Cz Ga Gm Gn Gt Gw Gy Gz Gr

theorem heap_sortedK {w : World} {g n : Nat} {os : Array Obj} {cur : Array Value} {e : TypeId} {fr : Nat × Nat} (d : Array Tmb) (hb : w.heap[g]? = some (.cells cur e fr)) :
    (sortWorldK tc 4 w g 0 n d os).heap[g]? = some (.cells (putCells id 0 (flatK tc 4 d) cur) e fr) := by
  have hg : g < w.heap.size := (Array.getElem?_eq_some_iff.1 hb).1
  unfold sortWorldK putRowK
  rw [heap_grow_old _ _ (by simpa using hg)]
  simp [putRow, mapBlock, Sort.ahead, Array.getElem?_modify, hb, onCells]
theorem grownBy_sortedK {w : World} {g n : Nat} {os : Array Obj} (d : Array Tmb) : w.grownBy (sortWorldK tc 4 w g 0 n d os) (some g) := by
  unfold sortWorldK putRowK
  refine ⟨rfl, rfl, rfl, by simp, fun k hk hne => ?_⟩
  rw [heap_grow_old _ _ (by simpa using hk)]
  have : g ≠ k := fun e => hne (by rw [e])
  simp [putRow, mapBlock, Sort.ahead, Array.getElem?_modify, this]
theorem take_put2 (cur F : Array Value) (h : F.size ≤ cur.size) : (putCells id 0 F cur).toList.take F.size = F.toList := by
  apply List.ext_getElem?
  intro j
  by_cases hj : j < F.size
  · rw [List.getElem?_take_of_lt hj, Array.getElem?_toList, Array.getElem?_toList]
    simp [putCells, hj, show j < cur.size by omega]
  · rw [List.getElem?_take_eq_none (by omega), List.getElem?_eq_none (by simp; omega)]
theorem getD_bang (l : List Tmb) {i : Nat} (h : i < l.length) : l.toArray[i]! = l.getD i t0 := by
  rw [List.getD_eq_getElem?_getD, List.getElem?_eq_getElem h, getElem!_pos l.toArray i (by simpa using h)]
  simp
theorem flat_tcs (l : List Tmb) : (flatK tc 4 l.toArray).toList = tcs l := by
  apply List.ext_getElem?
  intro t
  by_cases ht : t < l.length * 4
  · have hq : t / 4 < l.length := by omega
    have e : t = t / 4 * 4 + t % 4 := by omega
    have hm : t % 4 < 4 := Nat.mod_lt _ (by decide)
    have e2 := tcs_get l (t / 4) (t % 4) hq hm
    rw [← e] at e2
    rw [e2]
    simp only [flatK, Array.getElem?_toList]
    simp [ht]
    rw [List.getElem?_eq_getElem hq]
    simp only [Option.getD_some]
    have : t % 4 = 0 ∨ t % 4 = 1 ∨ t % 4 = 2 ∨ t % 4 = 3 := by omega
    rcases this with e | e | e | e <;> rw [e] <;> rfl
  · rw [List.getElem?_eq_none (by simp; omega), List.getElem?_eq_none (by rw [tcs_len]; omega)]
theorem holds_of_blockK {w : World} {g : Nat} {cur : Array Value} {e : TypeId} {ss : List Tmb} (hb : w.heap[g]? = some (.cells cur e (0, 0))) (ht : cur.toList.take (ss.length * 4) = tcs ss) : HoldsK tc 4 w g 0 ss.toArray := by
  intro j hj
  have hj' : j < ss.length * 4 := by simpa using hj
  refine ⟨?_, by simp [World.frozen?, hb]⟩
  have h1 : (cur.toList.take (ss.length * 4))[j]? = (flatK tc 4 ss.toArray).toList[j]? := by rw [ht, flat_tcs]
  rw [List.getElem?_take_of_lt hj'] at h1
  simp only [World.cell?, hb, Nat.zero_add]
  simp only [Option.isSome_none, Bool.false_eq_true, if_false]
  rw [← Array.getElem?_toList, h1, Array.getElem?_toList, Array.getElem?_eq_getElem hj]
  exact congrArg some (getElem!_pos _ j hj).symm
theorem ownsRow_sortedK {w : World} {base g cap n : Nat} {e : TypeId} {os : Array Obj} {cur : Array Value} {ss ts : List Tmb} (hl : ts.length = ss.length) (hbase : base ≤ g) (hb : w.heap[g]? = some (.cells cur e (0, 0)))
    (h1 : ss.length ≤ cap) (h2 : cap ≤ maxLen) (h3 : cur.size = cap * 4) :
    (sortWorldK tc 4 w g 0 n ts.toArray os).ownsRow base e 4 (.slice (some ⟨g, 0, none⟩) ss.length cap) ss.length (tcs ts) := by
  refine ⟨by rw [tcs_len, hl], .inr ⟨g, cap, _, rfl, hbase, heap_sortedK _ hb, h1, h2, by simp [putCells, h3], ?_⟩⟩
  have hs : (flatK tc 4 ts.toArray).size = ss.length * 4 := by simp [hl]
  have := take_put2 cur (flatK tc 4 ts.toArray) (by rw [hs, h3]; omega)
  rw [hs, flat_tcs] at this
  exact this
theorem isAgg57 : ∀ w, (isAgg 57).run Try.prog w = .ok true w := Try.isAgg57
theorem sizeOf57 : ∀ w, (Go.sizeOf 57).run Try.prog w = .ok 4 w := Try.sizeOf57
theorem sort43 (w : World) (base : Nat) (v : Value) (xs : List Tmb) (ho : w.ownsRow base 57 4 v xs.length (tcs xs)) (hb : base ≤ w.heap.size) (hlen : xs.length < 4611686018427387904) :
    Calls Try.prog 43 #[v, .func (.func 44) #[] #[]] w fun e w' => e = .returned (.tuple #[]) ∧ ∃ ys, ys.Perm xs ∧ ys.Pairwise (fun a b => ltT b a = false) ∧ w'.ownsRow base 57 4 v ys.length (tcs ys) ∧ Below base w w' := by
  rcases ho.2 with ⟨rfl, h0⟩ | ⟨g, cap, cur, rfl, hbg, hg, h1, h2, h3, h4⟩
  · obtain rfl : xs = [] := List.eq_nil_of_length_eq_zero h0
    refine (AnyF.slices_SortFunc_none { Try.sortPl with } none 0 (.func (.func 44) #[] #[]) w).mono ?_
    rintro e w' ⟨rfl, rfl⟩
    exact ⟨rfl, [], List.Perm.nil, List.Pairwise.nil, ho, Below.refl _ _⟩
  · have eg : ∀ args w, (callFunc 44 args).run Try.prog w = .ok (.enter 44 args) w := enters_of Try.func44 (by kernel_rfl) rfl
    have hcon := AnyQ.slices_SortFunc Try.sortPl 4 isAgg57 sizeOf57 tc (fun _ => rfl) (fun x v hv => tc_one x v hv) cft swoT 44 #[] g 0 cap xs.toArray w eg
      (fun m os dk _ x y => compare44 _ x y) (holds_of_blockK hg h4) (Array.getElem?_eq_some_iff.1 hg).1 (by simpa using hlen)
    change Calls Try.prog 43 _ _ _ at hcon
    simp only [List.size_toArray] at hcon
    refine hcon.mono ?_
    rintro e w' ⟨rfl, d', n, os, hp, hs, rfl⟩
    obtain ⟨q1, q2⟩ := sortedT (xs := xs) (by simpa using hp) (by simpa using hs)
    have hl : d'.toList.length = xs.length := q1.length_eq
    refine ⟨rfl, d'.toList, q1, q2, ?_, ?_⟩
    · have := ownsRow_sortedK (w := w) (n := n) (os := os) (ts := d'.toList) hl hbg hg h1 h2 h3
      rw [Array.toArray_toList] at this
      rw [hl]; exact this
    · exact (Below.refl base w).grown (grownBy_sortedK d') hb (fun k e => by cases e; exact hbg)
set_option maxRecDepth 100000
theorem clone42 (w : World) (B : Nat) (v : Value) (L : List Tmb) (ho : w.ownsRow B 57 4 v L.length (tcs L)) (hn : L.length * 48 ≤ 140737488355328) :
    Calls Try.prog 42 #[v] w fun e w' => ∃ r, e = .returned r ∧ w'.ownsRow w.heap.size 57 4 r L.length (tcs L) ∧ Below w.heap.size w w' := by
  obtain ⟨i0, hi, hz0, hz1, hz2⟩ := info_parts info57
  obtain ⟨n, hN⟩ : ∃ n, n = L.length := ⟨_, rfl⟩
  obtain ⟨T, hT⟩ : ∃ T, T = tcs L := ⟨_, rfl⟩
  have h1c : ∀ u ∈ T, u.oneCell' = true := by rw [hT]; exact tcs_one L
  have htl : T.length = n * 4 := by rw [hT, tcs_len, hN]
  rw [← hN, ← hT] at ho ⊢
  rw [← hN] at hn
  clear hN hT
  rcases ho.2 with ⟨rfl, h0⟩ | ⟨g, cap, cur, rfl, hbg, hg, h1, h2, h3, h4⟩
  · subst h0
    obtain rfl : T = [] := List.eq_nil_of_length_eq_zero (by omega)
    clear ho h1c htl hn
    have he : ∀ w : World, (binOp .eql 29 (.slice none 0 0) (.slice none 0 0)).run Try.prog w = .ok (.bool true) w := fun _ => rfl
    go_enter Try.func42, Try.ntmps42
    go_wp2_with fail
    go_ret
    exact ⟨_, rfl, World.ownsRow_nil _ _ _ _, Below.refl _ _⟩
  · have bA := (Below.refl w.heap.size w).alloc (Nat.le_refl _) (.cells #[] 57)
    have hgl : g < w.heap.size := (Array.getElem?_eq_some_iff.1 hg).1
    have hcell := ho.cells rfl
    have HC := Lib.hid (show ∀ j u, T[j]? = some u → (w.alloc (.cells #[] 57)).cell? ((⟨g, 0, none⟩ : Addr).add j) = some u from fun j u hj => (bA.cell (p := (⟨g, 0, none⟩ : Addr).add j) (by unfold Addr.add; split <;> exact hgl)).trans (hcell j u hj))
    have OWN := Lib.hid (show (w.alloc (.cells #[] 57)).ownsRow w.heap.size 57 4 (.slice (some ⟨w.heap.size, 0, none⟩) 0 0) 0 [] from ⟨by simp, .inr ⟨w.heap.size, 0, #[], rfl, Nat.le_refl _, heap_alloc_new _ _, Nat.le_refl _, by unfold maxLen; omega, by simp, by simp⟩⟩)
    have BA := Lib.hid bA
    have H1 := Lib.hid h1c
    have HL := Lib.hid htl
    clear ho hcell h4 h3 hg bA h1c htl hbg
    have he : ∀ w : World, (binOp .eql 29 (.slice (some ⟨g, 0, none⟩) n cap) (.slice none 0 0)).run Try.prog w = .ok (.bool false) w := fun _ => rfl
    go_enter Try.func42, Try.ntmps42
    go_wp2_with (at_builtin; refine wpList_append_own _ rfl (.tmp 5) (.tmp 6) 29 rfl w.heap.size 57 i0 _ 4 48 Try.underlying29 hi hz0 hz1 hz2 rfl (by decide) (.slice (some ⟨w.heap.size, 0, none⟩) 0 0) 0 [] (by simp [Act.eval]) OWN.out ⟨g, 0, none⟩ n cap T rfl HL.out HC.out H1.out ?c3 ?c4 ?c5 ?_)
    case c3 => unfold maxLen; omega
    case c4 => omega
    case c5 => simp
    intro v' w6 hown6 hgrow _
    have O6 := Lib.hid hown6
    have B6 := Lib.hid (BA.out.grown hgrow (by simp) (fun k e => by cases e; exact Nat.le_refl _))
    clear hown6 hgrow
    go_wp2_with fail
    go_ret
    exact ⟨_, rfl, by simpa using O6.out, B6.out⟩
end Ha
end Go.Proofs.Ytmlbmiegfeadjaa
