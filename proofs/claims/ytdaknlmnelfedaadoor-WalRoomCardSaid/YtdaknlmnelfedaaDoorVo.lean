/- What opens the laws' arguments and what is laid. -/
import Derived.Test.YtdaknlmnelfedaaDoorVg
import Derived.Test.YtdaknlmnelfedaaDoorJt
import Derived.Deep.Slices
import Derived.Stop.LaidErr
import Derived.Lib.LaidU8
import Derived.Lib.LaidTab
namespace Go.Proofs.YtdaknlmnelfedaaDoor
open Go.ChangeShapes Go.WideShapes Go.ChangeAt Go.RowKit
namespace Vo
open Jb Jt Jd V1 V2 Vg

theorem open_bl {H : Type} {enc : TypeId × Value → H} {W : World} {v : Value} {d : DataW H} {ps : List MemPlace} (hv : ∃ a len cap, v = .slice a len cap) (h : DataW.Trod enc Tryd.prog W 0 (fun _ => true) true 22 v d ps) :
    ∃ xs : List (List Nat), BL W v xs ∧ (∀ x ∈ xs, ∀ y ∈ x, y < 256) ∧ (xs = [] ∨ ∃ es sp, d = .slice es sp ∧ xs.length = es.length) := by
  obtain ⟨a0, len0, cap0, rfl⟩ := hv
  obtain ⟨fuel, hf⟩ := h
  rcases Go.Deep.open_slice1 (e := 23) Tryd.underlying22 (by kernel_rfl) hf with ⟨hcs, _⟩ | ⟨ad, len, cap, m, n, V, D, Pl, hcs, _, hl, hm, hmm, hx, hcell⟩
  · simp [Value.cells] at hcs
    obtain ⟨rfl, rfl, rfl⟩ := hcs
    exact ⟨[], .inl ⟨rfl, _, _, rfl⟩, by simp, .inl rfl⟩
  · simp [Value.cells] at hcs
    obtain ⟨rfl, rfl, rfl⟩ := hcs
    have hml : len0 ≤ m := by rw [hmm]; split <;> omega
    have key : ∀ i, i < len0 → ∃ X : List Nat, (∀ y ∈ X, y < 256) ∧ ∃ a cc, V i = .slice a X.length cc ∧ Src W (fun k => k < W.heap.size) (.slice a X.length cc) X := by
      intro i hi
      obtain ⟨c1, c2⟩ := hcell i (by omega)
      have hsl : ∃ a l c, V i = .slice a l c := by
        rcases Go.Deep.open_slice1 (e := 5) Tryd.underlying23 (by kernel_rfl) c2 with ⟨e, _⟩ | ⟨ad', l', c', _, _, _, _, _, e, _⟩
        · exact ⟨none, 0, 0, by simpa using e⟩
        · exact ⟨_, l', c', by simpa using e⟩
      obtain ⟨a, l, c, hV⟩ := hsl
      obtain ⟨X, hP, _, hB, _⟩ := open_bytes (enc := enc) (W := W) (v := V i) (d := D i) (ps := Pl i) ⟨a, l, c, hV⟩ ⟨n, by rw [hV] at c2 ⊢; simpa [Value.cells] using c2⟩
      obtain ⟨a', cc, hV'⟩ := hP.forms
      exact ⟨X, hB, a', cc, hV', by rw [← hV']; exact src_lt hP⟩
    obtain ⟨X, hX⟩ := Go.Deep.choose_lt key
    have hlen : ((List.range len0).map X).length = len0 := by simp
    refine ⟨(List.range len0).map X, ?_, ?_, .inr ⟨_, _, congrArg Prod.fst hx, by simp⟩⟩
    · by_cases h0 : len0 = 0
      · subst h0; exact .inl ⟨by simp, _, _, rfl⟩
      · obtain ⟨b, off, spot⟩ := ad
        have hc0 := (hcell 0 (by omega)).1
        have hspot : spot = none := by simpa [Addr.add] using World.cell?_spot hc0
        subst hspot
        refine .inr ⟨b, off, cap0, by rw [hlen], by omega, by have := cell_lt hc0; simpa [Addr.add] using this, fun i hi => ?_⟩
        rw [hlen] at hi
        obtain ⟨_, a, cc, hV, hS⟩ := hX i hi
        have e : ((List.range len0).map X)[i]'(by rw [hlen]; exact hi) = X i := by simp
        refine ⟨a, cc, ?_, ?_⟩
        · have := (hcell i (by omega)).1
          rw [hV, Addr.add_lit] at this
          rw [e]; exact this
        · rw [e]; exact hS
    · intro x hx'
      obtain ⟨i, hi, rfl⟩ := List.mem_map.1 hx'
      exact (hX i (List.mem_range.1 hi)).1
theorem bytes23 : Tryd.prog.bytesOf 23 = 24 := by kernel_rfl
theorem reach_bl {H : Type} {ts : List TypeId} {ds : List (DataW H)} {d : DataW H} {L : List (List Nat)} (j : Nat) (hsz : (DataW.weightsEach Tryd.prog ts ds).all (· ≤ reachBytes) = true) (ht : ts[j]? = some 22) (hd : ds[j]? = some d)
    (h : L = [] ∨ ∃ es sp, d = .slice es sp ∧ L.length = es.length) : L.length ≤ 140737488351232 := by
  rcases h with rfl | ⟨es, sp, rfl, he⟩
  · simp
  · have := sized_slice hsz (j := j) ht hd Tryd.underlying22
    rw [bytes23] at this
    simp only [reachBytes] at this
    omega
theorem laid_tail {x : String × DataW Unit} {r : List (String × DataW Unit)} {w : World} (h : laidMet Tryd.prog (x :: r) w) : laidMet Tryd.prog r w := by
  obtain ⟨n, d⟩ := x
  obtain ⟨ps, ⟨g, t, cs, fuel, p, q, h1, h2, h3, h4, h5, h6⟩, hn, hm⟩ := h
  subst h6
  exact ⟨q, h5, (List.nodup_append.1 hn).2.1, fun b off hb => hm b off (List.mem_append_right _ hb)⟩
theorem gTab : Tryd.prog.globalNamed "internal/strconv.uint64pow10" = some 2 := by kernel_rfl
theorem gTabType : (Tryd.prog.globals[2]?).map (·.type) = some 114 := by kernel_rfl
theorem cells114 : Tryd.prog.cellsOf 114 = 20 := by kernel_rfl
theorem cells81 : Tryd.prog.cellsOf 81 = 1 := by kernel_rfl
theorem gES : Tryd.prog.globalNamed "strconv.ErrSyntax" = some 0 := by kernel_rfl
theorem gESType : (Tryd.prog.globals[0]?).map (·.type) = some 62 := by kernel_rfl
theorem cells119 : Tryd.prog.cellsOf 119 = 1 := by kernel_rfl
theorem cells9 : Tryd.prog.cellsOf 9 = 1 := by kernel_rfl
theorem star : "*" ++ "errors.errorString" = "*errors.errorString" := by decide
theorem row117 (u : TypeId) (h : Tryd.prog.typeName? 3 u = some "*errors.errorString") : u = 117 :=
  typeName_ptr_named (nm := "errors.errorString") (by rw [star]; kernel_rfl) (by kernel_rfl) (by decide) u (by rw [star]; exact h)
/-- What is laid serves the names' walks. -/
theorem en_of {W : World} (h : laidMet Tryd.prog Rows.walRoomRow.laid W) (hW : 5 ≤ W.heap.size) : En W W.heap.size := by
  refine ⟨?_, ?_, hW, Nat.le_refl _⟩
  · exact Lib.tabIs_of_head gTab gTabType Tryd.underlying114 Tryd.underlying81 cells81 cells114 (laid_tail (laid_tail h))
  · obtain ⟨a0, s0, hv0, -, -, -⟩ := laid_sentinel (laid_tail (laid_tail (laid_tail (laid_tail h)))) gES gESType Tryd.underlying62 row117 Tryd.underlying117 Tryd.underlying119 rfl rfl Tryd.underlying9 cells119 cells9
    exact ⟨_, by have h0 := World.var?_cell gES hv0 0; simpa using h0, .inr ⟨_, _, rfl⟩⟩
end Vo
end Go.Proofs.YtdaknlmnelfedaaDoor
