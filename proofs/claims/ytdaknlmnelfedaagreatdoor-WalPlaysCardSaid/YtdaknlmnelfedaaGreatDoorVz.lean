/- What opens the laws' arguments. What opens the laws' arguments and what is laid. -/
import Derived.Test.YtdaknlmnelfedaaGreatDoorJb
import Derived.WalkKit
import Derived.ProofKit
import Derived.OpenShut
import Derived.ShutString
import Derived.ChangeOld
import Derived.Below
import Derived.SizedLaws
import Derived.Test.YtdaknlmnelfedaaGreatDoorVy
import Derived.Deep.Slices
import Derived.Stop.LaidErr
import Derived.Lib.LaidU8
import Derived.Lib.LaidTab
namespace Go.Proofs.YtdaknlmnelfedaaGreatDoor
open Go.ChangeShapes Go.WideShapes Go.ChangeAt Go.RowKit
namespace Jt
open Jb

theorem own : ownKnob Tryz.prog.godebug = none := by kernel_rfl
theorem laidOut : laidOutB Tryz.prog = true := by kernel_rfl
theorem bnd_u8 {n : Int} (h : (Lit.int .u8 n).wf = true) : 0 ≤ n ∧ n < 256 := by
  simp only [Lit.wf, Bool.and_eq_true, decide_eq_true_eq] at h
  have h1 : IntKind.u8.min = 0 := by decide
  have h2 : IntKind.u8.max = 255 := by decide
  omega
theorem bnd_u16 {n : Int} (h : (Lit.int .u16 n).wf = true) : 0 ≤ n ∧ n < 65536 := by
  simp only [Lit.wf, Bool.and_eq_true, decide_eq_true_eq] at h
  have h1 : IntKind.u16.min = 0 := by decide
  have h2 : IntKind.u16.max = 65535 := by decide
  omega
theorem bytes5 : Tryz.prog.bytesOf 5 = 1 := by kernel_rfl

/-- A slice of bytes that came in. -/
theorem open_bytes {H : Type} {enc : TypeId × Value → H} {W : World} {v : Value} {d : DataW H} {ps : List MemPlace} (hv : ∃ a len cap, v = .slice a len cap) (h : DataW.Trod enc Tryz.prog W 0 (fun _ => true) true 36 v d ps) :
    ∃ bs : List Nat, Src W (fun _ => True) v bs ∧ (∀ c, v = .slice none bs.length c → c = 0) ∧ (∀ x ∈ bs, x < 256) ∧ (bs = [] ∨ ∃ es sp, d = .slice es sp ∧ bs.length = es.length) := by
  obtain ⟨a0, len0, cap0, rfl⟩ := hv
  obtain ⟨fuel, hf⟩ := h
  rcases open_ints Tryz.underlying36 Tryz.underlying5 (by kernel_rfl) hf with ⟨hcs, _⟩ | ⟨x, l, c, zs, hcs, _, hl, hm, hz, hx, hcell, hwz⟩
  · simp [Value.cells] at hcs
    obtain ⟨rfl, rfl, rfl⟩ := hcs
    exact ⟨[], .inl ⟨rfl, _, _, rfl⟩, (fun c e => by cases e; rfl), by simp, .inl rfl⟩
  · simp [Value.cells] at hcs
    obtain ⟨rfl, rfl, rfl⟩ := hcs
    have hzl : zs.length = cap0 := by simpa using hz
    obtain ⟨rfl, -⟩ := by simpa using hx
    have hwf : ∀ n ∈ zs, 0 ≤ n ∧ n < 256 := fun n hn => bnd_u8 (hwz n hn)
    have hlen : ((zs.take len0).map Int.toNat).length = len0 := by simp; omega
    have hget : ∀ i, i < len0 → (g ((zs.take len0).map Int.toNat) i : Int) = zs.getD i 0 := by
      intro i hi
      have hz' : i < zs.length := by omega
      have h0 := hwf zs[i] (List.getElem_mem hz')
      simp [g, List.getD_eq_getElem?_getD, hi, hz']
      omega
    refine ⟨(zs.take len0).map Int.toNat, ?_, (fun c e => by cases e), ?_, ?_⟩
    · by_cases h0 : len0 = 0
      · subst h0; exact .inl ⟨by simp, _, _, rfl⟩
      · obtain ⟨b, off, spot⟩ := x
        have hc0 := hcell 0 (by omega)
        have hspot : spot = none := by simpa [Addr.add] using World.cell?_spot hc0
        subst hspot
        refine .inr ⟨by rw [hlen]; omega, b, off, cap0, by rw [hlen], by rw [hlen]; exact hl, trivial, fun i hi => ?_⟩
        rw [hlen] at hi
        have g := hcell i (by omega)
        rw [hget i hi]
        by_cases hi0 : i = 0
        · subst hi0; simpa [Addr.add] using g
        · simpa [Addr.add, hi0] using g
    · intro y hy
      simp only [List.mem_map] at hy
      obtain ⟨n, hn, rfl⟩ := hy
      have := hwf n (List.mem_of_mem_take hn)
      omega
    · exact .inr ⟨_, _, rfl, by rw [hlen]; simp [lits]; omega⟩

/-- What came in takes fewer than 2^47 bytes. -/
theorem reach_bytes {H : Type} {ts : List TypeId} {ds : List (DataW H)} {d : DataW H} {L : List Nat} (j : Nat) (hsz : (DataW.weightsEach Tryz.prog ts ds).all (· ≤ reachBytes) = true) (ht : ts[j]? = some 36) (hd : ds[j]? = some d)
    (h : L = [] ∨ ∃ es sp, d = .slice es sp ∧ L.length = es.length) : L.length ≤ 140737488351232 := by
  rcases h with rfl | ⟨es, sp, rfl, he⟩
  · simp
  · have := sized_slice hsz (j := j) ht hd Tryz.underlying36
    rw [bytes5] at this
    simp only [reachBytes] at this
    omega
theorem reach_str {H : Type} {ts : List TypeId} {ds : List (DataW H)} {s : ByteArray} (j : Nat) (hsz : (DataW.weightsEach Tryz.prog ts ds).all (· ≤ reachBytes) = true) (ht : ts[j]? = some 9) (hd : ds[j]? = some (.lit (.string s.data.toList))) : s.size ≤ 140737488351232 := by
  have := sized_string hsz (j := j) ht hd
  simp only [reachBytes, Array.length_toList] at this
  exact this
theorem src_lt {w : World} {v : Value} {bs : List Nat} (h : Src w (fun _ => True) v bs) : Src w (fun k => k < w.heap.size) v bs := by
  rcases h with h | ⟨h0, b, off, c, h1, h2, h3, h4⟩
  · exact .inl h
  · exact .inr ⟨h0, b, off, c, h1, h2, by have := cell_lt (h4 0 h0); exact this, h4⟩
end Jt
end Go.Proofs.YtdaknlmnelfedaaGreatDoor
namespace Go.Proofs.YtdaknlmnelfedaaGreatDoor
open Go.ChangeShapes Go.WideShapes Go.ChangeAt Go.RowKit
namespace Vo
open Jb Jt Jd V1 V2 Vg

theorem open_bl {H : Type} {enc : TypeId × Value → H} {W : World} {v : Value} {d : DataW H} {ps : List MemPlace} (hv : ∃ a len cap, v = .slice a len cap) (h : DataW.Trod enc Tryz.prog W 0 (fun _ => true) true 29 v d ps) :
    ∃ xs : List (List Nat), BL W v xs ∧ (∀ x ∈ xs, ∀ y ∈ x, y < 256) ∧ (xs = [] ∨ ∃ es sp, d = .slice es sp ∧ xs.length = es.length) := by
  obtain ⟨a0, len0, cap0, rfl⟩ := hv
  obtain ⟨fuel, hf⟩ := h
  rcases Go.Deep.open_slice1 (e := 36) Tryz.underlying29 (by kernel_rfl) hf with ⟨hcs, _⟩ | ⟨ad, len, cap, m, n, V, D, Pl, hcs, _, hl, hm, hmm, hx, hcell⟩
  · simp [Value.cells] at hcs
    obtain ⟨rfl, rfl, rfl⟩ := hcs
    exact ⟨[], .inl ⟨rfl, _, _, rfl⟩, by simp, .inl rfl⟩
  · simp [Value.cells] at hcs
    obtain ⟨rfl, rfl, rfl⟩ := hcs
    have hml : len0 ≤ m := by rw [hmm]; split <;> omega
    have key : ∀ i, i < len0 → ∃ X : List Nat, (∀ y ∈ X, y < 256) ∧ ∃ a cc, V i = .slice a X.length cc ∧ Src W (fun k => k < W.heap.size) (.slice a X.length cc) X := by
      intro i hi
      obtain ⟨c1, c2⟩ := hcell i (by omega)
      have hsl : ∃ a l c, V i = .slice a l c := by
        rcases Go.Deep.open_slice1 (e := 5) Tryz.underlying36 (by kernel_rfl) c2 with ⟨e, _⟩ | ⟨ad', l', c', _, _, _, _, _, e, _⟩
        · exact ⟨none, 0, 0, by simpa using e⟩
        · exact ⟨_, l', c', by simpa using e⟩
      obtain ⟨a, l, c, hV⟩ := hsl
      obtain ⟨X, hP, _, hB, _⟩ := open_bytes (enc := enc) (W := W) (v := V i) (d := D i) (ps := Pl i) ⟨a, l, c, hV⟩ ⟨n, by rw [hV] at c2 ⊢; simpa [Value.cells] using c2⟩
      obtain ⟨a', cc, hV'⟩ := hP.forms
      exact ⟨X, hB, a', cc, hV', by rw [← hV']; exact src_lt hP⟩
    obtain ⟨X, hX⟩ := Go.Deep.choose_lt key
    have hlen : ((List.range len0).map X).length = len0 := by simp
    refine ⟨(List.range len0).map X, ?_, ?_, .inr ⟨_, _, congrArg Prod.fst hx, by simp⟩⟩
    · by_cases h0 : len0 = 0
      · subst h0; exact .inl ⟨by simp, _, _, rfl⟩
      · obtain ⟨b, off, spot⟩ := ad
        have hc0 := (hcell 0 (by omega)).1
        have hspot : spot = none := by simpa [Addr.add] using World.cell?_spot hc0
        subst hspot
        refine .inr ⟨b, off, cap0, by rw [hlen], by omega, by have := cell_lt hc0; simpa [Addr.add] using this, fun i hi => ?_⟩
        rw [hlen] at hi
        obtain ⟨_, a, cc, hV, hS⟩ := hX i hi
        have e : ((List.range len0).map X)[i]'(by rw [hlen]; exact hi) = X i := by simp
        refine ⟨a, cc, ?_, ?_⟩
        · have := (hcell i (by omega)).1
          rw [hV, Addr.add_lit] at this
          rw [e]; exact this
        · rw [e]; exact hS
    · intro x hx'
      obtain ⟨i, hi, rfl⟩ := List.mem_map.1 hx'
      exact (hX i (List.mem_range.1 hi)).1
theorem bytes23 : Tryz.prog.bytesOf 36 = 24 := by kernel_rfl
theorem reach_bl {H : Type} {ts : List TypeId} {ds : List (DataW H)} {d : DataW H} {L : List (List Nat)} (j : Nat) (hsz : (DataW.weightsEach Tryz.prog ts ds).all (· ≤ reachBytes) = true) (ht : ts[j]? = some 29) (hd : ds[j]? = some d)
    (h : L = [] ∨ ∃ es sp, d = .slice es sp ∧ L.length = es.length) : L.length ≤ 140737488351232 := by
  rcases h with rfl | ⟨es, sp, rfl, he⟩
  · simp
  · have := sized_slice hsz (j := j) ht hd Tryz.underlying29
    rw [bytes23] at this
    simp only [reachBytes] at this
    omega
theorem laid_tail {x : String × DataW Unit} {r : List (String × DataW Unit)} {w : World} (h : laidMet Tryz.prog (x :: r) w) : laidMet Tryz.prog r w := by
  obtain ⟨n, d⟩ := x
  obtain ⟨ps, ⟨g, t, cs, fuel, p, q, h1, h2, h3, h4, h5, h6⟩, hn, hm⟩ := h
  subst h6
  exact ⟨q, h5, (List.nodup_append.1 hn).2.1, fun b off hb => hm b off (List.mem_append_right _ hb)⟩
theorem gTab : Tryz.prog.globalNamed "internal/strconv.uint64pow10" = some 2 := by kernel_rfl
theorem gTabType : (Tryz.prog.globals[2]?).map (·.type) = some 139 := by kernel_rfl
theorem cells114 : Tryz.prog.cellsOf 139 = 20 := by kernel_rfl
theorem cells81 : Tryz.prog.cellsOf 114 = 1 := by kernel_rfl
theorem gES : Tryz.prog.globalNamed "strconv.ErrSyntax" = some 0 := by kernel_rfl
theorem gESType : (Tryz.prog.globals[0]?).map (·.type) = some 90 := by kernel_rfl
theorem cells119 : Tryz.prog.cellsOf 147 = 1 := by kernel_rfl
theorem cells9 : Tryz.prog.cellsOf 9 = 1 := by kernel_rfl
theorem star : "*" ++ "errors.errorString" = "*errors.errorString" := by decide
theorem row117 (u : TypeId) (h : Tryz.prog.typeName? 3 u = some "*errors.errorString") : u = 145 :=
  typeName_ptr_named (nm := "errors.errorString") (by rw [star]; kernel_rfl) (by kernel_rfl) (by decide) u (by rw [star]; exact h)
/-- What is laid serves the names' walks. -/
theorem en_of {W : World} (h : laidMet Tryz.prog Rows.walAllRow.laid W) (hW : 5 ≤ W.heap.size) : En W W.heap.size := by
  refine ⟨?_, ?_, hW, Nat.le_refl _⟩
  · exact Lib.tabIs_of_head gTab gTabType Tryz.underlying139 Tryz.underlying114 cells81 cells114 (laid_tail (laid_tail h))
  · obtain ⟨a0, s0, hv0, -, -, -⟩ := laid_sentinel (laid_tail (laid_tail (laid_tail (laid_tail h)))) gES gESType Tryz.underlying90 row117 Tryz.underlying145 Tryz.underlying147 rfl rfl Tryz.underlying9 cells119 cells9
    exact ⟨_, by have h0 := World.var?_cell gES hv0 0; simpa using h0, .inr ⟨_, _, rfl⟩⟩
end Vo
end Go.Proofs.YtdaknlmnelfedaaGreatDoor
