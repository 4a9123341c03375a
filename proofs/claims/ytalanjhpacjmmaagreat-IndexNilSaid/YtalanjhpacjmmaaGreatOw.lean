/- Series that came in. -/
import Derived.Test.YtalanjhpacjmmaaGreatSb
import Derived.Test.YtalanjhpacjmmaaGreatJt
import Derived.Test.YtalanjhpacjmmaaGreatJu2
import Derived.Deep.Slices
import Derived.ChangeSame
namespace Go.Proofs.YtalanjhpacjmmaaGreat
open Go.ChangeShapes Go.WideShapes Go.Deep Go.RowKit
namespace Ow
open Jb Sa Sb Jt Ju2

theorem bnd64 {n : Int} (h : (Lit.int .i64 n).wf = true) : -9223372036854775808 ≤ n ∧ n ≤ 9223372036854775807 := by
  simp only [Lit.wf, Bool.and_eq_true, decide_eq_true_eq] at h
  have h1 : IntKind.i64.min = -9223372036854775808 := by decide
  have h2 : IntKind.i64.max = 9223372036854775807 := by decide
  omega
theorem cells37 : Tryz.prog.cellsOf 36 = 2 := by kernel_rfl
theorem cells24 : Tryz.prog.cellsOf 30 = 2 := by kernel_rfl
theorem cells22 : Tryz.prog.cellsOf 28 = 1 := by kernel_rfl
theorem cells9' : Tryz.prog.cellsOf 9 = 1 := by kernel_rfl
theorem bytes37 : Tryz.prog.bytesOf 36 = 32 := by kernel_rfl
/-- Data of a tag. -/
def td {H : Type} (x : Tg) : DataW H := .agg [.lit (.string x.1.data.toList), .lit (.string x.2.data.toList)]
set_option maxRecDepth 100000 in
theorem tag_of {H : Type} {enc : TypeId × Value → H} {W : World} {n : Nat} {cs : List Value} {x : DataW H × List MemPlace} (hl : cs.length = 2)
    (h : DataW.trod enc Tryz.prog W 0 (fun _ => true) true n 36 cs = some x) : ∃ y : Tg, tc y = cs ∧ x.1 = td y := by
  obtain ⟨ys, m, _, hx, _, hyl, hf⟩ := DataW.trod_struct Tryz.underlying36 h
  match cs, hl with
  | [e0, e1], _ =>
    have h0 := hf 0 { name := "Key", type := 9, offset := 0, embedded := false, tag := "", pkgPath := "", byteOffset := 0 } rfl
    have h1 := hf 1 { name := "Value", type := 9, offset := 1, embedded := false, tag := "", pkgPath := "", byteOffset := 16 } rfl
    obtain ⟨z0, z1, rfl⟩ : ∃ z0 z1, ys = [z0, z1] := by
      match ys, hyl with
      | [z0, z1], _ => exact ⟨z0, z1, rfl⟩
    simp only [cells9', List.drop_zero, List.drop_succ_cons, List.take_succ_cons, List.take_zero, List.getElem?_cons_zero, List.getElem?_cons_succ] at h0 h1
    obtain ⟨s, hs, ds, _⟩ := DataW.trod_string Tryz.underlying9 h0
    obtain ⟨t, ht, dt, _⟩ := DataW.trod_string Tryz.underlying9 h1
    cases hs; cases ht
    refine ⟨(s, t), rfl, ?_⟩
    rw [hx]
    simp [td, ds, dt]
theorem hadd (b off i j k : Nat) : ((⟨b, off, none⟩ : Addr).add (i * k)).add j = ⟨b, off + i * k + j, none⟩ := by
  unfold Addr.add
  split <;> split <;> simp_all
set_option maxRecDepth 100000 in
/-- The tags. -/
theorem open_tags {H : Type} {enc : TypeId × Value → H} {W : World} {n0 : Nat} {u : Value} {x : DataW H × List MemPlace} (h : DataW.trod enc Tryz.prog W 0 (fun _ => true) true n0 28 [u] = some x) :
    ∃ L : List Tg, Ti W u L ∧ (L = [] ∨ ∃ sp, x.1 = .slice (L.map td) sp) := by
  rcases open_slice Tryz.underlying28 h with ⟨hcs, rfl⟩ | ⟨a, len, cap, m, n, D, Pl, hcs, _, hl, _, hm, hx, hi⟩
  · cases hcs
    exact ⟨[], .inl ⟨_, _, rfl, rfl⟩, .inl rfl⟩
  · cases hcs
    have hm' : m = cap := by simpa using hm
    have key : ∀ i, ∃ y : Tg, i < len → D i = td y ∧ ∀ j v, (tc y)[j]? = some v → W.cell? ((a.add (i * 2)).add j) = some v := by
      intro i
      by_cases h0 : i < len
      · obtain ⟨cs, h1, h2⟩ := hi i (by omega)
        obtain ⟨_, hcl, hat⟩ := World.cells?_some h1
        rw [cells37] at hcl hat
        obtain ⟨y, hy, hd⟩ := tag_of hcl h2
        refine ⟨y, fun _ => ⟨hd, fun j v hj => ?_⟩⟩
        rw [hy] at hj
        have hj9 : j < 2 := by rw [← hcl]; exact (List.getElem?_eq_some_iff.1 hj).1
        have := hat j hj9
        rw [hj] at this
        exact this
      · exact ⟨t0, fun h => absurd h h0⟩
    obtain ⟨f, hf⟩ : ∃ f : Nat → Tg, ∀ i, i < len → D i = td (f i) ∧ ∀ j v, (tc (f i))[j]? = some v → W.cell? ((a.add (i * 2)).add j) = some v := ⟨fun i => Classical.choose (key i), fun i => Classical.choose_spec (key i)⟩
    have hlen : ((List.range len).map f).length = len := by simp
    refine ⟨(List.range len).map f, ?_, ?_⟩
    · by_cases h0 : len = 0
      · subst h0; exact .inl ⟨_, _, rfl, rfl⟩
      · obtain ⟨b, off, spot⟩ := a
        have hc0 := (hf 0 (by omega)).2 0 _ rfl
        have hspot : spot = none := by simpa [Addr.add] using World.cell?_spot hc0
        subst hspot
        refine .inr ⟨b, off, cap, by rw [hlen], by rw [hlen]; exact hl, by have := cell_lt hc0; rw [hadd] at this; exact this, fun i hi' => ?_⟩
        rw [hlen] at hi'
        have hg : ((List.range len).map f).getD i t0 = f i := by simp [List.getD_eq_getElem?_getD, hi']
        rw [hg]
        have g := (hf i hi').2
        have g0 := g 0 _ rfl
        have g1 := g 1 _ rfl
        rw [hadd] at g0 g1
        exact ⟨g0, g1⟩
    · refine .inr ⟨(List.range (m - len)).map (fun j => D (len + j)), ?_⟩
      rw [hx]
      have : (List.range len).map D = ((List.range len).map f).map td := by
        rw [List.map_map]
        exact List.map_congr_left fun i hi' => (hf i (List.mem_range.1 hi')).1
      simp only [this]
/-- Data of a series. -/
def Dser {H : Type} (d : DataW H) (nm : ByteArray) (L : List Tg) : Prop := ∃ d2, d = .agg [.lit (.string nm.data.toList), d2] ∧ (L = [] ∨ ∃ sp, d2 = .slice (L.map td) sp)
set_option maxRecDepth 100000 in
theorem open_ser {H : Type} {enc : TypeId × Value → H} {W : World} {v : Value} {d : DataW H} {ps : List MemPlace} (hv : ∃ cs, v = .agg cs ∧ cs.size = Tryz.prog.cellsOf 30) (h : DataW.Trod enc Tryz.prog W 0 (fun _ => true) true 30 v d ps) :
    ∃ (nm : ByteArray) (u : Value) (L : List Tg), v = .agg #[.string nm, u] ∧ Ti W u L ∧ Dser d nm L := by
  obtain ⟨cs, rfl, hsz⟩ := hv
  obtain ⟨fuel, hf0⟩ := h
  rw [cells24] at hsz
  obtain ⟨l⟩ := cs
  match l, hsz with
  | [e0, e1], _ =>
    simp only [Value.cells] at hf0
    obtain ⟨ys, m, _, hx, _, hyl, hf⟩ := DataW.trod_struct Tryz.underlying30 hf0
    have h0 := hf 0 { name := "Name", type := 9, offset := 0, embedded := false, tag := "", pkgPath := "", byteOffset := 0 } rfl
    have h1 := hf 1 { name := "Tags", type := 28, offset := 1, embedded := false, tag := "", pkgPath := "", byteOffset := 16 } rfl
    obtain ⟨z0, z1, rfl⟩ : ∃ z0 z1, ys = [z0, z1] := by
      match ys, hyl with
      | [z0, z1], _ => exact ⟨z0, z1, rfl⟩
    simp only [cells9', cells22, List.drop_zero, List.drop_succ_cons, List.take_succ_cons, List.take_zero, List.getElem?_cons_zero, List.getElem?_cons_succ] at h0 h1
    obtain ⟨s, hs, ds, _⟩ := DataW.trod_string Tryz.underlying9 h0
    cases hs
    obtain ⟨L, hL, hD⟩ := open_tags h1
    refine ⟨s, e1, L, rfl, hL, z1.1, ?_, hD⟩
    have := congrArg Prod.fst hx
    simp only at this
    rw [this]
    simp [ds]
/-! Sizes. -/
theorem weightsAll_mem {H : Type} {P : Program} {e : TypeId} : ∀ {es : List (DataW H)} {i : Nat} {d : DataW H}, es[i]? = some d → ∀ n ∈ d.weights P e, n ∈ DataW.weightsAll P e es
  | [], i, d, h, n, hn => by simp at h
  | x :: r, 0, d, h, n, hn => by
    simp only [List.getElem?_cons_zero, Option.some.injEq] at h
    subst h
    simp only [DataW.weightsAll, List.mem_append]
    exact .inl hn
  | x :: r, i + 1, d, h, n, hn => by
    simp only [List.getElem?_cons_succ] at h
    simp only [DataW.weightsAll, List.mem_append]
    exact .inr (weightsAll_mem h n hn)
def Sized {H : Type} (d : DataW H) (t : TypeId) : Prop := ∀ n ∈ d.weights Tryz.prog t, n ≤ reachBytes
theorem sized_of {H : Type} {ts : List TypeId} {ds : List (DataW H)} {d : DataW H} {t : TypeId} (j : Nat) (hsz : (DataW.weightsEach Tryz.prog ts ds).all (· ≤ reachBytes) = true) (ht : ts[j]? = some t) (hd : ds[j]? = some d) : Sized d t := fun n hn => by
  simpa using List.all_eq_true.1 hsz _ (DataW.weights_mem_each ht hd n hn)
theorem fields24 : ∃ fs, Tryz.prog.underlying 30 = some (.struct fs) ∧ (fs.toList.map (·.type)) = [9, 28] := ⟨_, Tryz.underlying30, rfl⟩
theorem fields37 : ∃ fs, Tryz.prog.underlying 36 = some (.struct fs) ∧ (fs.toList.map (·.type)) = [9, 9] := ⟨_, Tryz.underlying36, rfl⟩
theorem str_sized {H : Type} {s : ByteArray} (h : Sized (H := H) (.lit (.string s.data.toList)) 9) : s.size ≤ 140737488351232 := by
  have := h s.data.toList.length (by simp [DataW.weights])
  have e : s.data.toList.length = s.size := by simp
  rw [e] at this
  simpa [reachBytes] using this
theorem ser_sized {H : Type} {d : DataW H} {nm : ByteArray} {L : List Tg} (h : Dser d nm L) (hs : Sized d 30) : nm.size ≤ 140737488351232 ∧ L.length ≤ 140737488351232 ∧ ∀ x ∈ L, x.1.size ≤ 140737488351232 ∧ x.2.size ≤ 140737488351232 := by
  obtain ⟨d2, rfl, hL⟩ := h
  obtain ⟨fs, f1, f2⟩ := fields24
  have h1 : Sized (H := H) (.lit (.string nm.data.toList)) 9 := fun n hn => hs n (by
    simp only [DataW.weights, f1, f2]
    exact DataW.weights_mem_each (j := 0) rfl rfl n hn)
  refine ⟨str_sized h1, ?_⟩
  rcases hL with rfl | ⟨sp, rfl⟩
  · exact ⟨Nat.zero_le _, fun x hx => by cases hx⟩
  have h2 : Sized (H := H) (.slice (L.map td) sp) 28 := fun n hn => hs n (by
    simp only [DataW.weights, f1, f2]
    exact DataW.weights_mem_each (j := 1) rfl rfl n hn)
  refine ⟨?_, fun x hx => ?_⟩
  · have := h2 (((L.map (td (H := H))).length + sp.length) * Tryz.prog.bytesOf 36) (by simp [DataW.weights, Tryz.underlying28])
    rw [bytes37] at this
    simp only [reachBytes, List.length_map] at this
    omega
  · obtain ⟨i, hi, rfl⟩ := List.getElem_of_mem hx
    have h3 : Sized (H := H) (td L[i]) 36 := fun n hn => h2 n (by
      simp only [DataW.weights, Tryz.underlying28, List.mem_cons, List.mem_append]
      exact .inr (.inl (weightsAll_mem (i := i) (by simp [hi]) _ hn)))
    obtain ⟨gs, g1, g2⟩ := fields37
    refine ⟨str_sized (H := H) fun n hn => h3 n ?_, str_sized (H := H) fun n hn => h3 n ?_⟩
    · simp only [td, DataW.weights, g1, g2]
      exact DataW.weights_mem_each (j := 0) rfl rfl n hn
    · simp only [td, DataW.weights, g1, g2]
      exact DataW.weights_mem_each (j := 1) rfl rfl n hn
theorem str_bulk {H : Type} {s : ByteArray} : s.size ≤ Rows.uptoBulk (H := H) (.lit (.string s.data.toList)) := by
  simp only [Rows.uptoBulk, Array.length_toList]
  have e : s.size = s.data.size := rfl
  omega
theorem ser_bulk {H : Type} {d : DataW H} {nm : ByteArray} {L : List Tg} (h : Dser d nm L) : nm.size ≤ Rows.uptoBulk d ∧ L.length ≤ Rows.uptoBulk d ∧ ∀ x ∈ L, x.1.size ≤ Rows.uptoBulk d ∧ x.2.size ≤ Rows.uptoBulk d := by
  obtain ⟨d2, rfl, hL⟩ := h
  have h1 := str_bulk (H := H) (s := nm)
  have e1 : Rows.uptoBulk (H := H) (.agg [.lit (.string nm.data.toList), d2]) = 1 + (Rows.uptoBulk (H := H) (.lit (.string nm.data.toList)) + (Rows.uptoBulk d2 + 0)) := by simp [Rows.uptoBulk, Rows.uptoBulkAll]; omega
  rw [e1]
  refine ⟨by omega, ?_⟩
  rcases hL with rfl | ⟨sp, rfl⟩
  · exact ⟨Nat.zero_le _, fun x hx => by cases hx⟩
  have h2 := length_le (L.map (td (H := H)))
  rw [List.length_map] at h2
  simp only [Rows.uptoBulk]
  refine ⟨by omega, fun x hx => ?_⟩
  have h3 := bulk_mem (List.mem_map_of_mem (f := td (H := H)) hx)
  have h4 := str_bulk (H := H) (s := x.1)
  have h5 := str_bulk (H := H) (s := x.2)
  have e2 : Rows.uptoBulk (td (H := H) x) = 1 + (Rows.uptoBulk (H := H) (.lit (.string x.1.data.toList)) + (Rows.uptoBulk (H := H) (.lit (.string x.2.data.toList)) + 0)) := by simp [td, Rows.uptoBulk, Rows.uptoBulkAll]; omega
  rw [e2] at h3
  omega
end Ow
end Go.Proofs.YtalanjhpacjmmaaGreat
