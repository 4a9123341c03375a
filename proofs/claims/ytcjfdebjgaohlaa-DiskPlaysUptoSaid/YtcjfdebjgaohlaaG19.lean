import Derived.Test.YtcjfdebjgaohlaaG18
import Derived.Deep.Slices
import Derived.ChangeSame

/- What opens a script that came in. -/
namespace Go.Proofs.Ytcjfdebjgaohlaa
open Go.ChangeShapes Go.WideShapes Go.Deep Go.RowKit
namespace Zf
open Jb Jt Ju2 Ze

theorem cells31 : Try.prog.cellsOf 31 = 5 := by kernel_rfl
theorem cells3' : Try.prog.cellsOf 3 = 1 := by kernel_rfl
theorem cells9' : Try.prog.cellsOf 9 = 1 := by kernel_rfl
theorem cells29' : Try.prog.cellsOf 29 = 1 := by kernel_rfl
theorem getE_mem {α : Type} {l : List α} {i : Nat} {a : α} (h : l[i]? = some a) : a ∈ l := by
  obtain ⟨hi, rfl⟩ := List.getElem?_eq_some_iff.1 h
  exact List.getElem_mem hi
theorem bulk_sum {H α : Type} (f : Nat → α) (D : Nat → DataW H) (g : α → Nat) (l : List Nat) (h : ∀ i ∈ l, g (f i) ≤ Rows.uptoBulk (D i)) : ((l.map f).map g).sum ≤ Rows.uptoBulkAll (l.map D) := by
  induction l with
  | nil => simp [Rows.uptoBulkAll]
  | cons x r ih =>
    simp only [List.map_cons, List.sum_cons, Rows.uptoBulkAll]
    have := h x (by simp)
    have := ih (fun i hi => h i (by simp [hi]))
    omega
def c5 (x : Od) : List Value := [.int .i64 x.kd, .int .i64 x.n, .string x.nm, .string x.tn, x.v]
/-- The sizes of what a call holds. -/
def wt (x : Od) : Nat := x.nm.size + x.tn.size + x.bs.length
theorem str_bulk {H : Type} {s : ByteArray} {d : DataW H} (h : d = .lit (.string s.data.toList)) : s.size ≤ Rows.uptoBulk d := by
  subst h
  simp only [Rows.uptoBulk, Array.length_toList]
  have e : s.size = s.data.size := rfl
  omega
set_option maxRecDepth 100000 in
/-- One call of a script. -/
theorem open_od {H : Type} {enc : TypeId × Value → H} {W : World} {n : Nat} {cs : List Value} {x : DataW H × List MemPlace} (hl : cs.length = 5)
    (h : DataW.trod enc Try.prog W 0 (fun _ => true) true n 31 cs = some x) :
    ∃ y : Od, c5 y = cs ∧ (-9223372036854775808 ≤ y.n ∧ y.n ≤ 9223372036854775807) ∧ Src W (fun k => k < W.heap.size) y.v y.bs ∧ (∀ c, y.v = .slice none y.bs.length c → c = 0) ∧ (∀ z ∈ y.bs, z < 256) ∧ wt y ≤ Rows.uptoBulk x.1 := by
  obtain ⟨ys, m, _, hx, _, hyl, hf⟩ := DataW.trod_struct Try.underlying31 h
  match cs, hl with
  | [k0, k1, k2, k3, k4], _ =>
    have h0 := hf 0 { name := "Kind", type := 3, offset := 0, embedded := false, tag := "", pkgPath := "", byteOffset := 0 } rfl
    have h1 := hf 1 { name := "N", type := 3, offset := 1, embedded := false, tag := "", pkgPath := "", byteOffset := 8 } rfl
    have h2 := hf 2 { name := "Name", type := 9, offset := 2, embedded := false, tag := "", pkgPath := "", byteOffset := 16 } rfl
    have h3 := hf 3 { name := "To", type := 9, offset := 3, embedded := false, tag := "", pkgPath := "", byteOffset := 32 } rfl
    have h4 := hf 4 { name := "B", type := 29, offset := 4, embedded := false, tag := "", pkgPath := "", byteOffset := 48 } rfl
    obtain ⟨z0, z1, z2, z3, z4, rfl⟩ : ∃ z0 z1 z2 z3 z4, ys = [z0, z1, z2, z3, z4] := by
      match ys, hyl with
      | [z0, z1, z2, z3, z4], _ => exact ⟨z0, z1, z2, z3, z4, rfl⟩
    simp only [cells3', cells9', cells29', List.drop_zero, List.drop_succ_cons, List.take_succ_cons, List.take_zero, List.getElem?_cons_zero, List.getElem?_cons_succ] at h0 h1 h2 h3 h4
    obtain ⟨K, hK, _, _⟩ := DataW.trod_int Try.underlying3 h0
    obtain ⟨N, hN, _, wN⟩ := DataW.trod_int Try.underlying3 h1
    obtain ⟨s, hs, ds, _⟩ := DataW.trod_string Try.underlying9 h2
    obtain ⟨t, ht, dt, _⟩ := DataW.trod_string Try.underlying9 h3
    cases hK; cases hN; cases hs; cases ht
    have hsl : ∃ a l c, k4 = .slice a l c := by
      rcases Go.Deep.open_slice1 (e := 5) Try.underlying29 (by kernel_rfl) h4 with ⟨e, _⟩ | ⟨ad', l', c', _, _, _, _, _, e, _⟩
      · exact ⟨none, 0, 0, by simpa using e⟩
      · exact ⟨_, l', c', by simpa using e⟩
    obtain ⟨a', l, c, rfl⟩ := hsl
    obtain ⟨X, hP, hcp, hB, hL⟩ := open_bytes (enc := enc) (W := W) (v := .slice a' l c) (d := z4.1) (ps := z4.2) ⟨a', l, c, rfl⟩ ⟨m, by simpa [Value.cells] using h4⟩
    refine ⟨⟨K, N, s, t, .slice a' l c, X⟩, rfl, by
      have w1 := wN
      simp only [Lit.wf, Bool.and_eq_true, decide_eq_true_eq] at w1
      have q1 : IntKind.i64.min = -9223372036854775808 := by decide
      have q2 : IntKind.i64.max = 9223372036854775807 := by decide
      rw [q1, q2] at w1
      exact w1, src_lt hP, hcp, hB, ?_⟩
    rw [hx]
    have b2 := str_bulk (congrArg Prod.fst ds)
    have b3 := str_bulk (congrArg Prod.fst dt)
    have b4 : X.length ≤ Rows.uptoBulk z4.1 := by
      rcases hL with rfl | ⟨es, sp, e, el⟩
      · exact Nat.zero_le _
      · rw [e, el]
        have := length_le es
        simp only [Rows.uptoBulk]
        omega
    simp only [wt, Rows.uptoBulk, Rows.uptoBulkAll, List.map_cons, List.map_nil]
    omega
theorem hadd (b off i j k : Nat) : ((⟨b, off, none⟩ : Addr).add (i * k)).add j = ⟨b, off + i * k + j, none⟩ := by
  unfold Addr.add
  split <;> split <;> simp_all
set_option maxRecDepth 100000 in
/-- A script. -/
theorem open_script {H : Type} {enc : TypeId × Value → H} {W : World} {v : Value} {d : DataW H} {ps : List MemPlace} (hv : ∃ a len cap, v = .slice a len cap) (h : DataW.Trod enc Try.prog W 0 (fun _ => true) true 22 v d ps) (hb : Rows.uptoBulk d ≤ 1048576) :
    (∃ a c, v = .slice a 0 c) ∨ ∃ b off c L, v = .slice (some ⟨b, off, none⟩) L.length c ∧ b < W.heap.size ∧ (∀ i, i < L.length → OAt W b (off + i * 5) (L.getD i o0)) ∧ L.length ≤ c ∧ (∀ i, i < L.length → Fine W (L.getD i o0)) ∧ L.length ≤ 999999999 ∧ tb L ≤ 140737488355328 := by
  obtain ⟨a0, len0, cap0, rfl⟩ := hv
  obtain ⟨fuel, hf⟩ := h
  rcases open_slice Try.underlying22 hf with ⟨hcs, _⟩ | ⟨a, len, cap, m, n, D, Pl, hcs, _, hl, _, hm, hx, hi⟩
  · simp [Value.cells] at hcs
    obtain ⟨rfl, rfl, rfl⟩ := hcs
    exact .inl ⟨_, _, rfl⟩
  · simp [Value.cells] at hcs
    obtain ⟨rfl, rfl, rfl⟩ := hcs
    by_cases h00 : len0 = 0
    · subst h00; exact .inl ⟨_, _, rfl⟩
    have hm' : m = cap0 := by simpa using hm
    have hd : d = .slice ((List.range len0).map D) ((List.range (m - len0)).map fun j => D (len0 + j)) := congrArg Prod.fst hx
    have key : ∀ i, ∃ y : Od, i < len0 → ((-9223372036854775808 ≤ y.n ∧ y.n ≤ 9223372036854775807) ∧ Src W (fun k => k < W.heap.size) y.v y.bs ∧ (∀ c, y.v = .slice none y.bs.length c → c = 0) ∧ (∀ z ∈ y.bs, z < 256) ∧ wt y ≤ Rows.uptoBulk (D i)) ∧ ∀ j v, (c5 y)[j]? = some v → W.cell? ((a.add (i * 5)).add j) = some v := by
      intro i
      by_cases h0 : i < len0
      · obtain ⟨cs, h1, h2⟩ := hi i (by omega)
        obtain ⟨_, hcl, hat⟩ := World.cells?_some h1
        rw [cells31] at hcl hat
        obtain ⟨y, hy, hr⟩ := open_od hcl h2
        refine ⟨y, fun _ => ⟨hr, fun j v hj => ?_⟩⟩
        rw [hy] at hj
        have hj9 : j < 5 := by rw [← hcl]; exact (List.getElem?_eq_some_iff.1 hj).1
        have := hat j hj9
        rw [hj] at this
        exact this
      · exact ⟨o0, fun h => absurd h h0⟩
    obtain ⟨f, hf'⟩ : ∃ f : Nat → Od, ∀ i, i < len0 → ((-9223372036854775808 ≤ (f i).n ∧ (f i).n ≤ 9223372036854775807) ∧ Src W (fun k => k < W.heap.size) (f i).v (f i).bs ∧ (∀ c, (f i).v = .slice none (f i).bs.length c → c = 0) ∧ (∀ z ∈ (f i).bs, z < 256) ∧ wt (f i) ≤ Rows.uptoBulk (D i)) ∧ ∀ j v, (c5 (f i))[j]? = some v → W.cell? ((a.add (i * 5)).add j) = some v := ⟨fun i => Classical.choose (key i), fun i => Classical.choose_spec (key i)⟩
    have hlen : ((List.range len0).map f).length = len0 := by simp
    have hget : ∀ i, i < len0 → ((List.range len0).map f).getD i o0 = f i := fun i hi' => by simp [List.getD_eq_getElem?_getD, hi']
    have hS := bulk_sum f D wt (List.range len0) (fun i hi' => (hf' i (List.mem_range.1 hi')).1.2.2.2.2)
    have hN := length_le ((List.range len0).map D)
    rw [List.length_map, List.length_range] at hN
    rw [hd] at hb
    simp only [Rows.uptoBulk] at hb
    have hW : ∀ l : List Od, tb l ≤ (l.map wt).sum ∧ ∀ y ∈ l, wt y ≤ (l.map wt).sum := by
      intro l
      induction l with
      | nil => exact ⟨Nat.le_refl _, fun y hy => by cases hy⟩
      | cons z r ih =>
        obtain ⟨i1, i2⟩ := ih
        simp only [tb, List.map_cons, List.sum_cons] at i1 ⊢
        refine ⟨by unfold wt at *; omega, fun y hy => ?_⟩
        rcases List.mem_cons.1 hy with rfl | hy
        · omega
        · have := i2 y hy; omega
    obtain ⟨hT, hY⟩ := hW ((List.range len0).map f)
    obtain ⟨b, off, spot⟩ := a
    have hc0 := (hf' 0 (by omega)).2 0 _ rfl
    have hspot : spot = none := by simpa [Addr.add] using World.cell?_spot hc0
    subst hspot
    refine .inr ⟨b, off, cap0, (List.range len0).map f, by rw [hlen], by have := cell_lt hc0; rw [hadd] at this; exact this, fun i hi' => ?_, by rw [hlen]; exact hl, fun i hi' => ?_, by rw [hlen]; omega, by omega⟩
    · rw [hlen] at hi'
      rw [hget i hi']
      have g := (hf' i hi').2
      have g0 := g 0 _ rfl
      have g1 := g 1 _ rfl
      have g2 := g 2 _ rfl
      have g3 := g 3 _ rfl
      have g4 := g 4 _ rfl
      rw [hadd] at g0 g1 g2 g3 g4
      exact ⟨g0, g1, g2, g3, g4⟩
    · rw [hlen] at hi'
      rw [hget i hi']
      obtain ⟨q1, q2, q3, q4, q5⟩ := (hf' i hi').1
      have hy := hY (f i) (List.mem_map_of_mem (List.mem_range.2 hi'))
      have e : wt (f i) = (f i).nm.size + (f i).tn.size + (f i).bs.length := rfl
      exact ⟨q1, by omega, by omega, q2, q3, q4⟩
theorem bnd64 {n : Int} (h : (Lit.int .i64 n).wf = true) : -9223372036854775808 ≤ n ∧ n ≤ 9223372036854775807 := by
  simp only [Lit.wf, Bool.and_eq_true, decide_eq_true_eq] at h
  have h1 : IntKind.i64.min = -9223372036854775808 := by decide
  have h2 : IntKind.i64.max = 9223372036854775807 := by decide
  omega
/-- The law, for any script that came in. -/
theorem law (w : World) (room : Int) (hr : -9223372036854775808 ≤ room ∧ room ≤ 9223372036854775807) (v : Value)
    (h : (∃ a c, v = .slice a 0 c) ∨ ∃ b off c L, v = .slice (some ⟨b, off, none⟩) L.length c ∧ b < w.heap.size ∧ (∀ i, i < L.length → OAt w b (off + i * 5) (L.getD i o0)) ∧ L.length ≤ c ∧ (∀ i, i < L.length → Fine w (L.getD i o0)) ∧ L.length ≤ 999999999 ∧ tb L ≤ 140737488355328) :
    Calls Try.prog 3 #[.int .i64 room, v] w fun e w' => e = .returned (.bool true) ∧ Below w.heap.size w w' := by
  rcases h with ⟨a, c, rfl⟩ | ⟨b, off, c, L, rfl, h1, h2, h3, h4, h5, h6⟩
  · exact plays_none w room hr a c
  · exact plays3 w room hr b off c L h1 h2 h3 h4 h5 h6
end Zf
end Go.Proofs.Ytcjfdebjgaohlaa
