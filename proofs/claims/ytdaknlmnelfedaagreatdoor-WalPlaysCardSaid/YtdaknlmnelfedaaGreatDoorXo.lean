/- What opens a script that came in. -/
import Derived.Test.YtdaknlmnelfedaaGreatDoorVz
import Derived.Test.YtdaknlmnelfedaaGreatDoorX16
namespace Go.Proofs.YtdaknlmnelfedaaGreatDoor
open Go.ChangeShapes Go.WideShapes Go.ChangeAt Go.RowKit
namespace Xo
open Jb Jt Jd V1 V2 Vg Vo X14 X16

theorem cells38 : Tryz.prog.cellsOf 38 = 3 := by kernel_rfl
theorem cells36 : Tryz.prog.cellsOf 36 = 1 := by kernel_rfl
theorem cells3 : Tryz.prog.cellsOf 3 = 1 := by kernel_rfl
theorem bytes38 : Tryz.prog.bytesOf 38 = 40 := by kernel_rfl
theorem bytes36 : Tryz.prog.bytesOf 36 = 24 := by kernel_rfl
set_option maxRecDepth 100000 in
/-- One call of a script. -/
theorem open_op {H : Type} {enc : TypeId × Value → H} {W : World} {a : Addr} {i n : Nat} {cs : List Value} {x : DataW H × List MemPlace} (hc : W.cells? 0 (a.add (i * Tryz.prog.cellsOf 38)) (Tryz.prog.cellsOf 38) = some cs)
    (h : DataW.trod enc Tryz.prog W 0 (fun _ => true) true n 38 cs = some x) : ∃ (K N : Int) (bs : List Nat) (b : Option Addr) (cc : Nat), W.cell? ((a.add (i * 3)).add 0) = some (.int .i64 K) ∧ W.cell? ((a.add (i * 3)).add 1) = some (.int .i64 N) ∧ W.cell? ((a.add (i * 3)).add 2) = some (.slice b bs.length cc) ∧
      Src W (fun k => k < W.heap.size) (.slice b bs.length cc) bs ∧ (b = none → cc = 0) ∧ (∀ y ∈ bs, y < 256) ∧ ∃ parts, x.1 = .agg parts ∧ (bs = [] ∨ ∃ es sp, parts[2]? = some (.slice es sp) ∧ bs.length = es.length) := by
  obtain ⟨_, hcl, hat⟩ := World.cells?_some hc
  rw [cells38] at hcl hat
  obtain ⟨ys, m, _, hx, _, hyl, hf⟩ := DataW.trod_struct Tryz.underlying38 h
  match cs, hcl with
  | [k0, k1, k2], _ =>
    have h0 := hf 0 { name := "Kind", type := 3, offset := 0, embedded := false, tag := "", pkgPath := "", byteOffset := 0 } rfl
    have h1 := hf 1 { name := "N", type := 3, offset := 1, embedded := false, tag := "", pkgPath := "", byteOffset := 8 } rfl
    have h2 := hf 2 { name := "B", type := 36, offset := 2, embedded := false, tag := "", pkgPath := "", byteOffset := 16 } rfl
    have e2 : ys[2]? = some (ys[2]'(by rw [hyl]; decide)) := List.getElem?_eq_getElem (by rw [hyl]; decide)
    rw [List.getElem?_eq_getElem (by rw [hyl]; decide)] at h0 h1 h2
    simp only [cells3, cells36, List.drop_zero, List.drop_succ_cons, List.take_succ_cons, List.take_zero] at h0 h1 h2
    obtain ⟨K, hK, _, _⟩ := DataW.trod_int Tryz.underlying3 h0
    obtain ⟨N, hN, _, _⟩ := DataW.trod_int Tryz.underlying3 h1
    cases hK; cases hN
    have hsl : ∃ a l c, k2 = .slice a l c := by
      rcases Go.Deep.open_slice1 (e := 5) Tryz.underlying36 (by kernel_rfl) h2 with ⟨e, _⟩ | ⟨ad', l', c', _, _, _, _, _, e, _⟩
      · exact ⟨none, 0, 0, by simpa using e⟩
      · exact ⟨_, l', c', by simpa using e⟩
    obtain ⟨a', l, c, rfl⟩ := hsl
    obtain ⟨X, hP, hcp, hB, hL⟩ := open_bytes (enc := enc) (W := W) (v := .slice a' l c) (d := (ys[2]'(by rw [hyl]; decide)).1) (ps := (ys[2]'(by rw [hyl]; decide)).2) ⟨a', l, c, rfl⟩ ⟨m, by simpa [Value.cells] using h2⟩
    obtain ⟨b, cc, hV⟩ := hP.forms
    rw [hV] at hat hP hcp
    refine ⟨K, N, X, b, cc, hat 0 (by decide), hat 1 (by decide), hat 2 (by decide), src_lt hP, fun e => hcp cc (by rw [e]), hB, ys.map (·.1), by rw [hx], ?_⟩
    rcases hL with e | ⟨es, sp, e, el⟩
    · exact .inl e
    · exact .inr ⟨es, sp, by rw [List.getElem?_map, e2]; simp [e], el⟩
theorem weightsAll_mem {H : Type} {P : Program} {e : TypeId} : ∀ {es : List (DataW H)} {i : Nat} {d : DataW H}, es[i]? = some d → ∀ n ∈ d.weights P e, n ∈ DataW.weightsAll P e es
  | [], i, d, h, n, hn => by simp at h
  | x :: r, 0, d, h, n, hn => by
    simp only [List.getElem?_cons_zero, Option.some.injEq] at h
    subst h
    simp only [DataW.weightsAll, List.mem_append]
    exact .inl hn
  | x :: r, i + 1, d, h, n, hn => by
    simp only [List.getElem?_cons_succ] at h
    simp only [DataW.weightsAll, List.mem_append]
    exact .inr (weightsAll_mem h n hn)
theorem fields38 : ∃ fs, Tryz.prog.underlying 38 = some (.struct fs) ∧ (fs.toList.map (·.type)) = [3, 3, 36] := ⟨_, Tryz.underlying38, rfl⟩
/-- Each inner slice of bytes is bounded. -/
theorem reach_op {H : Type} {es sp : List (DataW H)} {i : Nat} {parts : List (DataW H)} {l : Nat} {ts : List TypeId} {ds : List (DataW H)} (hsz : (DataW.weightsEach Tryz.prog ts ds).all (· ≤ reachBytes) = true) {j : Nat} (ht : ts[j]? = some 22) (hd : ds[j]? = some (.slice es sp)) (hi : es[i]? = some (.agg parts)) (hp : ∃ es' sp', parts[2]? = some (.slice es' sp') ∧ l = es'.length) : l ≤ 140737488351232 := by
  obtain ⟨es', sp', h2, rfl⟩ := hp
  have h1 : (es'.length + sp'.length) * Tryz.prog.bytesOf 5 ∈ DataW.weightsEach Tryz.prog [3, 3, 36] parts := DataW.weights_mem_each (j := 2) rfl h2 _ (by simp [DataW.weights, Tryz.underlying36])
  have h3 : (es'.length + sp'.length) * Tryz.prog.bytesOf 5 ∈ (DataW.agg parts).weights Tryz.prog 38 := by
    obtain ⟨fs, f1, f2⟩ := fields38
    simp only [DataW.weights, f1, f2]
    exact h1
  have h4 := weightsAll_mem hi _ h3
  have h5 : (es'.length + sp'.length) * Tryz.prog.bytesOf 5 ∈ (DataW.slice es sp).weights Tryz.prog 22 := by
    simp only [DataW.weights, Tryz.underlying22, List.mem_cons, List.mem_append]
    exact .inr (.inl h4)
  have h6 : (es'.length + sp'.length) * Tryz.prog.bytesOf 5 ≤ reachBytes := by simpa using List.all_eq_true.1 hsz _ (DataW.weights_mem_each ht hd _ h5)
  rw [bytes5] at h6
  simp only [reachBytes] at h6
  omega
theorem open_script {H : Type} {enc : TypeId × Value → H} {W : World} {v : Value} {d : DataW H} {ps : List MemPlace} (hv : ∃ a len cap, v = .slice a len cap) (h : DataW.Trod enc Tryz.prog W 0 (fun _ => true) true 22 v d ps) :
    ∃ xs : List (Int × Int × List Nat), BO W v xs ∧ (∀ x ∈ xs, ∀ y ∈ x.2.2, y < 256) ∧ (∀ {ts : List TypeId} {ds : List (DataW H)} {j : Nat}, (DataW.weightsEach Tryz.prog ts ds).all (· ≤ reachBytes) = true → ts[j]? = some 22 → ds[j]? = some d → xs.length ≤ 140737488351232 ∧ ∀ x ∈ xs, x.2.2.length ≤ 140737488351232) := by
  obtain ⟨a0, len0, cap0, rfl⟩ := hv
  obtain ⟨fuel, hf⟩ := h
  rcases Go.Deep.open_slice Tryz.underlying22 hf with ⟨hcs, _⟩ | ⟨a, len, cap, m, n, D, Pl, hcs, _, hl, _, hm, hx, hi⟩
  · simp [Value.cells] at hcs
    obtain ⟨rfl, rfl, rfl⟩ := hcs
    exact ⟨[], .inl ⟨rfl, _, _, rfl⟩, by simp, fun _ _ _ => ⟨by simp, by simp⟩⟩
  · simp [Value.cells] at hcs
    obtain ⟨rfl, rfl, rfl⟩ := hcs
    have hml : len0 ≤ m := by rw [hm]; split <;> omega
    have key : ∀ i, i < len0 → ∃ y : Int × Int × List Nat, ∃ (b : Option Addr) (cc : Nat), W.cell? ((a.add (i * 3)).add 0) = some (.int .i64 y.1) ∧ W.cell? ((a.add (i * 3)).add 1) = some (.int .i64 y.2.1) ∧ W.cell? ((a.add (i * 3)).add 2) = some (.slice b y.2.2.length cc) ∧
        Src W (fun k => k < W.heap.size) (.slice b y.2.2.length cc) y.2.2 ∧ (b = none → cc = 0) ∧ (∀ z ∈ y.2.2, z < 256) ∧ ∃ parts, D i = .agg parts ∧ (y.2.2 = [] ∨ ∃ es sp, parts[2]? = some (.slice es sp) ∧ y.2.2.length = es.length) := by
      intro i hi0
      obtain ⟨cs, h1, h2⟩ := hi i (by omega)
      obtain ⟨K, N, bs, b, cc, q⟩ := open_op h1 h2
      exact ⟨(K, N, bs), b, cc, q⟩
    obtain ⟨f, hf'⟩ := Go.Deep.choose_lt key
    have hlen : ((List.range len0).map f).length = len0 := by simp
    have hd : d = .slice ((List.range len0).map D) ((List.range (m - len0)).map fun j => D (len0 + j)) := congrArg Prod.fst hx
    refine ⟨(List.range len0).map f, ?_, ?_, ?_⟩
    · by_cases h0 : len0 = 0
      · subst h0; exact .inl ⟨by simp, _, _, rfl⟩
      · obtain ⟨b, off, spot⟩ := a
        have hc0 := (hf' 0 (by omega)).choose_spec.choose_spec.1
        have hspot : spot = none := by simpa [Addr.add] using World.cell?_spot hc0
        subst hspot
        have hadd : ∀ i j, ((⟨b, off, none⟩ : Addr).add (i * 3)).add j = ⟨b, off + i * 3 + j, none⟩ := by
          intro i j
          unfold Addr.add
          split <;> split <;> simp_all
        refine .inr ⟨b, off, cap0, by rw [hlen], by omega, by have := cell_lt hc0; rw [hadd] at this; exact this, fun i hi' => ?_⟩
        rw [hlen] at hi'
        obtain ⟨bb, cc, g0, g1, g2, g3, g4, _⟩ := hf' i hi'
        have e : ((List.range len0).map f)[i]'(by rw [hlen]; exact hi') = f i := by simp
        rw [hadd] at g0 g1 g2
        rw [e]
        exact ⟨bb, cc, ⟨g0, g1, g2⟩, g3, g4⟩
    · intro x hx'
      obtain ⟨i, hi', rfl⟩ := List.mem_map.1 hx'
      obtain ⟨_, _, _, _, _, _, _, g, _⟩ := hf' i (List.mem_range.1 hi')
      exact g
    · intro ts ds j hsz ht hdj
      rw [hd] at hdj
      refine ⟨?_, fun x hx' => ?_⟩
      · have := sized_slice hsz ht hdj Tryz.underlying22
        rw [bytes38] at this
        simp only [reachBytes, List.length_map, List.length_range] at this
        rw [hlen]; omega
      · obtain ⟨i, hi', rfl⟩ := List.mem_map.1 hx'
        obtain ⟨_, _, _, _, _, _, _, _, parts, hp, hq⟩ := hf' i (List.mem_range.1 hi')
        rcases hq with e | hq
        · rw [e]; simp
        · exact reach_op hsz ht hdj (i := i) (by rw [List.getElem?_map, List.getElem?_range (List.mem_range.1 hi')]; simp [hp]) hq
end Xo
end Go.Proofs.YtdaknlmnelfedaaGreatDoor
