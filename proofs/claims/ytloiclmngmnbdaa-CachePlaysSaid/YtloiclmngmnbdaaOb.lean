/- Calls and a point that came in. -/
import Derived.Test.YtloiclmngmnbdaaOa
import Derived.Test.YtloiclmngmnbdaaRf
namespace Go.Proofs.Ytloiclmngmnbdaa
open Go.ChangeShapes Go.WideShapes Go.Deep
namespace Ob
open Jb Ca Ck Jt Di Oa Rf

theorem cells34 : Try.prog.cellsOf 34 = 9 := by kernel_rfl
theorem bytes34 : Try.prog.bytesOf 34 = 96 := by kernel_rfl
set_option maxRecDepth 100000 in
/-- One point, by its cells. -/
theorem pnt_of {H : Type} {enc : TypeId × Value → H} {W : World} {n : Nat} {c0 c1 c2 c3 : Value} {x : DataW H × List MemPlace}
    (h : DataW.trod enc Try.prog W 0 (fun _ => true) true n 32 [c0, c1, c2, c3] = some x) : ∃ y : Pnt, Wp y ∧ pc y = [c0, c1, c2, c3] := by
  obtain ⟨ys, m, _, _, _, hyl, hf⟩ := DataW.trod_struct Try.underlying32 h
  have h0 := hf 0 { name := "Time", type := 2, offset := 0, embedded := false, tag := "", pkgPath := "", byteOffset := 0 } rfl
  have h1 := hf 1 { name := "Value", type := 30, offset := 1, embedded := false, tag := "", pkgPath := "", byteOffset := 8 } rfl
  rw [List.getElem?_eq_getElem (by rw [hyl]; decide)] at h0 h1
  simp only [cells2', cells35, List.drop_zero, List.drop_succ_cons, List.take_succ_cons, List.take_zero] at h0 h1
  obtain ⟨t, ht, _, wt⟩ := DataW.trod_int Try.underlying2 h0
  obtain ⟨y, hy, hvc⟩ := val_of h1
  cases ht
  exact ⟨(t, y), ⟨bnd64 wt, hy⟩, by unfold pc; simp only [hvc]⟩
/-- A call whose texts and point are right. -/
def Wo (o : Oc) : Prop := ok o.s ∧ Wp o.p
def o0 : Oc := ⟨0, (⟨#[]⟩, ⟨#[]⟩), p0, 0, 0⟩
instance : Inhabited Oc := ⟨o0⟩
theorem weightsAll_mem {H : Type} {P : Program} {e : TypeId} : ∀ {es : List (DataW H)} {i : Nat} {d : DataW H}, es[i]? = some d → ∀ n ∈ d.weights P e, n ∈ DataW.weightsAll P e es
  | [], i, d, h, n, hn => by simp at h
  | x :: r, 0, d, h, n, hn => by
    simp only [List.getElem?_cons_zero, Option.some.injEq] at h
    subst h
    simp only [DataW.weightsAll, List.mem_append]
    exact .inl hn
  | x :: r, i + 1, d, h, n, hn => by
    simp only [List.getElem?_cons_succ] at h
    simp only [DataW.weightsAll, List.mem_append]
    exact .inr (weightsAll_mem h n hn)
theorem fields34 : ∃ fs, Try.prog.underlying 34 = some (.struct fs) ∧ (fs.toList.map (·.type)) = [3, 9, 9, 32, 2, 2] := ⟨_, Try.underlying34, rfl⟩
/-- The weights that bind a slice of calls. -/
def Sized {H : Type} (d : DataW H) (t : TypeId) : Prop := ∀ n ∈ d.weights Try.prog t, n ≤ reachBytes
theorem sized_of {H : Type} {ts : List TypeId} {ds : List (DataW H)} {d : DataW H} {t : TypeId} (j : Nat) (hsz : (DataW.weightsEach Try.prog ts ds).all (· ≤ reachBytes) = true) (ht : ts[j]? = some t) (hd : ds[j]? = some d) : Sized d t := fun n hn => by
  simpa using List.all_eq_true.1 hsz _ (DataW.weights_mem_each ht hd n hn)
set_option maxRecDepth 100000 in
/-- One call, by its cells. -/
theorem op_of {H : Type} {enc : TypeId × Value → H} {W : World} {n : Nat} {cs : List Value} {x : DataW H × List MemPlace} (hl : cs.length = 9)
    (h : DataW.trod enc Try.prog W 0 (fun _ => true) true n 34 cs = some x) (hs : Sized x.1 34) : ∃ o : Oc, Wo o ∧ opc o = cs := by
  obtain ⟨ys, m, _, hx, _, hyl, hf⟩ := DataW.trod_struct Try.underlying34 h
  match cs, hl with
  | [c0, c1, c2, c3, c4, c5, c6, c7, c8], _ =>
    have h0 := hf 0 { name := "Kind", type := 3, offset := 0, embedded := false, tag := "", pkgPath := "", byteOffset := 0 } rfl
    have h1 := hf 1 { name := "Series", type := 9, offset := 1, embedded := false, tag := "", pkgPath := "", byteOffset := 8 } rfl
    have h2 := hf 2 { name := "Field", type := 9, offset := 2, embedded := false, tag := "", pkgPath := "", byteOffset := 24 } rfl
    have h3 := hf 3 { name := "P", type := 32, offset := 3, embedded := false, tag := "", pkgPath := "", byteOffset := 40 } rfl
    have h4 := hf 4 { name := "From", type := 2, offset := 7, embedded := false, tag := "", pkgPath := "", byteOffset := 80 } rfl
    have h5 := hf 5 { name := "To", type := 2, offset := 8, embedded := false, tag := "", pkgPath := "", byteOffset := 88 } rfl
    have e1 : ys[1]? = some (ys[1]'(by rw [hyl]; decide)) := List.getElem?_eq_getElem (by rw [hyl]; decide)
    have e2 : ys[2]? = some (ys[2]'(by rw [hyl]; decide)) := List.getElem?_eq_getElem (by rw [hyl]; decide)
    rw [List.getElem?_eq_getElem (by rw [hyl]; decide)] at h0 h1 h2 h3 h4 h5
    simp only [cells2', cells3', cells9, cells49, List.drop_zero, List.drop_succ_cons, List.take_succ_cons, List.take_zero] at h0 h1 h2 h3 h4 h5
    obtain ⟨k, hk, _, _⟩ := DataW.trod_int Try.underlying3 h0
    obtain ⟨s, hs1, q1, _⟩ := DataW.trod_string Try.underlying9 h1
    obtain ⟨f, hs2, q2, _⟩ := DataW.trod_string Try.underlying9 h2
    obtain ⟨y, hy, hpc⟩ := pnt_of h3
    obtain ⟨a, ha, _, _⟩ := DataW.trod_int Try.underlying2 h4
    obtain ⟨b, hb, _, _⟩ := DataW.trod_int Try.underlying2 h5
    cases hk; cases hs1; cases hs2; cases ha; cases hb
    have key : ∀ (j : Nat) (s : ByteArray), [3, 9, 9, 32, 2, 2][j]? = some 9 → (ys.map (·.1))[j]? = some (.lit (.string s.data.toList)) → s.size ≤ 140737488355328 := by
      intro j s hj hd
      have g1 : s.data.toList.length ∈ DataW.weightsEach Try.prog [3, 9, 9, 32, 2, 2] (ys.map (·.1)) := DataW.weights_mem_each hj hd _ (by simp [DataW.weights])
      have g2 := hs s.data.toList.length (by
        rw [hx]
        obtain ⟨fs, f1, f2⟩ := fields34
        simp only [DataW.weights, f1, f2]
        exact g1)
      simp only [reachBytes, Array.length_toList] at g2
      exact Nat.le_trans g2 (by decide)
    refine ⟨⟨k, (s, f), y, a, b⟩, ⟨⟨key 1 s rfl ?_, key 2 f rfl ?_⟩, hy⟩, ?_⟩
    · rw [List.getElem?_map, e1]; simp [q1]
    · rw [List.getElem?_map, e2]; simp [q2]
    · unfold pc at hpc
      unfold vc at hpc
      simp only [List.cons.injEq] at hpc
      obtain ⟨r0, r1, r2, r3, _⟩ := hpc
      unfold opc
      simp only
      rw [r0, r1, r2, r3]
/-- The cells of a call. -/
def OAt (w : World) (b off : Nat) (o : Oc) : Prop := ∀ j u, (opc o)[j]? = some u → w.cell? ⟨b, off + j, none⟩ = some u
theorem OAt.of_block {w w' : World} {b off : Nat} {o : Oc} (h : OAt w b off o) (e : w'.heap[b]? = w.heap[b]?) : OAt w' b off o := fun j u hj => (World.cell?_of_block e).trans (h j u hj)
/-- Calls in memory. -/
def Oi (w : World) (v : Value) (T : List Oc) : Prop :=
  (∀ x ∈ T, Wo x) ∧ ((∃ a c, v = .slice a 0 c ∧ T = []) ∨
    ∃ b off c, v = .slice (some ⟨b, off, none⟩) T.length c ∧ T.length ≤ c ∧ b < w.heap.size ∧ ∀ i, i < T.length → OAt w b (off + i * 9) (T.getD i o0))
theorem Oi.forms {w : World} {v : Value} {X : List Oc} (h : Oi w v X) : ∃ a c, v = .slice a X.length c := by
  rcases h.2 with ⟨a, c, rfl, rfl⟩ | ⟨b, off, c, rfl, _⟩
  · exact ⟨a, c, rfl⟩
  · exact ⟨_, _, rfl⟩
theorem reach_all {H : Type} {es sp : List (DataW H)} {i : Nat} {d : DataW H} (hs : Sized (.slice es sp) 22) (hi : es[i]? = some d) : Sized d 34 := fun n hn => hs n (by
  simp only [DataW.weights, Try.underlying22, List.mem_cons, List.mem_append]
  exact .inr (.inl (weightsAll_mem hi _ hn)))
set_option maxRecDepth 100000 in
theorem open_ops {H : Type} {enc : TypeId × Value → H} {W : World} {v : Value} {d : DataW H} {ps : List MemPlace} (hs : Sized d 22) (hv : ∃ a len cap, v = .slice a len cap) (h : DataW.Trod enc Try.prog W 0 (fun _ => true) true 22 v d ps) :
    ∃ T : List Oc, Oi W v T ∧ T.length ≤ 140737488350000 := by
  obtain ⟨a0, len0, cap0, rfl⟩ := hv
  obtain ⟨fuel, hf⟩ := h
  rcases open_slice Try.underlying22 hf with ⟨hcs, _⟩ | ⟨a, len, cap, m, n, D, Pl, hcs, _, hl, _, hm, hx, hi⟩
  · simp [Value.cells] at hcs
    obtain ⟨rfl, rfl, rfl⟩ := hcs
    exact ⟨[], ⟨by simp, .inl ⟨_, _, rfl, rfl⟩⟩, by simp⟩
  · simp [Value.cells] at hcs
    obtain ⟨rfl, rfl, rfl⟩ := hcs
    have hm' : m = cap0 := by simpa using hm
    have hd : d = .slice ((List.range len0).map D) ((List.range (m - len0)).map fun j => D (len0 + j)) := congrArg Prod.fst hx
    have key : ∀ i, i < len0 → ∃ y : Oc, Wo y ∧ ∀ j u, (opc y)[j]? = some u → W.cell? ((a.add (i * 9)).add j) = some u := by
      intro i h0
      obtain ⟨cs, h1, h2⟩ := hi i (by omega)
      obtain ⟨_, hcl, hat⟩ := World.cells?_some h1
      rw [cells34] at hcl hat
      rw [hd] at hs
      obtain ⟨y, hy, hc⟩ := op_of hcl h2 (reach_all hs (i := i) (by rw [List.getElem?_map, List.getElem?_range h0]; rfl))
      refine ⟨y, hy, fun j u hj => ?_⟩
      rw [hc] at hj
      have hj9 : j < 9 := by
        rw [← hcl]
        exact (List.getElem?_eq_some_iff.1 hj).1
      have := hat j hj9
      rw [hj] at this
      exact this
    obtain ⟨f, hf'⟩ := Go.Deep.choose_lt key
    have hlen : ((List.range len0).map f).length = len0 := by simp
    refine ⟨(List.range len0).map f, ⟨?_, ?_⟩, ?_⟩
    · intro y hy
      obtain ⟨i, hi', rfl⟩ := List.mem_map.1 hy
      exact (hf' i (List.mem_range.1 hi')).1
    · by_cases h0 : len0 = 0
      · subst h0; exact .inl ⟨_, _, rfl, rfl⟩
      · obtain ⟨b, off, spot⟩ := a
        have hc0 := (hf' 0 (by omega)).2 0 _ rfl
        have hspot : spot = none := by simpa [Addr.add] using World.cell?_spot hc0
        subst hspot
        have hadd : ∀ i j, ((⟨b, off, none⟩ : Addr).add (i * 9)).add j = ⟨b, off + i * 9 + j, none⟩ := by
          intro i j
          unfold Addr.add
          split <;> split <;> simp_all
        refine .inr ⟨b, off, cap0, by rw [hlen], by rw [hlen]; exact hl, by have := cell_lt hc0; rw [hadd] at this; exact this, fun i hi' j u hj => ?_⟩
        rw [hlen] at hi'
        have hg : ((List.range len0).map f).getD i o0 = f i := by simp [List.getD_eq_getElem?_getD, hi']
        rw [hg] at hj
        have g := (hf' i hi').2 j u hj
        rw [hadd] at g
        exact g
    · rw [hlen]
      have := hs ((((List.range len0).map D).length + ((List.range (m - len0)).map fun j => D (len0 + j)).length) * Try.prog.bytesOf 34) (by rw [hd]; simp [DataW.weights, Try.underlying22])
      rw [bytes34] at this
      simp only [reachBytes, List.length_map, List.length_range] at this
      omega
set_option maxRecDepth 100000 in
/-- A point handed in. -/
theorem open_one {H : Type} {enc : TypeId × Value → H} {W : World} {v : Value} {d : DataW H} {ps : List MemPlace} (hv : ∃ c0 c1 c2 c3, v = .agg #[c0, c1, c2, c3]) (h : DataW.Trod enc Try.prog W 0 (fun _ => true) true 32 v d ps) : ∃ p : Pnt, Wp p ∧ v = pa p := by
  obtain ⟨c0, c1, c2, c3, rfl⟩ := hv
  obtain ⟨fuel, hf⟩ := h
  obtain ⟨y, hy, hc⟩ := pnt_of (by simpa [Value.cells] using hf)
  refine ⟨y, hy, ?_⟩
  unfold pc at hc
  unfold vc at hc
  simp only [List.cons.injEq] at hc
  obtain ⟨rfl, rfl, rfl, rfl, _⟩ := hc
  rfl
end Ob
end Go.Proofs.Ytloiclmngmnbdaa
