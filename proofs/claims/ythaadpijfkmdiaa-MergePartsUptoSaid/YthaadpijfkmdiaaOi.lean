/- Files that came in. -/
import Derived.Test.YthaadpijfkmdiaaJt
import Derived.Test.YthaadpijfkmdiaaLa
import Derived.Deep.Slices
import Derived.ChangeSame
namespace Go.Proofs.Ythaadpijfkmdiaa
open Go.ChangeShapes Go.WideShapes Go.Deep
namespace Oi
open Jb La Jt

theorem bnd64 {n : Int} (h : (Lit.int .i64 n).wf = true) : -9223372036854775808 ≤ n ∧ n ≤ 9223372036854775807 := by
  simp only [Lit.wf, Bool.and_eq_true, decide_eq_true_eq] at h
  have h1 : IntKind.i64.min = -9223372036854775808 := by decide
  have h2 : IntKind.i64.max = 9223372036854775807 := by decide
  omega
theorem cells53 : Try.prog.cellsOf 53 = 2 := by kernel_rfl
theorem bytes53 : Try.prog.bytesOf 53 = 16 := by kernel_rfl
theorem cells3' : Try.prog.cellsOf 3 = 1 := by kernel_rfl
theorem cells4' : Try.prog.cellsOf 4 = 1 := by kernel_rfl
set_option maxRecDepth 100000 in
/-- One file, by its cells. -/
theorem inf_of {H : Type} {enc : TypeId × Value → H} {W : World} {n : Nat} {cs : List Value} {x : DataW H × List MemPlace} (hl : cs.length = 2)
    (h : DataW.trod enc Try.prog W 0 (fun _ => true) true n 53 cs = some x) : ∃ y : Inf, Wi y ∧ fc y = cs := by
  obtain ⟨ys, m, _, _, _, hyl, hf⟩ := DataW.trod_struct Try.underlying53 h
  match cs, hl with
  | [c0, c1], _ =>
    have h0 := hf 0 { name := "Level", type := 3, offset := 0, embedded := false, tag := "", pkgPath := "", byteOffset := 0 } rfl
    have h1 := hf 1 { name := "Tombs", type := 4, offset := 1, embedded := false, tag := "", pkgPath := "", byteOffset := 8 } rfl
    rw [List.getElem?_eq_getElem (by rw [hyl]; decide)] at h0 h1
    simp only [cells3', cells4', List.drop_zero, List.drop_succ_cons, List.take_succ_cons, List.take_zero] at h0 h1
    obtain ⟨a, ha, _, wa⟩ := DataW.trod_int Try.underlying3 h0
    obtain ⟨b, hb, _⟩ := DataW.trod_bool Try.underlying4 h1
    cases ha; cases hb
    exact ⟨(a, b), bnd64 wa, rfl⟩
set_option maxRecDepth 100000 in
theorem open_infs {H : Type} {enc : TypeId × Value → H} {W : World} {v : Value} {d : DataW H} {ps : List MemPlace} (hv : ∃ a len cap, v = .slice a len cap) (h : DataW.Trod enc Try.prog W 0 (fun _ => true) true 29 v d ps) :
    ∃ L : List Inf, Fi W v L ∧ (L = [] ∨ ∃ es sp, d = .slice es sp ∧ L.length = es.length) := by
  obtain ⟨a0, len0, cap0, rfl⟩ := hv
  obtain ⟨fuel, hf⟩ := h
  rcases open_slice Try.underlying29 hf with ⟨hcs, _⟩ | ⟨a, len, cap, m, n, D, Pl, hcs, _, hl, _, hm, hx, hi⟩
  · simp [Value.cells] at hcs
    obtain ⟨rfl, rfl, rfl⟩ := hcs
    exact ⟨[], ⟨by simp, .inl ⟨_, _, rfl, rfl⟩⟩, .inl rfl⟩
  · simp [Value.cells] at hcs
    obtain ⟨rfl, rfl, rfl⟩ := hcs
    have hm' : m = cap0 := by simpa using hm
    have key : ∀ i, ∃ y : Inf, i < len0 → Wi y ∧ ∀ j u, (fc y)[j]? = some u → W.cell? ((a.add (i * 2)).add j) = some u := by
      intro i
      by_cases h0 : i < len0
      · obtain ⟨cs, h1, h2⟩ := hi i (by omega)
        obtain ⟨_, hcl, hat⟩ := World.cells?_some h1
        rw [cells53] at hcl hat
        obtain ⟨y, hy, hc⟩ := inf_of hcl h2
        refine ⟨y, fun _ => ⟨hy, fun j u hj => ?_⟩⟩
        rw [hc] at hj
        have hj9 : j < 2 := by rw [← hcl]; exact (List.getElem?_eq_some_iff.1 hj).1
        have := hat j hj9
        rw [hj] at this
        exact this
      · exact ⟨n0, fun h => absurd h h0⟩
    obtain ⟨f, hf'⟩ : ∃ f : Nat → Inf, ∀ i, i < len0 → Wi (f i) ∧ ∀ j u, (fc (f i))[j]? = some u → W.cell? ((a.add (i * 2)).add j) = some u := ⟨fun i => Classical.choose (key i), fun i => Classical.choose_spec (key i)⟩
    have hlen : ((List.range len0).map f).length = len0 := by simp
    refine ⟨(List.range len0).map f, ⟨?_, ?_⟩, .inr ⟨_, _, congrArg Prod.fst hx, by simp⟩⟩
    · intro y hy
      obtain ⟨i, hi', rfl⟩ := List.mem_map.1 hy
      exact (hf' i (List.mem_range.1 hi')).1
    · by_cases h0 : len0 = 0
      · subst h0; exact .inl ⟨_, _, rfl, rfl⟩
      · obtain ⟨b, off, spot⟩ := a
        have hc0 := (hf' 0 (by omega)).2 0 _ rfl
        have hspot : spot = none := by simpa [Addr.add] using World.cell?_spot hc0
        subst hspot
        have hadd : ∀ i j, ((⟨b, off, none⟩ : Addr).add (i * 2)).add j = ⟨b, off + i * 2 + j, none⟩ := by
          intro i j
          unfold Addr.add
          split <;> split <;> simp_all
        refine .inr ⟨b, off, cap0, by rw [hlen], by rw [hlen]; exact hl, by have := cell_lt hc0; rw [hadd] at this; exact this, fun i hi' => ?_⟩
        rw [hlen] at hi'
        have hg : ((List.range len0).map f).getD i n0 = f i := by simp [List.getD_eq_getElem?_getD, hi']
        rw [hg]
        have g := (hf' i hi').2
        have g0 := g 0 _ rfl
        have g1 := g 1 _ rfl
        rw [hadd] at g0 g1
        exact ⟨g0, g1⟩
theorem reach_infs {H : Type} {ts : List TypeId} {ds : List (DataW H)} {d : DataW H} {L : List Inf} (j : Nat) (hsz : (DataW.weightsEach Try.prog ts ds).all (· ≤ reachBytes) = true) (ht : ts[j]? = some 29) (hd : ds[j]? = some d)
    (h : L = [] ∨ ∃ es sp, d = .slice es sp ∧ L.length = es.length) : L.length * 16 ≤ 140737488355328 := by
  rcases h with rfl | ⟨es, sp, rfl, he⟩
  · simp
  · have := sized_slice hsz (j := j) ht hd Try.underlying29
    rw [bytes53] at this
    simp only [reachBytes] at this
    omega
end Oi
end Go.Proofs.Ythaadpijfkmdiaa
