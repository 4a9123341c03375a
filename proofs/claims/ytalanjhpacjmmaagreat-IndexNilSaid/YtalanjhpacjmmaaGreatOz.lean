/- Lists of series that came in. -/
import Derived.Test.YtalanjhpacjmmaaGreatOw
import Derived.Test.YtalanjhpacjmmaaGreatKn
namespace Go.Proofs.YtalanjhpacjmmaaGreat
set_option maxRecDepth 100000
open Go.ChangeShapes Go.WideShapes Go.Deep Go.RowKit
namespace Oz
open Jb Sa Sb Jt Ju2 Ow Kn

theorem bytesS : Tryz.prog.bytesOf 30 = 40 := by kernel_rfl
theorem ser_of {H : Type} {enc : TypeId × Value → H} {W : World} {n : Nat} {cs : List Value} {x : DataW H × List MemPlace} (hl : cs.length = 2)
    (h : DataW.trod enc Tryz.prog W 0 (fun _ => true) true n 30 cs = some x) : ∃ (nm : ByteArray) (u : Value) (L : List Tg), cs = [.string nm, u] ∧ Ti W u L ∧ Dser x.1 nm L := by
  obtain ⟨ys, m, _, hx, _, hyl, hf⟩ := DataW.trod_struct Tryz.underlying30 h
  match cs, hl with
  | [e0, e1], _ =>
    have h0 := hf 0 { name := "Name", type := 9, offset := 0, embedded := false, tag := "", pkgPath := "", byteOffset := 0 } rfl
    have h1 := hf 1 { name := "Tags", type := 28, offset := 1, embedded := false, tag := "", pkgPath := "", byteOffset := 16 } rfl
    obtain ⟨z0, z1, rfl⟩ : ∃ z0 z1, ys = [z0, z1] := by
      match ys, hyl with
      | [z0, z1], _ => exact ⟨z0, z1, rfl⟩
    simp only [cells9', cells22, List.drop_zero, List.drop_succ_cons, List.take_succ_cons, List.take_zero, List.getElem?_cons_zero, List.getElem?_cons_succ] at h0 h1
    obtain ⟨s, hs, ds, _⟩ := DataW.trod_string Tryz.underlying9 h0
    cases hs
    obtain ⟨L, hL, hD⟩ := open_tags h1
    refine ⟨s, e1, L, rfl, hL, z1.1, ?_, hD⟩
    have := congrArg Prod.fst hx
    simp only at this
    rw [this]
    simp [ds]
/-- Data of a list of series. -/
def Dlist {H : Type} (d : DataW H) (rs : List Sr) : Prop := rs = [] ∨ ∃ ds sp, d = .slice ds sp ∧ ds.length = rs.length ∧ ∀ i e, ds[i]? = some e → Dser e (rs.getD i s0).1 (rs.getD i s0).2
theorem open_list {H : Type} {enc : TypeId × Value → H} {W : World} {v : Value} {d : DataW H} {ps : List MemPlace} (hv : ∃ a len cap, v = .slice a len cap) (h : DataW.Trod enc Tryz.prog W 0 (fun _ => true) true 38 v d ps) :
    ∃ rs : List Sr, Sl W (fun _ => True) v rs ∧ Dlist d rs := by
  obtain ⟨a0, len0, cap0, rfl⟩ := hv
  obtain ⟨fuel, hf⟩ := h
  rcases open_slice Tryz.underlying38 hf with ⟨hcs, _⟩ | ⟨a, len, cap, m, n, D, Pl, hcs, _, hl, _, hm, hx, hi⟩
  · simp [Value.cells] at hcs
    obtain ⟨rfl, rfl, rfl⟩ := hcs
    exact ⟨[], .inl ⟨_, _, rfl, rfl⟩, .inl rfl⟩
  · simp [Value.cells] at hcs
    obtain ⟨rfl, rfl, rfl⟩ := hcs
    have hm' : m = cap0 := by simpa using hm
    have hd : d = .slice ((List.range len0).map D) ((List.range (m - len0)).map fun j => D (len0 + j)) := congrArg Prod.fst hx
    have key : ∀ i, ∃ s : Sr, i < len0 → (∃ u, W.cell? ((a.add (i * 2)).add 0) = some (.string s.1) ∧ W.cell? ((a.add (i * 2)).add 1) = some u ∧ Ti W u s.2) ∧ Dser (D i) s.1 s.2 := by
      intro i
      by_cases h0 : i < len0
      · obtain ⟨cs, h1, h2⟩ := hi i (by omega)
        obtain ⟨_, hcl, hat⟩ := World.cells?_some h1
        rw [cells24] at hcl hat
        obtain ⟨nm, u, L, rfl, hT, hD⟩ := ser_of hcl h2
        exact ⟨(nm, L), fun _ => ⟨⟨u, hat 0 (by decide), hat 1 (by decide), hT⟩, hD⟩⟩
      · exact ⟨s0, fun h => absurd h h0⟩
    obtain ⟨f, hf'⟩ : ∃ f : Nat → Sr, ∀ i, i < len0 → (∃ u, W.cell? ((a.add (i * 2)).add 0) = some (.string (f i).1) ∧ W.cell? ((a.add (i * 2)).add 1) = some u ∧ Ti W u (f i).2) ∧ Dser (D i) (f i).1 (f i).2 := ⟨fun i => Classical.choose (key i), fun i => Classical.choose_spec (key i)⟩
    have hlen : ((List.range len0).map f).length = len0 := by simp
    have hget : ∀ i, i < len0 → ((List.range len0).map f).getD i s0 = f i := fun i hi' => by simp [List.getD_eq_getElem?_getD, hi']
    refine ⟨(List.range len0).map f, ?_, .inr ⟨_, _, hd, by simp, fun i e he => ?_⟩⟩
    · by_cases h0 : len0 = 0
      · subst h0; exact .inl ⟨_, _, rfl, rfl⟩
      · obtain ⟨b, off, spot⟩ := a
        obtain ⟨⟨_, hc0, _⟩, _⟩ := hf' 0 (by omega)
        have hspot : spot = none := by simpa [Addr.add] using World.cell?_spot hc0
        subst hspot
        refine .inr ⟨b, off, cap0, by rw [hlen], by rw [hlen]; exact hl, by have := cell_lt hc0; rw [hadd] at this; exact this, trivial, fun i hi' => ?_⟩
        rw [hlen] at hi'
        rw [hget i hi']
        obtain ⟨⟨u, g0, g1, g2⟩, _⟩ := hf' i hi'
        rw [hadd] at g0 g1
        obtain ⟨a2, c2, rfl⟩ := g2.forms
        exact ⟨a2, c2, g0, g1, g2, fun _ _ => trivial⟩
    · have hi' : i < len0 := by
        have := (List.getElem?_eq_some_iff.1 he).1
        simpa using this
      rw [hget i hi']
      have : e = D i := by
        simp [hi'] at he
        exact he.symm
      rw [this]
      exact (hf' i hi').2
theorem list_sized {H : Type} {d : DataW H} {rs : List Sr} (h : Dlist d rs) (hs : Sized d 38) : rs.length ≤ 3518437208883 ∧ ∀ i, i < rs.length → (rs.getD i s0).1.size ≤ 140737488355328 ∧ (∀ x ∈ (rs.getD i s0).2, x.1.size ≤ 140737488355328 ∧ x.2.size ≤ 140737488355328) ∧ (rs.getD i s0).2.length ≤ 140737488355328 := by
  rcases h with rfl | ⟨ds, sp, rfl, hl, hD⟩
  · exact ⟨by simp, fun i hi => by simp at hi⟩
  refine ⟨?_, fun i hi => ?_⟩
  · have := hs ((ds.length + sp.length) * Tryz.prog.bytesOf 30) (by simp [DataW.weights, Tryz.underlying38])
    rw [bytesS] at this
    simp only [reachBytes] at this
    omega
  · have he : ds[i]? = some (ds[i]'(by omega)) := List.getElem?_eq_getElem (by omega)
    have h3 : Sized (ds[i]'(by omega)) 30 := fun n hn => hs n (by
      simp only [DataW.weights, Tryz.underlying38, List.mem_cons, List.mem_append]
      exact .inr (.inl (weightsAll_mem he _ hn)))
    obtain ⟨k1, k2, k3⟩ := ser_sized (hD i _ he) h3
    exact ⟨by omega, fun x hx => by have := k3 x hx; omega, by omega⟩
theorem list_bulk {H : Type} {d : DataW H} {rs : List Sr} (h : Dlist d rs) : rs.length ≤ Rows.uptoBulk d ∧ ∀ i, i < rs.length → (rs.getD i s0).1.size ≤ Rows.uptoBulk d ∧ (∀ x ∈ (rs.getD i s0).2, x.1.size ≤ Rows.uptoBulk d ∧ x.2.size ≤ Rows.uptoBulk d) ∧ (rs.getD i s0).2.length ≤ Rows.uptoBulk d := by
  rcases h with rfl | ⟨ds, sp, rfl, hl, hD⟩
  · exact ⟨by simp, fun i hi => by simp at hi⟩
  have h2 := length_le ds
  simp only [Rows.uptoBulk]
  refine ⟨by omega, fun i hi => ?_⟩
  have he : ds[i]? = some (ds[i]'(by omega)) := List.getElem?_eq_getElem (by omega)
  have h3 := bulk_mem (List.mem_of_getElem? he)
  obtain ⟨k1, k2, k3⟩ := ser_bulk (hD i _ he)
  exact ⟨by omega, fun x hx => by have := k3 x hx; omega, by omega⟩
end Oz
end Go.Proofs.YtalanjhpacjmmaaGreat
