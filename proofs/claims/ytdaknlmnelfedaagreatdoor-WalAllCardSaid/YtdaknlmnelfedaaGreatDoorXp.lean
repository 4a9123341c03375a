/- What opens a slice of slices of bytes that came in. -/
import Derived.Test.YtdaknlmnelfedaaGreatDoorVz
import Derived.Test.YtdaknlmnelfedaaGreatDoorX14
namespace Go.Proofs.YtdaknlmnelfedaaGreatDoor
open Go.ChangeShapes Go.WideShapes Go.ChangeAt Go.RowKit
namespace Xp
open Jb Jt Jd V1 V2 Vg Vo X14

theorem bytes36 : Tryz.prog.bytesOf 36 = 24 := by kernel_rfl
theorem open_bl2 {H : Type} {enc : TypeId × Value → H} {W : World} {v : Value} {d : DataW H} {ps : List MemPlace} (hv : ∃ a len cap, v = .slice a len cap) (h : DataW.Trod enc Tryz.prog W 0 (fun _ => true) true 29 v d ps) :
    ∃ xs : List (List Nat), BL2 W v xs ∧ (∀ x ∈ xs, ∀ y ∈ x, y < 256) ∧ (xs = [] ∨ ∃ es sp, d = .slice es sp ∧ xs.length = es.length) := by
  obtain ⟨a0, len0, cap0, rfl⟩ := hv
  obtain ⟨fuel, hf⟩ := h
  rcases Go.Deep.open_slice1 (e := 36) Tryz.underlying29 (by kernel_rfl) hf with ⟨hcs, _⟩ | ⟨ad, len, cap, m, n, V, D, Pl, hcs, _, hl, hm, hmm, hx, hcell⟩
  · simp [Value.cells] at hcs
    obtain ⟨rfl, rfl, rfl⟩ := hcs
    exact ⟨[], .inl ⟨rfl, _, _, rfl⟩, by simp, .inl rfl⟩
  · simp [Value.cells] at hcs
    obtain ⟨rfl, rfl, rfl⟩ := hcs
    have hml : len0 ≤ m := by rw [hmm]; split <;> omega
    have key : ∀ i, i < len0 → ∃ X : List Nat, (∀ y ∈ X, y < 256) ∧ ∃ a cc, V i = .slice a X.length cc ∧ Src W (fun k => k < W.heap.size) (.slice a X.length cc) X ∧ (a = none → cc = 0) := by
      intro i hi
      obtain ⟨c1, c2⟩ := hcell i (by omega)
      have hsl : ∃ a l c, V i = .slice a l c := by
        rcases Go.Deep.open_slice1 (e := 5) Tryz.underlying36 (by kernel_rfl) c2 with ⟨e, _⟩ | ⟨ad', l', c', _, _, _, _, _, e, _⟩
        · exact ⟨none, 0, 0, by simpa using e⟩
        · exact ⟨_, l', c', by simpa using e⟩
      obtain ⟨a, l, c, hV⟩ := hsl
      obtain ⟨X, hP, hcp, hB, _⟩ := open_bytes (enc := enc) (W := W) (v := V i) (d := D i) (ps := Pl i) ⟨a, l, c, hV⟩ ⟨n, by rw [hV] at c2 ⊢; simpa [Value.cells] using c2⟩
      obtain ⟨a', cc, hV'⟩ := hP.forms
      exact ⟨X, hB, a', cc, hV', by rw [← hV']; exact src_lt hP, fun e => hcp cc (by rw [hV', e])⟩
    obtain ⟨X, hX⟩ := Go.Deep.choose_lt key
    have hlen : ((List.range len0).map X).length = len0 := by simp
    refine ⟨(List.range len0).map X, ?_, ?_, .inr ⟨_, _, congrArg Prod.fst hx, by simp⟩⟩
    · by_cases h0 : len0 = 0
      · subst h0; exact .inl ⟨by simp, _, _, rfl⟩
      · obtain ⟨b, off, spot⟩ := ad
        have hc0 := (hcell 0 (by omega)).1
        have hspot : spot = none := by simpa [Addr.add] using World.cell?_spot hc0
        subst hspot
        refine .inr ⟨b, off, cap0, by rw [hlen], by omega, by have := cell_lt hc0; simpa [Addr.add] using this, fun i hi => ?_⟩
        rw [hlen] at hi
        obtain ⟨_, a, cc, hV, hS, hcc⟩ := hX i hi
        have e : ((List.range len0).map X)[i]'(by rw [hlen]; exact hi) = X i := by simp
        refine ⟨a, cc, ?_, ?_, hcc⟩
        · have := (hcell i (by omega)).1
          rw [hV, Addr.add_lit] at this
          rw [e]; exact this
        · rw [e]; exact hS
    · intro x hx'
      obtain ⟨i, hi, rfl⟩ := List.mem_map.1 hx'
      exact (hX i (List.mem_range.1 hi)).1
theorem reach_bl2 {H : Type} {ts : List TypeId} {ds : List (DataW H)} {d : DataW H} {L : List (List Nat)} (j : Nat) (hsz : (DataW.weightsEach Tryz.prog ts ds).all (· ≤ reachBytes) = true) (ht : ts[j]? = some 29) (hd : ds[j]? = some d)
    (h : L = [] ∨ ∃ es sp, d = .slice es sp ∧ L.length = es.length) : L.length ≤ 140737488351232 := by
  rcases h with rfl | ⟨es, sp, rfl, he⟩
  · simp
  · have := sized_slice hsz (j := j) ht hd Tryz.underlying29
    rw [bytes36] at this
    simp only [reachBytes] at this
    omega
end Xp
end Go.Proofs.YtdaknlmnelfedaaGreatDoor
