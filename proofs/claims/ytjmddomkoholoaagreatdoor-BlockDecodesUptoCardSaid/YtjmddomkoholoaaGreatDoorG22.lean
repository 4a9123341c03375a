import Derived.Test.YtjmddomkoholoaaGreatDoorG10
import Derived.Deep.Slices
import Derived.ChangeSame
import Derived.Test.YtjmddomkoholoaaGreatDoorG32

/- A column of values that came in. -/
namespace Go.Proofs.YtjmddomkoholoaaGreatDoor
open Go.ChangeShapes Go.WideShapes Go.Deep
namespace Ov
open Cm Wr Cv Vs

theorem str_of (s : ByteArray) : str (s.data.toList.map UInt8.toNat) = s := by
  have h : (str (s.data.toList.map UInt8.toNat)).data.toList = s.data.toList := by
    unfold str
    rw [strOfNums_data]
    simp [List.map_map, Function.comp_def]
  cases s
  have := Array.toList_inj.1 h
  generalize str _ = u at *
  cases u
  exact congrArg ByteArray.mk this
theorem cells35 : Tryz.prog.cellsOf 35 = 3 := by kernel_rfl
theorem cells3' : Tryz.prog.cellsOf 3 = 1 := by kernel_rfl
theorem cells33 : Tryz.prog.cellsOf 33 = 1 := by kernel_rfl
theorem cells9 : Tryz.prog.cellsOf 9 = 1 := by kernel_rfl
set_option maxRecDepth 100000 in
/-- One value. -/
theorem open_val {H : Type} {enc : TypeId × Value → H} {W : World} {a : Addr} {i n : Nat} {cs : List Value} {x : DataW H × List MemPlace} (hc : W.cells? 0 (a.add (i * Tryz.prog.cellsOf 35)) (Tryz.prog.cellsOf 35) = some cs)
    (h : DataW.trod enc Tryz.prog W 0 (fun _ => true) true n 35 cs = some x) : ∃ y : Vl, Wv y ∧ ∀ j u, (vc y)[j]? = some u → W.cell? ((a.add (i * 3)).add j) = some u := by
  obtain ⟨_, hcl, hat⟩ := World.cells?_some hc
  rw [cells35] at hcl hat
  obtain ⟨ys, m, _, _, _, hyl, hf⟩ := DataW.trod_struct Tryz.underlying35 h
  match cs, hcl with
  | [c0, c1, c2], _ =>
    have h0 := hf 0 { name := "Kind", type := 3, offset := 0, embedded := false, tag := "", pkgPath := "", byteOffset := 0 } rfl
    have h1 := hf 1 { name := "Bits", type := 33, offset := 1, embedded := false, tag := "", pkgPath := "", byteOffset := 8 } rfl
    have h2 := hf 2 { name := "Text", type := 9, offset := 2, embedded := false, tag := "", pkgPath := "", byteOffset := 16 } rfl
    rw [List.getElem?_eq_getElem (by rw [hyl]; decide)] at h0 h1 h2
    simp only [cells3', cells33, cells9, List.drop_zero, List.drop_succ_cons, List.take_succ_cons, List.take_zero] at h0 h1 h2
    obtain ⟨k, hk, _, wk⟩ := DataW.trod_int Tryz.underlying3 h0
    obtain ⟨z, hz, _, wz⟩ := DataW.trod_int Tryz.underlying33 h1
    obtain ⟨s, hs, _, _⟩ := DataW.trod_string Tryz.underlying9 h2
    cases hk; cases hz; cases hs
    simp only [Lit.wf, Bool.and_eq_true, decide_eq_true_eq] at wk wz
    have m1 : IntKind.i64.min = -9223372036854775808 := by decide
    have m2 : IntKind.i64.max = 9223372036854775807 := by decide
    have m3 : IntKind.u64.min = 0 := by decide
    have m4 : IntKind.u64.max = 18446744073709551615 := by decide
    obtain ⟨z, rfl⟩ := Int.eq_ofNat_of_zero_le (show 0 ≤ z by omega)
    refine ⟨(k, z, s.data.toList.map UInt8.toNat), ⟨by simp only; omega, by simp only; omega, by simp only; omega, fun y hy => ?_⟩, fun j u hj => ?_⟩
    · obtain ⟨b, _, rfl⟩ := List.mem_map.1 hy
      exact b.toNat_lt
    · match j, hj with
      | 0, hj => cases hj; exact hat 0 (by decide)
      | 1, hj => cases hj; exact hat 1 (by decide)
      | 2, hj => cases hj; rw [str_of]; exact hat 2 (by decide)
set_option maxRecDepth 100000 in
theorem open_vals {H : Type} {enc : TypeId × Value → H} {W : World} {v : Value} {d : DataW H} {ps : List MemPlace} (hv : ∃ a len cap, v = .slice a len cap) (h : DataW.Trod enc Tryz.prog W 0 (fun _ => true) true 57 v d ps) :
    ∃ T : List Vl, Vi W v T ∧ (T = [] ∨ ∃ es sp, d = .slice es sp ∧ T.length = es.length) := by
  obtain ⟨a0, len0, cap0, rfl⟩ := hv
  obtain ⟨fuel, hf⟩ := h
  rcases open_slice Tryz.underlying57 hf with ⟨hcs, _⟩ | ⟨a, len, cap, m, n, D, Pl, hcs, _, hl, _, hm, hx, hi⟩
  · simp [Value.cells] at hcs
    obtain ⟨rfl, rfl, rfl⟩ := hcs
    exact ⟨[], ⟨by simp, .inl ⟨_, _, rfl, rfl⟩⟩, .inl rfl⟩
  · simp [Value.cells] at hcs
    obtain ⟨rfl, rfl, rfl⟩ := hcs
    have hm' : m = cap0 := by simpa using hm
    have key : ∀ i, ∃ y : Vl, i < len0 → Wv y ∧ ∀ j u, (vc y)[j]? = some u → W.cell? ((a.add (i * 3)).add j) = some u := by
      intro i
      by_cases h0 : i < len0
      · obtain ⟨cs, h1, h2⟩ := hi i (by omega)
        obtain ⟨y, h3⟩ := open_val h1 h2
        exact ⟨y, fun _ => h3⟩
      · exact ⟨z0, fun h => absurd h h0⟩
    obtain ⟨f, hf'⟩ : ∃ f : Nat → Vl, ∀ i, i < len0 → Wv (f i) ∧ ∀ j u, (vc (f i))[j]? = some u → W.cell? ((a.add (i * 3)).add j) = some u := ⟨fun i => Classical.choose (key i), fun i => Classical.choose_spec (key i)⟩
    have hlen : ((List.range len0).map f).length = len0 := by simp
    refine ⟨(List.range len0).map f, ⟨?_, ?_⟩, .inr ⟨_, _, congrArg Prod.fst hx, by simp⟩⟩
    · intro y hy
      obtain ⟨i, hi', rfl⟩ := List.mem_map.1 hy
      exact (hf' i (List.mem_range.1 hi')).1
    · by_cases h0 : len0 = 0
      · subst h0; exact .inl ⟨_, _, rfl, rfl⟩
      · obtain ⟨b, off, spot⟩ := a
        have hc0 := (hf' 0 (by omega)).2 0 _ rfl
        have hspot : spot = none := by simpa [Addr.add] using World.cell?_spot hc0
        subst hspot
        have hadd : ∀ i j, ((⟨b, off, none⟩ : Addr).add (i * 3)).add j = ⟨b, off + i * 3 + j, none⟩ := by
          intro i j
          unfold Addr.add
          split <;> split <;> simp_all
        refine .inr ⟨b, off, cap0, by rw [hlen], by rw [hlen]; exact hl, by have := cell_lt hc0; rw [hadd] at this; exact this, fun i hi' => ?_⟩
        rw [hlen] at hi'
        have hg : ((List.range len0).map f).getD i z0 = f i := by simp [List.getD_eq_getElem?_getD, hi']
        rw [hg]
        have g := (hf' i hi').2
        have g0 := g 0 _ rfl
        have g1 := g 1 _ rfl
        have g2 := g 2 _ rfl
        rw [hadd] at g0 g1 g2
        exact ⟨g0, g1, g2⟩
end Ov
end Go.Proofs.YtjmddomkoholoaaGreatDoor

/- Points that came in. -/
namespace Go.Proofs.YtjmddomkoholoaaGreatDoor
open Go.ChangeShapes Go.WideShapes Go.Deep
namespace Oq
open Cm Wr Cv Vs Kd Kp

set_option maxRecDepth 100000 in
/-- One value, by its cells. -/
theorem val_of {H : Type} {enc : TypeId × Value → H} {W : World} {n : Nat} {c0 c1 c2 : Value} {x : DataW H × List MemPlace}
    (h : DataW.trod enc Tryz.prog W 0 (fun _ => true) true n 35 [c0, c1, c2] = some x) : ∃ y : Vl, Wv y ∧ vc y = [c0, c1, c2] := by
  obtain ⟨ys, m, _, _, _, hyl, hf⟩ := DataW.trod_struct Tryz.underlying35 h
  have h0 := hf 0 { name := "Kind", type := 3, offset := 0, embedded := false, tag := "", pkgPath := "", byteOffset := 0 } rfl
  have h1 := hf 1 { name := "Bits", type := 33, offset := 1, embedded := false, tag := "", pkgPath := "", byteOffset := 8 } rfl
  have h2 := hf 2 { name := "Text", type := 9, offset := 2, embedded := false, tag := "", pkgPath := "", byteOffset := 16 } rfl
  rw [List.getElem?_eq_getElem (by rw [hyl]; decide)] at h0 h1 h2
  simp only [Ov.cells3', Ov.cells33, Ov.cells9, List.drop_zero, List.drop_succ_cons, List.take_succ_cons, List.take_zero] at h0 h1 h2
  obtain ⟨k, hk, _, wk⟩ := DataW.trod_int Tryz.underlying3 h0
  obtain ⟨z, hz, _, wz⟩ := DataW.trod_int Tryz.underlying33 h1
  obtain ⟨s, hs, _, _⟩ := DataW.trod_string Tryz.underlying9 h2
  cases hk; cases hz; cases hs
  simp only [Lit.wf, Bool.and_eq_true, decide_eq_true_eq] at wk wz
  have m1 : IntKind.i64.min = -9223372036854775808 := by decide
  have m2 : IntKind.i64.max = 9223372036854775807 := by decide
  have m3 : IntKind.u64.min = 0 := by decide
  have m4 : IntKind.u64.max = 18446744073709551615 := by decide
  obtain ⟨z, rfl⟩ := Int.eq_ofNat_of_zero_le (show 0 ≤ z by omega)
  refine ⟨(k, z, s.data.toList.map UInt8.toNat), ⟨by simp only; omega, by simp only; omega, by simp only; omega, fun y hy => ?_⟩, ?_⟩
  · obtain ⟨b, _, rfl⟩ := List.mem_map.1 hy
    exact b.toNat_lt
  · simp [vc, Ov.str_of]
theorem cells49 : Tryz.prog.cellsOf 37 = 4 := by kernel_rfl
theorem cells2' : Tryz.prog.cellsOf 2 = 1 := by kernel_rfl
set_option maxRecDepth 100000 in
/-- One point. -/
theorem open_pnt {H : Type} {enc : TypeId × Value → H} {W : World} {a : Addr} {i n : Nat} {cs : List Value} {x : DataW H × List MemPlace} (hc : W.cells? 0 (a.add (i * Tryz.prog.cellsOf 37)) (Tryz.prog.cellsOf 37) = some cs)
    (h : DataW.trod enc Tryz.prog W 0 (fun _ => true) true n 37 cs = some x) : ∃ y : Pnt, Wp y ∧ ∀ j u, (pc y)[j]? = some u → W.cell? ((a.add (i * 4)).add j) = some u := by
  obtain ⟨_, hcl, hat⟩ := World.cells?_some hc
  rw [cells49] at hcl hat
  obtain ⟨ys, m, _, _, _, hyl, hf⟩ := DataW.trod_struct Tryz.underlying37 h
  match cs, hcl with
  | [c0, c1, c2, c3], _ =>
    have h0 := hf 0 { name := "Time", type := 2, offset := 0, embedded := false, tag := "", pkgPath := "", byteOffset := 0 } rfl
    have h1 := hf 1 { name := "Value", type := 35, offset := 1, embedded := false, tag := "", pkgPath := "", byteOffset := 8 } rfl
    rw [List.getElem?_eq_getElem (by rw [hyl]; decide)] at h0 h1
    simp only [cells2', Ov.cells35, List.drop_zero, List.drop_succ_cons, List.take_succ_cons, List.take_zero] at h0 h1
    obtain ⟨t, ht, _, wt⟩ := DataW.trod_int Tryz.underlying2 h0
    obtain ⟨y, hy, hvc⟩ := val_of h1
    cases ht
    simp only [Lit.wf, Bool.and_eq_true, decide_eq_true_eq] at wt
    have m1 : IntKind.i64.min = -9223372036854775808 := by decide
    have m2 : IntKind.i64.max = 9223372036854775807 := by decide
    refine ⟨(t, y), ⟨by simp only; omega, hy⟩, fun j u hj => ?_⟩
    unfold pc at hj
    simp only [hvc] at hj
    match j, hj with
    | 0, hj => cases hj; exact hat 0 (by decide)
    | 1, hj => cases hj; exact hat 1 (by decide)
    | 2, hj => cases hj; exact hat 2 (by decide)
    | 3, hj => cases hj; exact hat 3 (by decide)
set_option maxRecDepth 100000 in
theorem open_pnts {H : Type} {enc : TypeId × Value → H} {W : World} {v : Value} {d : DataW H} {ps : List MemPlace} (hv : ∃ a len cap, v = .slice a len cap) (h : DataW.Trod enc Tryz.prog W 0 (fun _ => true) true 24 v d ps) :
    ∃ T : List Pnt, Pi W v T ∧ (T = [] ∨ ∃ es sp, d = .slice es sp ∧ T.length = es.length) := by
  obtain ⟨a0, len0, cap0, rfl⟩ := hv
  obtain ⟨fuel, hf⟩ := h
  rcases open_slice Tryz.underlying24 hf with ⟨hcs, _⟩ | ⟨a, len, cap, m, n, D, Pl, hcs, _, hl, _, hm, hx, hi⟩
  · simp [Value.cells] at hcs
    obtain ⟨rfl, rfl, rfl⟩ := hcs
    exact ⟨[], ⟨by simp, .inl ⟨_, _, rfl, rfl⟩⟩, .inl rfl⟩
  · simp [Value.cells] at hcs
    obtain ⟨rfl, rfl, rfl⟩ := hcs
    have hm' : m = cap0 := by simpa using hm
    have key : ∀ i, ∃ y : Pnt, i < len0 → Wp y ∧ ∀ j u, (pc y)[j]? = some u → W.cell? ((a.add (i * 4)).add j) = some u := by
      intro i
      by_cases h0 : i < len0
      · obtain ⟨cs, h1, h2⟩ := hi i (by omega)
        obtain ⟨y, h3⟩ := open_pnt h1 h2
        exact ⟨y, fun _ => h3⟩
      · exact ⟨p0, fun h => absurd h h0⟩
    obtain ⟨f, hf'⟩ : ∃ f : Nat → Pnt, ∀ i, i < len0 → Wp (f i) ∧ ∀ j u, (pc (f i))[j]? = some u → W.cell? ((a.add (i * 4)).add j) = some u := ⟨fun i => Classical.choose (key i), fun i => Classical.choose_spec (key i)⟩
    have hlen : ((List.range len0).map f).length = len0 := by simp
    refine ⟨(List.range len0).map f, ⟨?_, ?_⟩, .inr ⟨_, _, congrArg Prod.fst hx, by simp⟩⟩
    · intro y hy
      obtain ⟨i, hi', rfl⟩ := List.mem_map.1 hy
      exact (hf' i (List.mem_range.1 hi')).1
    · by_cases h0 : len0 = 0
      · subst h0; exact .inl ⟨_, _, rfl, rfl⟩
      · obtain ⟨b, off, spot⟩ := a
        have hc0 := (hf' 0 (by omega)).2 0 _ rfl
        have hspot : spot = none := by simpa [Addr.add] using World.cell?_spot hc0
        subst hspot
        have hadd : ∀ i j, ((⟨b, off, none⟩ : Addr).add (i * 4)).add j = ⟨b, off + i * 4 + j, none⟩ := by
          intro i j
          unfold Addr.add
          split <;> split <;> simp_all
        refine .inr ⟨b, off, cap0, by rw [hlen], by rw [hlen]; exact hl, by have := cell_lt hc0; rw [hadd] at this; exact this, fun i hi' => ?_⟩
        rw [hlen] at hi'
        have hg : ((List.range len0).map f).getD i p0 = f i := by simp [List.getD_eq_getElem?_getD, hi']
        rw [hg]
        have g := (hf' i hi').2
        have g0 := g 0 _ rfl
        have g1 := g 1 _ rfl
        have g2 := g 2 _ rfl
        have g3 := g 3 _ rfl
        rw [hadd] at g0 g1 g2 g3
        exact ⟨g0, g1, g2, g3⟩
end Oq
end Go.Proofs.YtjmddomkoholoaaGreatDoor
