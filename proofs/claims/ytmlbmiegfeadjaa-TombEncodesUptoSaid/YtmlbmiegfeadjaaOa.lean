/- Tombs, points and columns that came in. -/
import Derived.Test.YtmlbmiegfeadjaaJt
import Derived.Test.YtmlbmiegfeadjaaHk
import Derived.Deep.Slices
import Derived.ChangeSame
namespace Go.Proofs.Ytmlbmiegfeadjaa
open Go.ChangeShapes Go.WideShapes Go.Deep
namespace Oa
open Jb Ca Cz Ga Gm Gt Hh Jt

theorem str_of (s : ByteArray) : str (s.data.toList.map UInt8.toNat) = s := by
  have h : (str (s.data.toList.map UInt8.toNat)).data.toList = s.data.toList := by
    unfold str
    rw [strOfNums_data]
    simp [List.map_map, Function.comp_def]
  cases s
  have := Array.toList_inj.1 h
  generalize str _ = u at *
  cases u
  exact congrArg ByteArray.mk this
theorem cells35 : Try.prog.cellsOf 48 = 3 := by kernel_rfl
theorem cells3' : Try.prog.cellsOf 3 = 1 := by kernel_rfl
theorem cells33 : Try.prog.cellsOf 46 = 1 := by kernel_rfl
theorem cells9 : Try.prog.cellsOf 9 = 1 := by kernel_rfl
set_option maxRecDepth 100000 in
/-- One value, by its cells. -/
theorem val_of {H : Type} {enc : TypeId × Value → H} {W : World} {n : Nat} {c0 c1 c2 : Value} {x : DataW H × List MemPlace}
    (h : DataW.trod enc Try.prog W 0 (fun _ => true) true n 48 [c0, c1, c2] = some x) : ∃ y : Vl, Wv y ∧ vc y = [c0, c1, c2] := by
  obtain ⟨ys, m, _, _, _, hyl, hf⟩ := DataW.trod_struct Try.underlying48 h
  have h0 := hf 0 { name := "Kind", type := 3, offset := 0, embedded := false, tag := "", pkgPath := "", byteOffset := 0 } rfl
  have h1 := hf 1 { name := "Bits", type := 46, offset := 1, embedded := false, tag := "", pkgPath := "", byteOffset := 8 } rfl
  have h2 := hf 2 { name := "Text", type := 9, offset := 2, embedded := false, tag := "", pkgPath := "", byteOffset := 16 } rfl
  rw [List.getElem?_eq_getElem (by rw [hyl]; decide)] at h0 h1 h2
  simp only [cells3', cells33, cells9, List.drop_zero, List.drop_succ_cons, List.take_succ_cons, List.take_zero] at h0 h1 h2
  obtain ⟨k, hk, _, wk⟩ := DataW.trod_int Try.underlying3 h0
  obtain ⟨z, hz, _, wz⟩ := DataW.trod_int Try.underlying46 h1
  obtain ⟨s, hs, _, _⟩ := DataW.trod_string Try.underlying9 h2
  cases hk; cases hz; cases hs
  simp only [Lit.wf, Bool.and_eq_true, decide_eq_true_eq] at wk wz
  have m1 : IntKind.i64.min = -9223372036854775808 := by decide
  have m2 : IntKind.i64.max = 9223372036854775807 := by decide
  have m3 : IntKind.u64.min = 0 := by decide
  have m4 : IntKind.u64.max = 18446744073709551615 := by decide
  obtain ⟨z, rfl⟩ := Int.eq_ofNat_of_zero_le (show 0 ≤ z by omega)
  refine ⟨(k, z, s.data.toList.map UInt8.toNat), ⟨by simp only; omega, by simp only; omega, by simp only; omega, fun y hy => ?_⟩, ?_⟩
  · obtain ⟨b, _, rfl⟩ := List.mem_map.1 hy
    exact b.toNat_lt
  · simp [vc, str_of]
theorem cells49 : Try.prog.cellsOf 50 = 4 := by kernel_rfl
theorem cells2' : Try.prog.cellsOf 2 = 1 := by kernel_rfl
set_option maxRecDepth 100000 in
/-- One point. -/
theorem open_pnt {H : Type} {enc : TypeId × Value → H} {W : World} {a : Addr} {i n : Nat} {cs : List Value} {x : DataW H × List MemPlace} (hc : W.cells? 0 (a.add (i * Try.prog.cellsOf 50)) (Try.prog.cellsOf 50) = some cs)
    (h : DataW.trod enc Try.prog W 0 (fun _ => true) true n 50 cs = some x) : ∃ y : Pnt, Wp y ∧ ∀ j u, (pc y)[j]? = some u → W.cell? ((a.add (i * 4)).add j) = some u := by
  obtain ⟨_, hcl, hat⟩ := World.cells?_some hc
  rw [cells49] at hcl hat
  obtain ⟨ys, m, _, _, _, hyl, hf⟩ := DataW.trod_struct Try.underlying50 h
  match cs, hcl with
  | [c0, c1, c2, c3], _ =>
    have h0 := hf 0 { name := "Time", type := 2, offset := 0, embedded := false, tag := "", pkgPath := "", byteOffset := 0 } rfl
    have h1 := hf 1 { name := "Value", type := 48, offset := 1, embedded := false, tag := "", pkgPath := "", byteOffset := 8 } rfl
    rw [List.getElem?_eq_getElem (by rw [hyl]; decide)] at h0 h1
    simp only [cells2', cells35, List.drop_zero, List.drop_succ_cons, List.take_succ_cons, List.take_zero] at h0 h1
    obtain ⟨t, ht, _, wt⟩ := DataW.trod_int Try.underlying2 h0
    obtain ⟨y, hy, hvc⟩ := val_of h1
    cases ht
    simp only [Lit.wf, Bool.and_eq_true, decide_eq_true_eq] at wt
    have m1 : IntKind.i64.min = -9223372036854775808 := by decide
    have m2 : IntKind.i64.max = 9223372036854775807 := by decide
    refine ⟨(t, y), ⟨by simp only; omega, hy⟩, fun j u hj => ?_⟩
    unfold pc at hj
    simp only [hvc] at hj
    match j, hj with
    | 0, hj => cases hj; exact hat 0 (by decide)
    | 1, hj => cases hj; exact hat 1 (by decide)
    | 2, hj => cases hj; exact hat 2 (by decide)
    | 3, hj => cases hj; exact hat 3 (by decide)
set_option maxRecDepth 100000 in
theorem open_pnts {H : Type} {enc : TypeId × Value → H} {W : World} {v : Value} {d : DataW H} {ps : List MemPlace} (hv : ∃ a len cap, v = .slice a len cap) (h : DataW.Trod enc Try.prog W 0 (fun _ => true) true 51 v d ps) :
    ∃ T : List Pnt, Pi W v T ∧ (T = [] ∨ ∃ es sp, d = .slice es sp ∧ T.length = es.length) := by
  obtain ⟨a0, len0, cap0, rfl⟩ := hv
  obtain ⟨fuel, hf⟩ := h
  rcases open_slice Try.underlying51 hf with ⟨hcs, _⟩ | ⟨a, len, cap, m, n, D, Pl, hcs, _, hl, _, hm, hx, hi⟩
  · simp [Value.cells] at hcs
    obtain ⟨rfl, rfl, rfl⟩ := hcs
    exact ⟨[], ⟨by simp, .inl ⟨_, _, rfl, rfl⟩⟩, .inl rfl⟩
  · simp [Value.cells] at hcs
    obtain ⟨rfl, rfl, rfl⟩ := hcs
    have hm' : m = cap0 := by simpa using hm
    have key : ∀ i, ∃ y : Pnt, i < len0 → Wp y ∧ ∀ j u, (pc y)[j]? = some u → W.cell? ((a.add (i * 4)).add j) = some u := by
      intro i
      by_cases h0 : i < len0
      · obtain ⟨cs, h1, h2⟩ := hi i (by omega)
        obtain ⟨y, h3⟩ := open_pnt h1 h2
        exact ⟨y, fun _ => h3⟩
      · exact ⟨p0, fun h => absurd h h0⟩
    obtain ⟨f, hf'⟩ : ∃ f : Nat → Pnt, ∀ i, i < len0 → Wp (f i) ∧ ∀ j u, (pc (f i))[j]? = some u → W.cell? ((a.add (i * 4)).add j) = some u := ⟨fun i => Classical.choose (key i), fun i => Classical.choose_spec (key i)⟩
    have hlen : ((List.range len0).map f).length = len0 := by simp
    refine ⟨(List.range len0).map f, ⟨?_, ?_⟩, .inr ⟨_, _, congrArg Prod.fst hx, by simp⟩⟩
    · intro y hy
      obtain ⟨i, hi', rfl⟩ := List.mem_map.1 hy
      exact (hf' i (List.mem_range.1 hi')).1
    · by_cases h0 : len0 = 0
      · subst h0; exact .inl ⟨_, _, rfl, rfl⟩
      · obtain ⟨b, off, spot⟩ := a
        have hc0 := (hf' 0 (by omega)).2 0 _ rfl
        have hspot : spot = none := by simpa [Addr.add] using World.cell?_spot hc0
        subst hspot
        have hadd : ∀ i j, ((⟨b, off, none⟩ : Addr).add (i * 4)).add j = ⟨b, off + i * 4 + j, none⟩ := by
          intro i j
          unfold Addr.add
          split <;> split <;> simp_all
        refine .inr ⟨b, off, cap0, by rw [hlen], by rw [hlen]; exact hl, by have := cell_lt hc0; rw [hadd] at this; exact this, fun i hi' => ?_⟩
        rw [hlen] at hi'
        have hg : ((List.range len0).map f).getD i p0 = f i := by simp [List.getD_eq_getElem?_getD, hi']
        rw [hg]
        have g := (hf' i hi').2
        have g0 := g 0 _ rfl
        have g1 := g 1 _ rfl
        have g2 := g 2 _ rfl
        have g3 := g 3 _ rfl
        rw [hadd] at g0 g1 g2 g3
        exact ⟨g0, g1, g2, g3⟩

theorem bnd64 {n : Int} (h : (Lit.int .i64 n).wf = true) : -9223372036854775808 ≤ n ∧ n ≤ 9223372036854775807 := by
  simp only [Lit.wf, Bool.and_eq_true, decide_eq_true_eq] at h
  have h1 : IntKind.i64.min = -9223372036854775808 := by decide
  have h2 : IntKind.i64.max = 9223372036854775807 := by decide
  omega

theorem cells44 : Try.prog.cellsOf 44 = 4 := by kernel_rfl
theorem bytes44 : Try.prog.bytesOf 44 = 48 := by kernel_rfl
set_option maxRecDepth 100000 in
/-- One tomb, by its cells. -/
theorem tmb_of {H : Type} {enc : TypeId × Value → H} {W : World} {n : Nat} {cs : List Value} {x : DataW H × List MemPlace} (hl : cs.length = 4)
    (h : DataW.trod enc Try.prog W 0 (fun _ => true) true n 44 cs = some x) : ∃ y : Tmb, Wt y ∧ tc y = cs := by
  obtain ⟨ys, m, _, _, _, hyl, hf⟩ := DataW.trod_struct Try.underlying44 h
  match cs, hl with
  | [c0, c1, c2, c3], _ =>
    have h0 := hf 0 { name := "Series", type := 9, offset := 0, embedded := false, tag := "", pkgPath := "", byteOffset := 0 } rfl
    have h1 := hf 1 { name := "Field", type := 9, offset := 1, embedded := false, tag := "", pkgPath := "", byteOffset := 16 } rfl
    have h2 := hf 2 { name := "From", type := 2, offset := 2, embedded := false, tag := "", pkgPath := "", byteOffset := 32 } rfl
    have h3 := hf 3 { name := "To", type := 2, offset := 3, embedded := false, tag := "", pkgPath := "", byteOffset := 40 } rfl
    rw [List.getElem?_eq_getElem (by rw [hyl]; decide)] at h0 h1 h2 h3
    simp only [cells2', cells9, List.drop_zero, List.drop_succ_cons, List.take_succ_cons, List.take_zero] at h0 h1 h2 h3
    obtain ⟨s, hs, _, _⟩ := DataW.trod_string Try.underlying9 h0
    obtain ⟨f, hf', _, _⟩ := DataW.trod_string Try.underlying9 h1
    obtain ⟨a, ha, _, wa⟩ := DataW.trod_int Try.underlying2 h2
    obtain ⟨b, hb, _, wb⟩ := DataW.trod_int Try.underlying2 h3
    cases hs; cases hf'; cases ha; cases hb
    exact ⟨(s, f, a, b), ⟨bnd64 wa, bnd64 wb⟩, rfl⟩
set_option maxRecDepth 100000 in
theorem open_tombs {H : Type} {enc : TypeId × Value → H} {W : World} {v : Value} {d : DataW H} {ps : List MemPlace} (hv : ∃ a len cap, v = .slice a len cap) (h : DataW.Trod enc Try.prog W 0 (fun _ => true) true 22 v d ps) :
    ∃ L : List Tmb, Ti W v L ∧ (L = [] ∨ ∃ es sp, d = .slice es sp ∧ L.length = es.length) := by
  obtain ⟨a0, len0, cap0, rfl⟩ := hv
  obtain ⟨fuel, hf⟩ := h
  rcases open_slice Try.underlying22 hf with ⟨hcs, _⟩ | ⟨a, len, cap, m, n, D, Pl, hcs, _, hl, _, hm, hx, hi⟩
  · simp [Value.cells] at hcs
    obtain ⟨rfl, rfl, rfl⟩ := hcs
    exact ⟨[], ⟨by simp, .inl ⟨_, _, rfl, rfl⟩⟩, .inl rfl⟩
  · simp [Value.cells] at hcs
    obtain ⟨rfl, rfl, rfl⟩ := hcs
    have hm' : m = cap0 := by simpa using hm
    have key : ∀ i, ∃ y : Tmb, i < len0 → Wt y ∧ ∀ j u, (tc y)[j]? = some u → W.cell? ((a.add (i * 4)).add j) = some u := by
      intro i
      by_cases h0 : i < len0
      · obtain ⟨cs, h1, h2⟩ := hi i (by omega)
        obtain ⟨_, hcl, hat⟩ := World.cells?_some h1
        rw [cells44] at hcl hat
        obtain ⟨y, hy, hc⟩ := tmb_of hcl h2
        refine ⟨y, fun _ => ⟨hy, fun j u hj => ?_⟩⟩
        rw [hc] at hj
        have hj9 : j < 4 := by rw [← hcl]; exact (List.getElem?_eq_some_iff.1 hj).1
        have := hat j hj9
        rw [hj] at this
        exact this
      · exact ⟨t0, fun h => absurd h h0⟩
    obtain ⟨f, hf'⟩ : ∃ f : Nat → Tmb, ∀ i, i < len0 → Wt (f i) ∧ ∀ j u, (tc (f i))[j]? = some u → W.cell? ((a.add (i * 4)).add j) = some u := ⟨fun i => Classical.choose (key i), fun i => Classical.choose_spec (key i)⟩
    have hlen : ((List.range len0).map f).length = len0 := by simp
    refine ⟨(List.range len0).map f, ⟨?_, ?_⟩, .inr ⟨_, _, congrArg Prod.fst hx, by simp⟩⟩
    · intro y hy
      obtain ⟨i, hi', rfl⟩ := List.mem_map.1 hy
      exact (hf' i (List.mem_range.1 hi')).1
    · by_cases h0 : len0 = 0
      · subst h0; exact .inl ⟨_, _, rfl, rfl⟩
      · obtain ⟨b, off, spot⟩ := a
        have hc0 := (hf' 0 (by omega)).2 0 _ rfl
        have hspot : spot = none := by simpa [Addr.add] using World.cell?_spot hc0
        subst hspot
        have hadd : ∀ i j, ((⟨b, off, none⟩ : Addr).add (i * 4)).add j = ⟨b, off + i * 4 + j, none⟩ := by
          intro i j
          unfold Addr.add
          split <;> split <;> simp_all
        refine .inr ⟨b, off, cap0, by rw [hlen], by rw [hlen]; exact hl, by have := cell_lt hc0; rw [hadd] at this; exact this, fun i hi' => ?_⟩
        rw [hlen] at hi'
        have hg : ((List.range len0).map f).getD i t0 = f i := by simp [List.getD_eq_getElem?_getD, hi']
        rw [hg]
        have g := (hf' i hi').2
        have g0 := g 0 _ rfl
        have g1 := g 1 _ rfl
        have g2 := g 2 _ rfl
        have g3 := g 3 _ rfl
        rw [hadd] at g0 g1 g2 g3
        exact ⟨g0, g1, g2, g3⟩
theorem cells53 : Try.prog.cellsOf 53 = 3 := by kernel_rfl
theorem cells51 : Try.prog.cellsOf 51 = 1 := by kernel_rfl
/-- The cells of a column that came in. -/
def CAt (W : World) (b o : Nat) (c : Kp) : Prop := ∃ ra rc, c.2.length * 40 ≤ 140737488355328 ∧ W.cell? ⟨b, o, none⟩ = some (.string c.1.1) ∧ W.cell? ⟨b, o + 1, none⟩ = some (.string c.1.2) ∧ W.cell? ⟨b, o + 2, none⟩ = some (.slice ra c.2.length rc) ∧ Pi W (.slice ra c.2.length rc) c.2
/-- What is asked of the points' slices that are met. -/
def Fits {H : Type} (d : DataW H) : Prop := ∀ (cols spare parts es sp : List (DataW H)) (i : Nat), d = .slice cols spare → cols[i]? = some (.agg parts) → parts[2]? = some (.slice es sp) → es.length * 40 ≤ 140737488355328
set_option maxRecDepth 100000 in
theorem col_of {H : Type} {enc : TypeId × Value → H} {W : World} {n : Nat} {cs : List Value} {x : DataW H × List MemPlace} (hl : cs.length = 3)
    (h : DataW.trod enc Try.prog W 0 (fun _ => true) true n 53 cs = some x) (hb : ∀ parts es sp, x.1 = .agg parts → parts[2]? = some (.slice es sp) → es.length * 40 ≤ 140737488355328) :
    ∃ (c : Kp) (ra : Option Addr) (rc : Nat), c.2.length * 40 ≤ 140737488355328 ∧ cs = [.string c.1.1, .string c.1.2, .slice ra c.2.length rc] ∧ Pi W (.slice ra c.2.length rc) c.2 := by
  obtain ⟨ys, m, _, hx, _, hyl, hf⟩ := DataW.trod_struct Try.underlying53 h
  match cs, hl with
  | [c0, c1, c2], _ =>
    have h0 := hf 0 { name := "Series", type := 9, offset := 0, embedded := false, tag := "", pkgPath := "", byteOffset := 0 } rfl
    have h1 := hf 1 { name := "Field", type := 9, offset := 1, embedded := false, tag := "", pkgPath := "", byteOffset := 16 } rfl
    have h2 := hf 2 { name := "Points", type := 51, offset := 2, embedded := false, tag := "", pkgPath := "", byteOffset := 32 } rfl
    have e2 : ys[2]? = some (ys[2]'(by rw [hyl]; decide)) := List.getElem?_eq_getElem (by rw [hyl]; decide)
    rw [List.getElem?_eq_getElem (by rw [hyl]; decide)] at h0 h1 h2
    simp only [cells51, cells9, List.drop_zero, List.drop_succ_cons, List.take_succ_cons, List.take_zero] at h0 h1 h2
    obtain ⟨s, hs, _, _⟩ := DataW.trod_string Try.underlying9 h0
    obtain ⟨f, hf', _, _⟩ := DataW.trod_string Try.underlying9 h1
    cases hs; cases hf'
    generalize hy2 : ys[2]'(by rw [hyl]; decide) = y2 at h2 e2
    obtain ⟨d2, q2⟩ := y2
    have hv : ∃ a len cap, c2 = .slice a len cap := by
      rcases open_slice Try.underlying51 h2 with ⟨hcs, _⟩ | ⟨a, len, cap, _, _, _, _, hcs, _⟩
      · cases hcs; exact ⟨_, _, _, rfl⟩
      · cases hcs; exact ⟨_, _, _, rfl⟩
    obtain ⟨a, len, cap, rfl⟩ := hv
    obtain ⟨T, hT, hlen⟩ := open_pnts (d := d2) (ps := q2) ⟨a, len, cap, rfl⟩ ⟨m, by simpa [Value.cells] using h2⟩
    obtain ⟨a', c', e⟩ := hT.forms
    cases e
    refine ⟨((s, f), T), a, cap, ?_, rfl, hT⟩
    rcases hlen with rfl | ⟨es, sp, e3, hlen⟩
    · simp
    · simp only
      rw [hlen]
      exact hb (ys.map (·.1)) es sp (by rw [hx]) (by rw [List.getElem?_map, e2, Option.map_some, e3])
set_option maxRecDepth 100000 in
theorem open_cols {H : Type} {enc : TypeId × Value → H} {W : World} {v : Value} {d : DataW H} {ps : List MemPlace} (hb : Fits d) (hv : ∃ a len cap, v = .slice a len cap) (h : DataW.Trod enc Try.prog W 0 (fun _ => true) true 38 v d ps) :
    ∃ C : List Kp, Ci W v C ∧ (C = [] ∨ ∃ es sp, d = .slice es sp ∧ C.length = es.length) := by
  obtain ⟨a0, len0, cap0, rfl⟩ := hv
  obtain ⟨fuel, hf⟩ := h
  rcases open_slice Try.underlying38 hf with ⟨hcs, _⟩ | ⟨a, len, cap, m, n, D, Pl, hcs, _, hl, _, hm, hx, hi⟩
  · simp [Value.cells] at hcs
    obtain ⟨rfl, rfl, rfl⟩ := hcs
    exact ⟨[], ⟨_, _, rfl, fun i hi => by simp at hi⟩, .inl rfl⟩
  · simp [Value.cells] at hcs
    obtain ⟨rfl, rfl, rfl⟩ := hcs
    have hm' : m = cap0 := by simpa using hm
    have hd : d = .slice ((List.range len0).map D) ((List.range (m - len0)).map fun j => D (len0 + j)) := congrArg Prod.fst hx
    have key : ∀ i, ∃ c : Kp, i < len0 → ∃ (ra : Option Addr) (rc : Nat), c.2.length * 40 ≤ 140737488355328 ∧ Pi W (.slice ra c.2.length rc) c.2 ∧ ∀ j u, [Value.string c.1.1, .string c.1.2, .slice ra c.2.length rc][j]? = some u → W.cell? ((a.add (i * 3)).add j) = some u := by
      intro i
      by_cases h0 : i < len0
      · obtain ⟨cs, h1, h2⟩ := hi i (by omega)
        obtain ⟨_, hcl, hat⟩ := World.cells?_some h1
        rw [cells53] at hcl hat
        obtain ⟨c, ra, rc, g1, g2, g3⟩ := col_of hcl h2 (fun parts es sp e1 e2 => hb _ _ parts es sp i hd (by rw [List.getElem?_map, List.getElem?_range h0]; exact congrArg some e1) e2)
        refine ⟨c, fun _ => ⟨ra, rc, g1, g3, fun j u hj => ?_⟩⟩
        rw [← g2] at hj
        have hj9 : j < 3 := by rw [← hcl]; exact (List.getElem?_eq_some_iff.1 hj).1
        have := hat j hj9
        rw [hj] at this
        exact this
      · exact ⟨c0, fun h => absurd h h0⟩
    obtain ⟨f, hf'⟩ : ∃ f : Nat → Kp, ∀ i, i < len0 → ∃ (ra : Option Addr) (rc : Nat), (f i).2.length * 40 ≤ 140737488355328 ∧ Pi W (.slice ra (f i).2.length rc) (f i).2 ∧ ∀ j u, [Value.string (f i).1.1, .string (f i).1.2, .slice ra (f i).2.length rc][j]? = some u → W.cell? ((a.add (i * 3)).add j) = some u := ⟨fun i => Classical.choose (key i), fun i => Classical.choose_spec (key i)⟩
    have hlen : ((List.range len0).map f).length = len0 := by simp
    refine ⟨(List.range len0).map f, ⟨some a, cap0, by rw [hlen], fun i hi' => ?_⟩, .inr ⟨_, _, hd, by simp⟩⟩
    rw [hlen] at hi' ⊢
    obtain ⟨b, off, spot⟩ := a
    have hspot : spot = none := by
      obtain ⟨_, _, _, _, g⟩ := hf' 0 (by omega)
      simpa [Addr.add] using World.cell?_spot (g 0 _ rfl)
    subst hspot
    obtain ⟨ra, rc, g1, g2, g⟩ := hf' i hi'
    have hadd : ∀ i j, ((⟨b, off, none⟩ : Addr).add (i * 3)).add j = ⟨b, off + i * 3 + j, none⟩ := by
      intro i j
      unfold Addr.add
      split <;> split <;> simp_all
    have hg : ((List.range len0).map f).getD i c0 = f i := by simp [List.getD_eq_getElem?_getD, hi']
    rw [hg]
    have h0 := g 0 _ rfl
    have h1 := g 1 _ rfl
    have h2 := g 2 _ rfl
    rw [hadd] at h0 h1 h2
    exact ⟨b, off, ra, rc, rfl, hl, cell_lt h0, g1, h0, h1, h2, g2⟩
end Oa
end Go.Proofs.Ytmlbmiegfeadjaa
