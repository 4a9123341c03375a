/- Lists of columns that came in. -/
import Derived.Test.YthaadpijfkmdiaaNu
import Derived.Test.YthaadpijfkmdiaaJu2
import Derived.Deep.Slices
import Derived.ChangeSame
namespace Go.Proofs.Ythaadpijfkmdiaa
open Go.ChangeShapes Go.WideShapes Go.Deep
namespace Ov
open Jb Ca Ga Nm Na Nj Nk No Nu Jt Ju2

theorem cells63 : Try.prog.cellsOf 63 = 3 := by kernel_rfl
theorem cells65 : Try.prog.cellsOf 65 = 4 := by kernel_rfl
theorem cells42 : Try.prog.cellsOf 42 = 3 := by kernel_rfl
theorem cells40 : Try.prog.cellsOf 40 = 1 := by kernel_rfl
theorem cells25 : Try.prog.cellsOf 25 = 1 := by kernel_rfl
theorem cells3' : Try.prog.cellsOf 3 = 1 := by kernel_rfl
theorem cells2' : Try.prog.cellsOf 2 = 1 := by kernel_rfl
theorem cells61 : Try.prog.cellsOf 61 = 1 := by kernel_rfl
theorem cells9 : Try.prog.cellsOf 9 = 1 := by kernel_rfl
set_option maxRecDepth 100000 in
theorem val_of {H : Type} {enc : TypeId × Value → H} {W : World} {n : Nat} {e0 e1 e2 : Value} {x : DataW H × List MemPlace}
    (h : DataW.trod enc Try.prog W 0 (fun _ => true) true n 63 [e0, e1, e2] = some x) : ∃ (k z : Int) (s : ByteArray), e0 = .int .i64 k ∧ e1 = .int .u64 z ∧ e2 = .string s := by
  obtain ⟨ys, m, _, _, _, hyl, hf⟩ := DataW.trod_struct Try.underlying63 h
  have h0 := hf 0 { name := "Kind", type := 3, offset := 0, embedded := false, tag := "", pkgPath := "", byteOffset := 0 } rfl
  have h1 := hf 1 { name := "Bits", type := 61, offset := 1, embedded := false, tag := "", pkgPath := "", byteOffset := 8 } rfl
  have h2 := hf 2 { name := "Text", type := 9, offset := 2, embedded := false, tag := "", pkgPath := "", byteOffset := 16 } rfl
  rw [List.getElem?_eq_getElem (by rw [hyl]; decide)] at h0 h1 h2
  simp only [cells3', cells61, cells9, List.drop_zero, List.drop_succ_cons, List.take_succ_cons, List.take_zero] at h0 h1 h2
  obtain ⟨k, hk, _, _⟩ := DataW.trod_int Try.underlying3 h0
  obtain ⟨z, hz, _, _⟩ := DataW.trod_int Try.underlying61 h1
  obtain ⟨s, hs, _, _⟩ := DataW.trod_string Try.underlying9 h2
  cases hk; cases hz; cases hs
  exact ⟨k, z, s, rfl, rfl, rfl⟩
set_option maxRecDepth 100000 in
theorem pnt_of {H : Type} {enc : TypeId × Value → H} {W : World} {n : Nat} {cs : List Value} {x : DataW H × List MemPlace} (hl : cs.length = 4)
    (h : DataW.trod enc Try.prog W 0 (fun _ => true) true n 65 cs = some x) : ∃ y : V4, Dt y ∧ One y ∧ c4 y = cs := by
  obtain ⟨ys, m, _, _, _, hyl, hf⟩ := DataW.trod_struct Try.underlying65 h
  match cs, hl with
  | [e0, e1, e2, e3], _ =>
    have h0 := hf 0 { name := "Time", type := 2, offset := 0, embedded := false, tag := "", pkgPath := "", byteOffset := 0 } rfl
    have h1 := hf 1 { name := "Value", type := 63, offset := 1, embedded := false, tag := "", pkgPath := "", byteOffset := 8 } rfl
    rw [List.getElem?_eq_getElem (by rw [hyl]; decide)] at h0 h1
    simp only [cells2', cells63, List.drop_zero, List.drop_succ_cons, List.take_succ_cons, List.take_zero] at h0 h1
    obtain ⟨t, ht, _, _⟩ := DataW.trod_int Try.underlying2 h0
    obtain ⟨k, z, s, rfl, rfl, rfl⟩ := val_of h1
    cases ht
    refine ⟨(.int .i64 t, .int .i64 k, .int .u64 z, .string s), ⟨t, k, z, s, rfl⟩, fun u hu => ?_, rfl⟩
    simp only [c4, List.mem_cons, List.not_mem_nil, or_false] at hu
    rcases hu with rfl | rfl | rfl | rfl <;> rfl
theorem hadd (b off i j k : Nat) : ((⟨b, off, none⟩ : Addr).add (i * k)).add j = ⟨b, off + i * k + j, none⟩ := by
  unfold Addr.add
  split <;> split <;> simp_all
set_option maxRecDepth 100000 in
/-- The points of a column. -/
theorem open_pnts {H : Type} {enc : TypeId × Value → H} {W : World} {n0 : Nat} {u : Value} {x : DataW H × List MemPlace} (h : DataW.trod enc Try.prog W 0 (fun _ => true) true n0 40 [u] = some x) :
    ∃ L : List V4, Sl W u L ∧ (∀ z ∈ L, Dt z ∧ One z) ∧ L.length ≤ Rows.uptoBulk x.1 := by
  rcases open_slice Try.underlying40 h with ⟨hcs, rfl⟩ | ⟨a, len, cap, m, n, D, Pl, hcs, _, hl, _, hm, hx, hi⟩
  · cases hcs
    exact ⟨[], sl_nil W, (fun z hz => (by cases hz)), Nat.zero_le _⟩
  · cases hcs
    have hm' : m = cap := by simpa using hm
    have key : ∀ i, ∃ y : V4, i < len → Dt y ∧ One y ∧ ∀ j v, (c4 y)[j]? = some v → W.cell? ((a.add (i * 4)).add j) = some v := by
      intro i
      by_cases h0 : i < len
      · obtain ⟨cs, h1, h2⟩ := hi i (by omega)
        obtain ⟨_, hcl, hat⟩ := World.cells?_some h1
        rw [cells65] at hcl hat
        obtain ⟨y, hy, ho, hc⟩ := pnt_of hcl h2
        refine ⟨y, fun _ => ⟨hy, ho, fun j v hj => ?_⟩⟩
        rw [hc] at hj
        have hj9 : j < 4 := by rw [← hcl]; exact (List.getElem?_eq_some_iff.1 hj).1
        have := hat j hj9
        rw [hj] at this
        exact this
      · exact ⟨d4, fun h => absurd h h0⟩
    obtain ⟨f, hf⟩ : ∃ f : Nat → V4, ∀ i, i < len → Dt (f i) ∧ One (f i) ∧ ∀ j v, (c4 (f i))[j]? = some v → W.cell? ((a.add (i * 4)).add j) = some v := ⟨fun i => Classical.choose (key i), fun i => Classical.choose_spec (key i)⟩
    have hlen : ((List.range len).map f).length = len := by simp
    refine ⟨(List.range len).map f, ?_, fun z hz => ?_, ?_⟩
    · by_cases h0 : len = 0
      · subst h0; exact .inl ⟨_, _, rfl, rfl, fun h => by cases h⟩
      · obtain ⟨b, off, spot⟩ := a
        have hc0 := (hf 0 (by omega)).2.2 0 _ rfl
        have hspot : spot = none := by simpa [Addr.add] using World.cell?_spot hc0
        subst hspot
        refine .inr ⟨b, off, cap, by rw [hlen], by rw [hlen]; exact hl, by have := cell_lt hc0; rw [hadd] at this; exact this, fun i hi' => ?_⟩
        rw [hlen] at hi'
        have hg : ((List.range len).map f).getD i d4 = f i := by simp [List.getD_eq_getElem?_getD, hi']
        rw [hg]
        have g := (hf i hi').2.2
        have g0 := g 0 _ rfl
        have g1 := g 1 _ rfl
        have g2 := g 2 _ rfl
        have g3 := g 3 _ rfl
        rw [hadd] at g0 g1 g2 g3
        exact ⟨g0, g1, g2, g3⟩
    · obtain ⟨i, hi', rfl⟩ := List.mem_map.1 hz
      have := hf i (List.mem_range.1 hi')
      exact ⟨this.1, this.2.1⟩
    · rw [hlen, hx]
      simp only [Rows.uptoBulk]
      have := length_le ((List.range len).map D)
      simp at this
      omega
set_option maxRecDepth 100000 in
theorem col_of {H : Type} {enc : TypeId × Value → H} {W : World} {n : Nat} {cs : List Value} {x : DataW H × List MemPlace} (hl : cs.length = 3)
    (h : DataW.trod enc Try.prog W 0 (fun _ => true) true n 42 cs = some x) :
    ∃ (c : C3) (L : List V4), cc c = cs ∧ Sl W c.2.2 L ∧ (∀ z ∈ L, Dt z ∧ One z) ∧ 1 + L.length ≤ Rows.uptoBulk x.1 := by
  obtain ⟨ys, m, _, hx, _, hyl, hf⟩ := DataW.trod_struct Try.underlying42 h
  match cs, hl with
  | [e0, e1, e2], _ =>
    have h0 := hf 0 { name := "Series", type := 9, offset := 0, embedded := false, tag := "", pkgPath := "", byteOffset := 0 } rfl
    have h1 := hf 1 { name := "Field", type := 9, offset := 1, embedded := false, tag := "", pkgPath := "", byteOffset := 16 } rfl
    have h2 := hf 2 { name := "Points", type := 40, offset := 2, embedded := false, tag := "", pkgPath := "", byteOffset := 32 } rfl
    have e9 : ys[2]? = some (ys[2]'(by rw [hyl]; decide)) := List.getElem?_eq_getElem (by rw [hyl]; decide)
    rw [List.getElem?_eq_getElem (by rw [hyl]; decide)] at h0 h1 h2
    simp only [cells40, cells9, List.drop_zero, List.drop_succ_cons, List.take_succ_cons, List.take_zero] at h0 h1 h2
    obtain ⟨s, hs, _, _⟩ := DataW.trod_string Try.underlying9 h0
    obtain ⟨f, hf', _, _⟩ := DataW.trod_string Try.underlying9 h1
    cases hs; cases hf'
    generalize hy2 : ys[2]'(by rw [hyl]; decide) = y2 at h2 e9
    obtain ⟨L, hL, hD, hb⟩ := open_pnts h2
    refine ⟨(s, f, e2), L, rfl, hL, hD, ?_⟩
    rw [hx]
    simp only [Rows.uptoBulk]
    have := bulk_mem (l := ys.map (·.1)) (d := y2.1) (List.mem_map_of_mem (getE_mem e9))
    omega
set_option maxRecDepth 100000 in
/-- The columns of a list. -/
theorem open_cols {H : Type} {enc : TypeId × Value → H} {W : World} {n0 : Nat} {u : Value} {x : DataW H × List MemPlace} (h : DataW.trod enc Try.prog W 0 (fun _ => true) true n0 25 [u] = some x) :
    ∃ C : List C3, Cs W u C ∧ (∀ c ∈ C, ∃ L, Sl W c.2.2 L ∧ ∀ z ∈ L, Dt z ∧ One z) ∧ C.length + tot1 (pch W) C ≤ Rows.uptoBulk x.1 := by
  rcases open_slice Try.underlying25 h with ⟨hcs, rfl⟩ | ⟨a, len, cap, m, n, D, Pl, hcs, _, hl, _, hm, hx, hi⟩
  · cases hcs
    exact ⟨[], ⟨_, _, rfl, (fun i hi => (by simp at hi))⟩, (fun z hz => (by cases hz)), by simp [tot1]⟩
  · cases hcs
    have hm' : m = cap := by simpa using hm
    have key : ∀ i, ∃ y : C3, i < len → (∃ L, Sl W y.2.2 L ∧ (∀ z ∈ L, Dt z ∧ One z) ∧ 1 + L.length ≤ Rows.uptoBulk (D i)) ∧ ∀ j v, (cc y)[j]? = some v → W.cell? ((a.add (i * 3)).add j) = some v := by
      intro i
      by_cases h0 : i < len
      · obtain ⟨cs, h1, h2⟩ := hi i (by omega)
        obtain ⟨_, hcl, hat⟩ := World.cells?_some h1
        rw [cells42] at hcl hat
        obtain ⟨y, L, hc, hL, hD, hb⟩ := col_of hcl h2
        refine ⟨y, fun _ => ⟨⟨L, hL, hD, hb⟩, fun j v hj => ?_⟩⟩
        rw [hc] at hj
        have hj9 : j < 3 := by rw [← hcl]; exact (List.getElem?_eq_some_iff.1 hj).1
        have := hat j hj9
        rw [hj] at this
        exact this
      · exact ⟨c0, fun h => absurd h h0⟩
    obtain ⟨f, hf⟩ : ∃ f : Nat → C3, ∀ i, i < len → (∃ L, Sl W (f i).2.2 L ∧ (∀ z ∈ L, Dt z ∧ One z) ∧ 1 + L.length ≤ Rows.uptoBulk (D i)) ∧ ∀ j v, (cc (f i))[j]? = some v → W.cell? ((a.add (i * 3)).add j) = some v := ⟨fun i => Classical.choose (key i), fun i => Classical.choose_spec (key i)⟩
    have hlen : ((List.range len).map f).length = len := by simp
    refine ⟨(List.range len).map f, ⟨some a, cap, by rw [hlen], fun i hi' => ?_⟩, fun c hc => ?_, ?_⟩
    · rw [hlen] at hi' ⊢
      obtain ⟨b, off, spot⟩ := a
      have hc0 := (hf 0 (by omega)).2 0 _ rfl
      have hspot : spot = none := by simpa [Addr.add] using World.cell?_spot hc0
      subst hspot
      have hg : ((List.range len).map f).getD i c0 = f i := by simp [List.getD_eq_getElem?_getD, hi']
      rw [hg]
      have g := (hf i hi').2
      have g0 := g 0 _ rfl
      have g1 := g 1 _ rfl
      have g2 := g 2 _ rfl
      rw [hadd] at g0 g1 g2
      exact ⟨b, off, rfl, hl, by have := cell_lt g0; exact this, g0, g1, g2⟩
    · obtain ⟨i, hi', rfl⟩ := List.mem_map.1 hc
      obtain ⟨⟨L, h1, h2, _⟩, _⟩ := hf i (List.mem_range.1 hi')
      exact ⟨L, h1, h2⟩
    · rw [hlen, hx]
      simp only [Rows.uptoBulk]
      have h1 := bulk_sum f D (fun c => 1 + (pch W c.2.2).length) (List.range len) (fun i hi' => by
        obtain ⟨⟨L, h1, h2, h3⟩, _⟩ := hf i (List.mem_range.1 hi')
        show 1 + (pch W (f i).2.2).length ≤ _
        rw [pch_eq h1 h2]; exact h3)
      have h2 : ∀ l : List C3, (l.map fun c => 1 + (pch W c.2.2).length).sum = l.length + tot1 (pch W) l := by
        intro l
        induction l with
        | nil => rfl
        | cons y r ih => simp only [List.map_cons, List.sum_cons, ih, List.length_cons, tot1]; omega
      rw [h2, hlen] at h1
      omega
set_option maxRecDepth 100000 in
/-- Lists of columns. -/
theorem open_lists {H : Type} {enc : TypeId × Value → H} {W : World} {v : Value} {d : DataW H} {ps : List MemPlace} (hv : ∃ a len cap, v = .slice a len cap) (h : DataW.Trod enc Try.prog W 0 (fun _ => true) true 22 v d ps) :
    ∃ CC : List (List C3), Rc W v CC ∧ (∀ a n c, v = .slice a n c → n ≤ c ∧ (a = none → c = 0)) ∧ (∀ C ∈ CC, ∀ c ∈ C, ∃ L, Sl W c.2.2 L ∧ ∀ z ∈ L, Dt z ∧ One z) ∧ CC.length ≤ Rows.uptoBulk d ∧ CC.flatten.length + tot (pch W) CC ≤ Rows.uptoBulk d := by
  obtain ⟨a0, len0, cap0, rfl⟩ := hv
  obtain ⟨fuel, hf⟩ := h
  rcases open_slice Try.underlying22 hf with ⟨hcs, _⟩ | ⟨a, len, cap, m, n, D, Pl, hcs, _, hl, _, hm, hx, hi⟩
  · simp [Value.cells] at hcs
    obtain ⟨rfl, rfl, rfl⟩ := hcs
    exact ⟨[], ⟨_, _, rfl, (fun i hi => (by simp at hi))⟩, (fun a n c e => (by cases e; exact ⟨Nat.le_refl _, fun _ => rfl⟩)), (fun z hz => (by cases hz)), by simp, by simp [tot]⟩
  · simp [Value.cells] at hcs
    obtain ⟨rfl, rfl, rfl⟩ := hcs
    have hm' : m = cap0 := by simpa using hm
    have hd : d = .slice ((List.range len0).map D) ((List.range (m - len0)).map fun j => D (len0 + j)) := congrArg Prod.fst hx
    have key : ∀ i, ∃ C : List C3, i < len0 → (∃ u, W.cell? ((a.add (i * 1)).add 0) = some u ∧ Cs W u C) ∧ (∀ c ∈ C, ∃ L, Sl W c.2.2 L ∧ ∀ z ∈ L, Dt z ∧ One z) ∧ C.length + tot1 (pch W) C ≤ Rows.uptoBulk (D i) := by
      intro i
      by_cases h0 : i < len0
      · obtain ⟨cs, h1, h2⟩ := hi i (by omega)
        obtain ⟨_, hcl, hat⟩ := World.cells?_some h1
        rw [cells25] at hcl hat
        match cs, hcl with
        | [u], _ =>
          obtain ⟨C, hC, hP, hb⟩ := open_cols h2
          exact ⟨C, fun _ => ⟨⟨u, hat 0 (by decide), hC⟩, hP, hb⟩⟩
      · exact ⟨[], fun h => absurd h h0⟩
    obtain ⟨f, hf'⟩ : ∃ f : Nat → List C3, ∀ i, i < len0 → (∃ u, W.cell? ((a.add (i * 1)).add 0) = some u ∧ Cs W u (f i)) ∧ (∀ c ∈ f i, ∃ L, Sl W c.2.2 L ∧ ∀ z ∈ L, Dt z ∧ One z) ∧ (f i).length + tot1 (pch W) (f i) ≤ Rows.uptoBulk (D i) := ⟨fun i => Classical.choose (key i), fun i => Classical.choose_spec (key i)⟩
    have hlen : ((List.range len0).map f).length = len0 := by simp
    refine ⟨(List.range len0).map f, ⟨some a, cap0, by rw [hlen], fun i hi' => ?_⟩, (fun a n c e => (by cases e; exact ⟨hl, fun h => (by cases h)⟩)), fun C hC => ?_, ?_, ?_⟩
    · rw [hlen] at hi' ⊢
      obtain ⟨b, off, spot⟩ := a
      obtain ⟨⟨_, hc0, _⟩, _⟩ := hf' 0 (by omega)
      have hspot : spot = none := by simpa [Addr.add] using World.cell?_spot hc0
      subst hspot
      have hg : ((List.range len0).map f).getD i [] = f i := by simp [List.getD_eq_getElem?_getD, hi']
      rw [hg]
      obtain ⟨⟨u, g0, hC⟩, _⟩ := hf' i hi'
      rw [hadd] at g0
      simp only [Nat.mul_one, Nat.add_zero] at g0
      exact ⟨b, off, u, rfl, hl, by have := cell_lt g0; exact this, g0, hC⟩
    · obtain ⟨i, hi', rfl⟩ := List.mem_map.1 hC
      exact (hf' i (List.mem_range.1 hi')).2.1
    · rw [hlen, hd]
      simp only [Rows.uptoBulk]
      have := length_le ((List.range len0).map D)
      simp at this
      omega
    · rw [hd]
      simp only [Rows.uptoBulk]
      have h1 := bulk_sum f D (fun C => C.length + tot1 (pch W) C) (List.range len0) (fun i hi' => (hf' i (List.mem_range.1 hi')).2.2)
      have h2 : ∀ l : List (List C3), (l.map fun C => C.length + tot1 (pch W) C).sum = l.flatten.length + tot (pch W) l := by
        intro l
        induction l with
        | nil => rfl
        | cons y r ih => simp only [List.map_cons, List.sum_cons, ih, List.flatten_cons, List.length_append, tot]; omega
      rw [h2] at h1
      omega
end Ov
end Go.Proofs.Ythaadpijfkmdiaa
