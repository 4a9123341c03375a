import Derived.Test.YtbnicnhkakbglaaGreatDoorG06
import Derived.Test.YtbnicnhkakbglaaGreatDoorG21
import Derived.Test.YtbnicnhkakbglaaGreatDoorG31
import Derived.Test.YtbnicnhkakbglaaGreatDoorG22
import Derived.Lib.AtoiErrMem
import Derived.Laws.Externs
import Derived.Test.YtbnicnhkakbglaaGreatDoorG09

/- What is laid, as the contracts want it. -/
namespace Go.Proofs.YtbnicnhkakbglaaGreatDoor
open Go.ChangeShapes Go.WideShapes Go.Deep Go.RowKit
namespace Md
open Mc Mp Dc

theorem gP : Tryz.prog.globalNamed "internal/strconv.pow10Tab" = some 13 := by kernel_rfl
theorem tP : (Tryz.prog.globals[13]?).map (·.type) = some 283 := by kernel_rfl
theorem gC : Tryz.prog.globalNamed "internal/strconv.leftcheats" = some 16 := by kernel_rfl
theorem tC : (Tryz.prog.globals[16]?).map (·.type) = some 295 := by kernel_rfl
theorem gT : Tryz.prog.globalNamed "internal/strconv.powtab" = some 9 := by kernel_rfl
theorem tT : (Tryz.prog.globals[9]?).map (·.type) = some 45 := by kernel_rfl
theorem gF : Tryz.prog.globalNamed "internal/strconv.float64pow10" = some 10 := by kernel_rfl
theorem tF : (Tryz.prog.globals[10]?).map (·.type) = some 263 := by kernel_rfl
theorem gI : Tryz.prog.globalNamed "internal/strconv.float64info" = some 7 := by kernel_rfl
theorem tI : (Tryz.prog.globals[7]?).map (·.type) = some 207 := by kernel_rfl
theorem gO : Tryz.prog.globalNamed "internal/strconv.optimize" = some 6 := by kernel_rfl
theorem tO : (Tryz.prog.globals[6]?).map (·.type) = some 4 := by kernel_rfl
theorem gE : Tryz.prog.globalNamed "strconv.ErrRange" = some 2 := by kernel_rfl
theorem tE : (Tryz.prog.globals[2]?).map (·.type) = some 71 := by kernel_rfl
theorem cells1 : Tryz.prog.cellsOf 282 = 2 := by kernel_rfl
theorem cells2 : Tryz.prog.cellsOf 294 = 2 := by kernel_rfl
theorem cells3 : Tryz.prog.cellsOf 3 = 1 := by kernel_rfl
theorem cells9 : Tryz.prog.cellsOf 9 = 1 := by kernel_rfl
theorem cells23 : Tryz.prog.cellsOf 59 = 1 := by kernel_rfl
theorem cellsf : Tryz.prog.cellsOf 63 = 1 := by kernel_rfl
theorem cellsI : Tryz.prog.cellsOf 207 = 3 := by kernel_rfl
/-- A variable whose reading is one cell. -/
theorem one_cell {W : World} {g : Nat} {n : String} {cs : Array Value} {v : Value} (hg : Tryz.prog.globalNamed n = some g) (h3 : W.var? Tryz.prog n = some cs) (hc : cs.toList = [v]) : W.cell? ⟨g, 0, none⟩ = some v := by
  refine (World.var?_cell hg h3 0).trans ?_
  have : cs.toList[0]? = some v := by rw [hc]; rfl
  simpa using this
abbrev L := Rows.valueParsesRow.laid

set_option maxRecDepth 100000 in
theorem pow_of {W : World} (h : laidMet Tryz.prog L W) (i : Nat) (hi : i < 696) : W.cell? ⟨13, i * 2, none⟩ = some (.int .u64 (ph i : Nat)) ∧ W.cell? ⟨13, i * 2 + 1, none⟩ = some (.int .u64 (pl i : Nat)) := by
  obtain ⟨g, t, cs, fuel, p, h1, h2, h3, h4⟩ := Lib.laidMet.reads h (n := "internal/strconv.pow10Tab") (d := Rows.laid_internal_strconv_pow10Tab) (by simp [L, Rows.valueParsesRow])
  obtain rfl := Option.some.inj (gP.symm.trans h1)
  obtain rfl := Option.some.inj (tP.symm.trans h2)
  obtain ⟨f', d, q, hd, ht⟩ := Lib.array_elem (ds := _) Tryz.underlying283 (show DataW.trod _ _ W 0 _ false fuel 283 cs.toList = some (.agg _, p) from h4) i hi
  have hl : i < Go.Pinned.pow10Rows.length := by rw [pow_len]; exact hi
  have hx : Go.Pinned.pow10Rows[i]? = some (ph i, pl i) := by
    unfold ph pl
    rw [List.getD_eq_getElem?_getD, List.getElem?_eq_getElem hl]
    rfl
  rw [List.getElem?_map, hx] at hd
  injection hd with hd
  subst hd
  have hs := Lib.ints_of_struct (k := .u64) (zs := [((ph i : Nat) : Int), ((pl i : Nat) : Int)]) Tryz.underlying282 (fun i f hf => by
    match i, hf with
    | 0, hf => cases hf; exact ⟨by kernel_rfl, rfl, by kernel_rfl⟩
    | 1, hf => cases hf; exact ⟨by kernel_rfl, rfl, by kernel_rfl⟩) cells1 ht
  rw [cells1] at hs
  have e0 : cs[i * 2]? = some (.int .u64 (ph i : Nat)) := by
    have := congrArg (·[0]?) hs
    simpa [List.getElem?_take, List.getElem?_drop] using this
  have e1 : cs[i * 2 + 1]? = some (.int .u64 (pl i : Nat)) := by
    have := congrArg (·[1]?) hs
    simpa [List.getElem?_take, List.getElem?_drop] using this
  exact ⟨(World.var?_cell gP h3 (i * 2)).trans e0, (World.var?_cell gP h3 (i * 2 + 1)).trans e1⟩
set_option maxRecDepth 100000 in
theorem floats_of {W : World} (h : laidMet Tryz.prog L W) : ∃ tb ob, W.cell? ⟨10, 0, none⟩ = some (.slice (some ⟨tb, ob, none⟩) 23 23) ∧ ∀ i, i < 23 → W.cell? ⟨tb, ob + i, none⟩ = some (.float .f64 (pv i)) := by
  obtain ⟨g, t, cs, fuel, p, h1, h2, h3, h4⟩ := Lib.laidMet.reads h (n := "internal/strconv.float64pow10") (d := Rows.laid_internal_strconv_float64pow10) (by simp [L, Rows.valueParsesRow])
  obtain rfl := Option.some.inj (gF.symm.trans h1)
  obtain rfl := Option.some.inj (tF.symm.trans h2)
  rw [laid_pv] at h4
  obtain ⟨tb, ob, hc, hall⟩ := slice_of Tryz.underlying263 cellsf (by decide) (by decide) h4
  refine ⟨tb, ob, one_cell gF h3 hc, fun i hi => ?_⟩
  obtain ⟨cs', n, q, k1, k2, k3⟩ := hall i (.lit (.float .f64 (pv i))) (by
    have hl : i < pvL.length := hi
    rw [List.getElem?_map, List.getElem?_eq_getElem hl]
    unfold pv
    rw [List.getD_eq_getElem?_getD, List.getElem?_eq_getElem hl]
    rfl)
  match cs', k1 with
  | [v], _ =>
    have := k2 0 (by decide)
    rw [Nat.mul_one] at this
    rw [show ob + i + 0 = ob + i from rfl] at this
    rw [this, ← lit_float Tryz.underlying63 k3]
    rfl
set_option maxRecDepth 100000 in
theorem pts_of {W : World} (h : laidMet Tryz.prog L W) : ∃ tb ob, W.cell? ⟨9, 0, none⟩ = some (.slice (some ⟨tb, ob, none⟩) 9 9) ∧ ∀ i, i < 9 → W.cell? ⟨tb, ob + i, none⟩ = some (.int .i64 (Dm.pt i : Nat)) := by
  obtain ⟨g, t, cs, fuel, p, h1, h2, h3, h4⟩ := Lib.laidMet.reads h (n := "internal/strconv.powtab") (d := Rows.laid_internal_strconv_powtab) (by simp [L, Rows.valueParsesRow])
  obtain rfl := Option.some.inj (gT.symm.trans h1)
  obtain rfl := Option.some.inj (tT.symm.trans h2)
  rw [laid_pt] at h4
  obtain ⟨tb, ob, hc, hall⟩ := slice_of Tryz.underlying45 cells3 (by decide) (by decide) h4
  refine ⟨tb, ob, one_cell gT h3 hc, fun i hi => ?_⟩
  obtain ⟨cs', n, q, k1, k2, k3⟩ := hall i (.lit (.int .i64 (Dm.pt i : Nat))) (by
    have hl : i < ptL.length := hi
    rw [List.getElem?_map, List.getElem?_eq_getElem hl, ← pt_is i hi, List.getD_eq_getElem?_getD, List.getElem?_eq_getElem hl]
    rfl)
  match cs', k1 with
  | [v], _ =>
    have := k2 0 (by decide)
    rw [Nat.mul_one] at this
    rw [show ob + i + 0 = ob + i from rfl] at this
    rw [this, ← lit_int Tryz.underlying3 k3]
    rfl
set_option maxRecDepth 100000 in
theorem cheats_of {W : World} (h : laidMet Tryz.prog L W) : ∃ tb ob, W.cell? ⟨16, 0, none⟩ = some (.slice (some ⟨tb, ob, none⟩) 61 61) ∧ ∀ k, k ≤ 60 → W.cell? ⟨tb, ob + k * 2, none⟩ = some (.int .i64 (dlv k : Nat)) ∧ W.cell? ⟨tb, ob + k * 2 + 1, none⟩ = some (.string (CS k)) := by
  obtain ⟨g, t, cs, fuel, p, h1, h2, h3, h4⟩ := Lib.laidMet.reads h (n := "internal/strconv.leftcheats") (d := Rows.laid_internal_strconv_leftcheats) (by simp [L, Rows.valueParsesRow])
  obtain rfl := Option.some.inj (gC.symm.trans h1)
  obtain rfl := Option.some.inj (tC.symm.trans h2)
  have hlen : (Go.Pinned.cheatRows.map fun x => (DataW.agg [.lit (.int .i64 x.1), .lit (.string x.2)] : DataW Unit)).length = 61 := by rw [List.length_map, cheat_len]
  obtain ⟨tb, ob, hc, hall⟩ := slice_of (l := Go.Pinned.cheatRows.map fun x => .agg [.lit (.int .i64 x.1), .lit (.string x.2)]) Tryz.underlying295 cells2 (by decide) (by rw [hlen]; decide) h4
  rw [hlen] at hc
  refine ⟨tb, ob, one_cell gC h3 hc, fun k hk => ?_⟩
  have hl : k < Go.Pinned.cheatRows.length := by rw [cheat_len]; omega
  obtain ⟨cs', n, q, k1, k2, k3⟩ := hall k (.agg [.lit (.int .i64 (dlv k : Nat)), .lit (.string (Mp.cut k))]) (by
    rw [List.getElem?_map, List.getElem?_eq_getElem hl]
    unfold dlv Mp.cut
    rw [List.getD_eq_getElem?_getD, List.getElem?_eq_getElem hl]
    rfl)
  match cs', k1 with
  | [u, v], _ =>
    obtain ⟨ys, m, _, hx, _, hyl, hf⟩ := DataW.trod_struct Tryz.underlying294 k3
    have h0 := hf 0 _ rfl
    have h1 := hf 1 _ rfl
    obtain ⟨z0, z1, rfl⟩ : ∃ z0 z1, ys = [z0, z1] := by
      match ys, hyl with
      | [z0, z1], _ => exact ⟨z0, z1, rfl⟩
    simp only [List.getElem?_cons_zero, List.getElem?_cons_succ] at h0 h1
    have hz : z0.1 = .lit (.int .i64 (dlv k : Nat)) ∧ z1.1 = .lit (.string (Mp.cut k)) := by
      have := congrArg Prod.fst hx
      simp at this
      exact ⟨this.1.symm, this.2.symm⟩
    obtain ⟨d0, p0⟩ := z0
    obtain ⟨d1, p1⟩ := z1
    obtain ⟨rfl, rfl⟩ := hz
    have e0 := lit_int Tryz.underlying3 h0
    have e1 := lit_string Tryz.underlying9 h1
    subst e0 e1
    exact ⟨k2 0 (by decide), k2 1 (by decide)⟩
set_option maxRecDepth 100000 in
theorem info_of {W : World} (h : laidMet Tryz.prog L W) : W.cell? ⟨7, 0, none⟩ = some (.int .u64 52) ∧ W.cell? ⟨7, 1, none⟩ = some (.int .u64 11) ∧ W.cell? ⟨7, 2, none⟩ = some (.int .i64 (-1023)) := by
  obtain ⟨g, t, cs, fuel, p, h1, h2, h3, h4⟩ := Lib.laidMet.reads h (n := "internal/strconv.float64info") (d := Rows.laid_internal_strconv_float64info) (by simp [L, Rows.valueParsesRow])
  obtain rfl := Option.some.inj (gI.symm.trans h1)
  obtain rfl := Option.some.inj (tI.symm.trans h2)
  obtain ⟨ys, m, _, hx, hcl, hyl, hf⟩ := DataW.trod_struct Tryz.underlying207 (show DataW.trod _ _ W 0 _ false fuel 207 cs.toList = some (.agg _, p) from h4)
  rw [cellsI] at hcl
  obtain ⟨u, v, x, hcs⟩ : ∃ u v x, cs.toList = [u, v, x] := by
    match cs.toList, hcl with
    | [u, v, x], _ => exact ⟨u, v, x, rfl⟩
  rw [hcs] at hf
  have f0 := hf 0 _ rfl
  have f1 := hf 1 _ rfl
  have f2 := hf 2 _ rfl
  obtain ⟨z0, z1, z2, rfl⟩ : ∃ z0 z1 z2, ys = [z0, z1, z2] := by
    match ys, hyl with
    | [z0, z1, z2], _ => exact ⟨z0, z1, z2, rfl⟩
  simp only [List.getElem?_cons_zero, List.getElem?_cons_succ] at f0 f1 f2
  have hz : z0.1 = .lit (.int .u64 52) ∧ z1.1 = .lit (.int .u64 11) ∧ z2.1 = .lit (.int .i64 (-1023)) := by
    have := congrArg Prod.fst hx
    simp at this
    exact ⟨this.1.symm, this.2.1.symm, this.2.2.symm⟩
  obtain ⟨d0, p0⟩ := z0
  obtain ⟨d1, p1⟩ := z1
  obtain ⟨d2, p2⟩ := z2
  obtain ⟨rfl, rfl, rfl⟩ := hz
  have e0 := lit_int Tryz.underlying59 f0
  have e1 := lit_int Tryz.underlying59 f1
  have e2 := lit_int Tryz.underlying3 f2
  subst e0 e1 e2
  have c : ∀ j : Nat, cs[j]? = cs.toList[j]? := fun j => by rw [Array.getElem?_toList]
  exact ⟨(World.var?_cell gI h3 0).trans (by rw [c, hcs]; rfl), (World.var?_cell gI h3 1).trans (by rw [c, hcs]; rfl), (World.var?_cell gI h3 2).trans (by rw [c, hcs]; rfl)⟩
set_option maxRecDepth 100000 in
theorem opt_of {W : World} (h : laidMet Tryz.prog L W) : W.cell? ⟨6, 0, none⟩ = some (.bool true) := by
  obtain ⟨g, t, cs, fuel, p, h1, h2, h3, h4⟩ := Lib.laidMet.reads h (n := "internal/strconv.optimize") (d := Rows.laid_internal_strconv_optimize) (by simp [L, Rows.valueParsesRow])
  obtain rfl := Option.some.inj (gO.symm.trans h1)
  obtain rfl := Option.some.inj (tO.symm.trans h2)
  obtain ⟨v, hv⟩ := bool_one (show DataW.trod _ Tryz.prog W 0 _ false fuel 4 cs.toList = some (.lit (.bool true), p) from h4)
  rw [hv] at h4
  have e := lit_bool Tryz.underlying4 h4
  subst e
  exact one_cell gO h3 hv
set_option maxRecDepth 100000 in
theorem rc_of {W : World} (h : laidMet Tryz.prog L W) : RC W := by
  obtain ⟨g, t, cs, fuel, p, h1, h2, h3, h4⟩ := Lib.laidMet.reads h (n := "strconv.ErrRange") (d := Rows.laid_strconv_ErrRange) (by simp [L, Rows.valueParsesRow])
  obtain rfl := Option.some.inj (gE.symm.trans h1)
  obtain rfl := Option.some.inj (tE.symm.trans h2)
  obtain ⟨u, v, hc⟩ := lit_iface Tryz.underlying71 h4
  exact ⟨_, one_cell gE h3 hc, .inr ⟨u, v, rfl⟩⟩
theorem at_of {W : World} (h : laidMet Tryz.prog L W) : ∃ tb tp, AT W pv ph pl dlv CS tb tp := by
  obtain ⟨fb, fo, f1, f2⟩ := floats_of h
  obtain ⟨qb, qo, q1, q2⟩ := pts_of h
  obtain ⟨cb, co, c1, c2⟩ := cheats_of h
  obtain ⟨i0, i1, i2⟩ := info_of h
  refine ⟨(cb, co), (qb, qo), ⟨⟨i0, fb, fo, f1, f2⟩, ⟨World.block_lt_of_cell? _ _ (pow_of h 0 (by decide)).1, pow_of h⟩, opt_of h, c1, c2, q1, q2, i1, i2⟩⟩
end Md
end Go.Proofs.YtbnicnhkakbglaaGreatDoor

/- Values' parts: the program's whole numbers and floats. -/
namespace Go.Proofs.YtbnicnhkakbglaaGreatDoor
open Go.RowKit
namespace Vd
open Jb Sa Sb Sj Fm Rm Dc Rf Us

/-- A value under way, in a block of its own. -/
structure Zc (w : World) (r : Nat) (wr : World) : Prop where
  e : r = w.heap.size
  z : wr.heap[r]? = some (.cells #[.int .i64 0, .int .u64 0, .string ⟨#[]⟩] 25 (0, 0))
  b : Below r w wr
theorem Zc.lt {w wr : World} {r : Nat} (h : Zc w r wr) : r < wr.heap.size := by
  have := h.z
  obtain ⟨h1, _⟩ := Array.getElem?_eq_some_iff.1 this
  exact h1
theorem zc_new (w : World) : Zc w w.heap.size (w.alloc (.cells #[.int .i64 0, .int .u64 0, .string ⟨#[]⟩] 25)) :=
  ⟨rfl, heap_alloc_new _ _, (Below.refl _ w).alloc (Nat.le_refl _) _⟩
theorem Zc.step {w wr wr' : World} {r : Nat} (h : Zc w r wr) (b : Below wr.heap.size wr wr') : Zc w r wr' :=
  ⟨h.e, (b.block r h.lt).trans h.z, h.b.trans (b.mono (Nat.le_of_lt h.lt))⟩
theorem Zc.cells {w wr : World} {r : Nat} (h : Zc w r wr) : wr.cell? ⟨r, 0, none⟩ = some (.int .i64 0) ∧ wr.cell? ⟨r, 1, none⟩ = some (.int .u64 0) ∧ wr.cell? ⟨r, 2, none⟩ = some (.string ⟨#[]⟩) ∧ wr.frozen? ⟨r, 0, none⟩ = false ∧ wr.frozen? ⟨r, 1, none⟩ = false ∧ wr.frozen? ⟨r, 2, none⟩ = false :=
  ⟨by rw [Lib.cell_of_heap h.z]; rfl, by rw [Lib.cell_of_heap h.z]; rfl, by rw [Lib.cell_of_heap h.z]; rfl, Lib.frozen_of_heap h.z 0, Lib.frozen_of_heap h.z 1, Lib.frozen_of_heap h.z 2⟩
theorem Zc.fin {w wr : World} {r : Nat} (h : Zc w r wr) (a b c : Value) :
    (((wr.setCell ⟨r, 0, none⟩ a).setCell ⟨r, 1, none⟩ b).setCell ⟨r, 2, none⟩ c).cell? ⟨r, 0, none⟩ = some a ∧ (((wr.setCell ⟨r, 0, none⟩ a).setCell ⟨r, 1, none⟩ b).setCell ⟨r, 2, none⟩ c).cell? ⟨r, 1, none⟩ = some b ∧
      (((wr.setCell ⟨r, 0, none⟩ a).setCell ⟨r, 1, none⟩ b).setCell ⟨r, 2, none⟩ c).cell? ⟨r, 2, none⟩ = some c ∧ Below w.heap.size w (((wr.setCell ⟨r, 0, none⟩ a).setCell ⟨r, 1, none⟩ b).setCell ⟨r, 2, none⟩ c) := by
  have u := Go.Joins.block_setCell (i := 2) (Go.Joins.block_setCell (i := 1) (Go.Joins.block_setCell (i := 0) h.z a) b) c
  have he := h.e
  refine ⟨Go.Joins.cell_of_block u 0, Go.Joins.cell_of_block u 1, Go.Joins.cell_of_block u 2, ?_⟩
  have hb := h.b
  rw [← he]
  exact ((hb.setCell (p := ⟨r, 0, none⟩) (Nat.le_refl _) _).setCell (p := ⟨r, 1, none⟩) (Nat.le_refl _) _).setCell (p := ⟨r, 2, none⟩) (Nat.le_refl _) _
/-- A text without its last byte. -/
def cutl (s : ByteArray) : ByteArray := ba ((bl s).take (s.size - 1))
theorem cutl_size (s : ByteArray) : (cutl s).size = s.size - 1 := by unfold cutl; rw [ba_size, List.length_take, bl_len]; omega
theorem last_app {s : ByteArray} (h0 : 0 < s.size) {c : UInt8} (hc : by8 s (s.size - 1) = c.toNat) : bl s = (bl s).take (s.size - 1) ++ [c] := by
  obtain ⟨x, _, e2, e3⟩ := drop_cons s (s.size - 1) (by omega)
  have : (bl s).take (s.size - 1 + 1) = bl s := List.take_of_length_le (by rw [bl_len]; omega)
  rw [this] at e3
  rw [show c = x from UInt8.toNat.inj (by rw [e2, hc])]
  exact e3
theorem trimS (w : World) (s : ByteArray) (hs : s.size ≤ 140737488355328) (h0 : 0 < s.size) (hc : by8 s (s.size - 1) = 105) : Calls Tryz.prog 49 #[.string s, .string ⟨#[105]⟩] w fun e w' => e = .returned (.string (cutl s)) ∧ w' = w := by
  refine (Tryz.strings_TrimSuffix s ⟨#[105]⟩ w (by omega)).mono ?_
  rintro e w' ⟨rfl, rfl⟩
  refine ⟨?_, rfl⟩
  show Ending.returned (.string ⟨(Lib.trimSuffix (bl s) [105]).toArray⟩) = _
  have e := last_app (c := 105) h0 hc
  unfold Lib.trimSuffix Lib.hasSuffix
  rw [if_pos (by rw [e]; exact List.isSuffixOf_iff_suffix.2 ⟨_, rfl⟩), bl_len]
  rfl
set_option maxRecDepth 100000 in
set_option maxHeartbeats 1000000 in
theorem parseInteger (w : World) (s : ByteArray) (hs : s.size ≤ 140737488355328) (h0 : 0 < s.size) (hc : by8 s (s.size - 1) = 105) (hR : RC w) :
    ∀ A1 A2 A3, (okI (cutl s) = false → A1 = 0 ∧ A2 = 0 ∧ A3 = 2) → (okI (cutl s) = true → iv (cutl s) = none → A1 = 0 ∧ A2 = 0 ∧ A3 = 3) → (okI (cutl s) = true → ∀ v, iv (cutl s) = some v → A1 = 2 ∧ A2 = IntKind.u64.wrap v ∧ A3 = 0) →
    Calls Tryz.prog 32 #[.string s] w fun e w' => e = .returned (.tuple #[.agg #[.int .i64 A1, .int .u64 A2, .string ⟨#[]⟩], .int .i64 A3]) ∧ Below w.heap.size w w' := by
  intro A1 A2 A3 n1 n2 n3
  have T1 := Lib.hid (fun (y : World) => trimS y s hs h0 hc)
  have hts : (cutl s).size = s.size - 1 := cutl_size s
  obtain ⟨T, hT⟩ : ∃ T, T = cutl s := ⟨_, rfl⟩
  rw [← hT] at T1 n1 n2 n3 hts
  clear hT hc
  have hT4 : T.size ≤ 140737488355328 := by omega
  clear hts hs h0
  have N1 := Lib.hid n1
  have N2 := Lib.hid n2
  have N3 := Lib.hid n3
  clear n1 n2 n3
  have T2 := Lib.hid (fun (y : World) => trimP y T)
  have T3 := Lib.hid (fun (y : World) => skip_at y T hT4 (pS T))
  have hp := pS_le T
  have hr := run_le T (pS T) hp
  have hg := run_ge T (pS T)
  have hsz := sub_size T (pS T)
  have X1 := Lib.hid (fun (h : run T (pS T) < T.size) => sub_ne T (run T (pS T)) h)
  have X2 := Lib.hid (fun (h : T.size ≤ run T (pS T)) => sub_end T (run T (pS T)) h)
  have HO : Hid (okI T = decide (run T (pS T) ≠ pS T ∧ run T (pS T) = T.size ∧ T.size - pS T ≤ 25)) := Lib.hid rfl
  have PR := Lib.hid (fun (h : okI T = true) => par_iv h)
  obtain ⟨P, hP⟩ : ∃ P, P = pS T := ⟨_, rfl⟩
  rw [← hP] at T2 T3 hp hr hg hsz X1 X2 HO
  clear hP
  obtain ⟨E, hE⟩ : ∃ E, E = run T P := ⟨_, rfl⟩
  rw [← hE] at T3 hr hg X1 X2 HO
  clear hE
  obtain ⟨U, hU⟩ : ∃ U, U = sub T P := ⟨_, rfl⟩
  rw [← hU] at T2 T3 hsz
  clear hU
  obtain ⟨V, hV⟩ : ∃ V, V = sub T E := ⟨_, rfl⟩
  rw [← hV] at T3 X1 X2
  clear hV
  obtain ⟨m, hm⟩ : ∃ m, m = U.size := ⟨_, rfl⟩
  have hlen : ∀ (ty : TypeId) (y : World), (Builtin.len_ #[9] ty #[.string U]).run Tryz.prog y = .ok (.int .i64 (m : Nat)) y := fun ty y => by rw [hm]; exact run_len_string y 9 ty U Tryz.underlying9
  rw [← hm] at hsz
  clear hm
  obtain ⟨W, hW⟩ : ∃ W, W = w.alloc (.cells #[.int .i64 0, .int .u64 0, .string ⟨#[]⟩] 25) := ⟨_, rfl⟩
  have Z := Lib.hid (show Zc w w.heap.size W by rw [hW]; exact zc_new w)
  have HRW := Lib.hid (show RC W from hR.below (by rw [hW]; exact (Below.refl _ w).alloc (Nat.le_refl _) _))
  obtain ⟨r, hr0⟩ : ∃ r, r = w.heap.size := ⟨_, rfl⟩
  have hbw := hr0
  rw [← hr0] at Z
  clear hR hbw
  by_cases x1 : 25 < m
  · obtain ⟨rfl, rfl, rfl⟩ := N1.out (by rw [HO.out]; exact decide_eq_false (fun k => by have := k.2.2; omega))
    have g1 : (m : Int) > 25 := by omega
    clear x1
    go_enter Tryz.func32, Tryz.ntmps32
    go_upto_region 1 with (fail)
    rw [← hW, ← hr0]
    clear hW hr0
    obtain ⟨q0, q1, q2, q3, q4, q5⟩ := Z.out.cells
    have Q := Lib.hid (Z.out.fin (.int .i64 0) (.int .u64 0) (.string ⟨#[]⟩))
    go_wp2_with (first | (go_at_call 49; refine (T1.out _).mono ?_; rintro e w2 ⟨rfl, h2⟩; rw [h2]; clear h2 w2) | (go_at_call 64; refine (T2.out _).mono ?_; rintro e w2 ⟨rfl, h2⟩; rw [h2]; clear h2 w2))
    obtain ⟨m0, m1, m2, bb⟩ := Q.out
    refine bodyPost_ret (v := .tuple #[.agg #[.int .i64 0, .int .u64 0, .string ⟨#[]⟩], .int .i64 2]) (by simp [results, Tryz.results32, go_sem, m0, m1, m2] <;> rfl) rfl ⟨rfl, bb⟩
  have g1 : ¬ (m : Int) > 25 := by omega
  by_cases x2 : E < T.size
  · obtain ⟨rfl, rfl, rfl⟩ := N1.out (by rw [HO.out]; exact decide_eq_false (fun k => by have := k.2.1; omega))
    obtain ⟨es, es2⟩ := nil_no (X1.out x2)
    clear x2 X1 X2
    go_enter Tryz.func32, Tryz.ntmps32
    go_upto_region 1 with (fail)
    rw [← hW, ← hr0]
    clear hW hr0
    go_upto_region 6 with (first | (go_at_call 49; refine (T1.out _).mono ?_; rintro e w2 ⟨rfl, h2⟩; rw [h2]; clear h2 w2) | (go_at_call 64; refine (T2.out _).mono ?_; rintro e w2 ⟨rfl, h2⟩; rw [h2]; clear h2 w2) | (go_at_call 65; refine (T3.out _).mono ?_; rintro e w2 ⟨rfl, b2⟩; have B2 := Lib.hid b2; clear b2))
    have Z := Lib.hid (Z.out.step B2.out)
    obtain ⟨q0, q1, q2, q3, q4, q5⟩ := Z.out.cells
    have Q := Lib.hid (Z.out.fin (.int .i64 0) (.int .u64 0) (.string ⟨#[]⟩))
    go_wp2_with fail
    obtain ⟨m0, m1, m2, bb⟩ := Q.out
    refine bodyPost_ret (v := .tuple #[.agg #[.int .i64 0, .int .u64 0, .string ⟨#[]⟩], .int .i64 2]) (by simp [results, Tryz.results32, go_sem, m0, m1, m2] <;> rfl) rfl ⟨rfl, bb⟩
  obtain rfl := X2.out (by omega)
  by_cases x3 : P < E
  case neg =>
    obtain ⟨rfl, rfl, rfl⟩ := N1.out (by rw [HO.out]; exact decide_eq_false (fun k => by have := k.1; omega))
    have T3 : Hid (∀ y : World, Calls Tryz.prog 65 #[.string U] y fun e w' => e = .returned (.tuple #[.string ⟨#[]⟩, .bool false]) ∧ Below y.heap.size y w') := Lib.hid (fun y => by have h := T3.out y; rwa [decide_eq_false x3] at h)
    clear x2 x3 X1 X2
    go_enter Tryz.func32, Tryz.ntmps32
    go_upto_region 1 with (fail)
    rw [← hW, ← hr0]
    clear hW hr0
    go_upto_region 6 with (first | (go_at_call 49; refine (T1.out _).mono ?_; rintro e w2 ⟨rfl, h2⟩; rw [h2]; clear h2 w2) | (go_at_call 64; refine (T2.out _).mono ?_; rintro e w2 ⟨rfl, h2⟩; rw [h2]; clear h2 w2) | (go_at_call 65; refine (T3.out _).mono ?_; rintro e w2 ⟨rfl, b2⟩; have B2 := Lib.hid b2; clear b2))
    have Z := Lib.hid (Z.out.step B2.out)
    obtain ⟨q0, q1, q2, q3, q4, q5⟩ := Z.out.cells
    have Q := Lib.hid (Z.out.fin (.int .i64 0) (.int .u64 0) (.string ⟨#[]⟩))
    go_wp2_with fail
    obtain ⟨m0, m1, m2, bb⟩ := Q.out
    refine bodyPost_ret (v := .tuple #[.agg #[.int .i64 0, .int .u64 0, .string ⟨#[]⟩], .int .i64 2]) (by simp [results, Tryz.results32, go_sem, m0, m1, m2] <;> rfl) rfl ⟨rfl, bb⟩
  have T3 : Hid (∀ y : World, Calls Tryz.prog 65 #[.string U] y fun e w' => e = .returned (.tuple #[.string ⟨#[]⟩, .bool true]) ∧ Below y.heap.size y w') := Lib.hid (fun y => by have h := T3.out y; rwa [decide_eq_true x3] at h)
  have hok : okI T = true := by rw [HO.out]; exact decide_eq_true ⟨by omega, by omega, by omega⟩
  have PR2 := Lib.hid (PR.out hok)
  cases hv : iv T with
  | none =>
    obtain ⟨rfl, rfl, rfl⟩ := N2.out hok hv
    have PI := Lib.hid (fun (y : World) (ev : Value) (h1 : y.cell? ⟨2, 0, none⟩ = some ev) (h2 : ev = .nilIface ∨ ∃ te pe, ev = .iface te pe) => Tryz.strconv_ParseInt_10_at64_range T (by omega) (PR2.out.2 hv) ev y h1 h2)
    clear x2 x3 X1 X2 hok PR PR2 hv
    go_enter Tryz.func32, Tryz.ntmps32
    go_upto_region 1 with (fail)
    rw [← hW, ← hr0]
    clear hW hr0
    go_upto_region 8 with (first | (go_at_call 49; refine (T1.out _).mono ?_; rintro e w2 ⟨rfl, h2⟩; rw [h2]; clear h2 w2) | (go_at_call 64; refine (T2.out _).mono ?_; rintro e w2 ⟨rfl, h2⟩; rw [h2]; clear h2 w2) | (go_at_call 65; refine (T3.out _).mono ?_; rintro e w2 ⟨rfl, b2⟩; have B2 := Lib.hid b2; clear b2))
    have Z := Lib.hid (Z.out.step B2.out)
    obtain ⟨ev, v1, v2⟩ := HRW.out.below B2.out
    have PJ := Lib.hid (PI.out w2 ev v1 v2)
    clear v1 v2 PI
    go_upto_region 9 with (go_at_call 66; refine PJ.out.mono ?_; clear PJ; rintro e w3 ⟨N, rfl, _, _, b3⟩; have B3 := Lib.hid b3; clear b3)
    have Z := Lib.hid (Z.out.step B3.out)
    obtain ⟨q0, q1, q2, q3, q4, q5⟩ := Z.out.cells
    have Q := Lib.hid (Z.out.fin (.int .i64 0) (.int .u64 0) (.string ⟨#[]⟩))
    go_wp2_with fail
    obtain ⟨m0, m1, m2, bb⟩ := Q.out
    refine bodyPost_ret (v := .tuple #[.agg #[.int .i64 0, .int .u64 0, .string ⟨#[]⟩], .int .i64 3]) (by simp [results, Tryz.results32, go_sem, m0, m1, m2] <;> rfl) rfl ⟨rfl, bb⟩
  | some v =>
    obtain ⟨rfl, rfl, rfl⟩ := N3.out hok v hv
    have PI := Lib.hid (fun (y : World) => Tryz.strconv_ParseInt_10_at64_ok T (by omega) v (PR2.out.1 v hv) y)
    clear x2 x3 X1 X2 hok PR PR2 hv
    go_enter Tryz.func32, Tryz.ntmps32
    go_upto_region 1 with (fail)
    rw [← hW, ← hr0]
    clear hW hr0
    go_upto_region 8 with (first | (go_at_call 49; refine (T1.out _).mono ?_; rintro e w2 ⟨rfl, h2⟩; rw [h2]; clear h2 w2) | (go_at_call 64; refine (T2.out _).mono ?_; rintro e w2 ⟨rfl, h2⟩; rw [h2]; clear h2 w2) | (go_at_call 65; refine (T3.out _).mono ?_; rintro e w2 ⟨rfl, b2⟩; have B2 := Lib.hid b2; clear b2))
    have Z := Lib.hid (Z.out.step B2.out)
    go_upto_region 9 with (go_at_call 66; refine (PI.out _).mono ?_; clear PI; rintro e w3 ⟨rfl, h3⟩; have B3 : Hid (Below w2.heap.size w2 w3) := Lib.hid (by rcases h3 with h3 | ⟨t, h3⟩; (rw [h3]; exact Below.refl _ _); (rw [h3]; exact Lib.bytesWorld_below _ _ _)); clear h3)
    have Z := Lib.hid (Z.out.step B3.out)
    obtain ⟨q0, q1, q2, q3, q4, q5⟩ := Z.out.cells
    have Q := Lib.hid (Z.out.fin (.int .i64 2) (.int .u64 (IntKind.u64.wrap v)) (.string ⟨#[]⟩))
    go_wp2_with fail
    obtain ⟨m0, m1, m2, bb⟩ := Q.out
    refine bodyPost_ret (v := .tuple #[.agg #[.int .i64 2, .int .u64 (IntKind.u64.wrap v), .string ⟨#[]⟩], .int .i64 0]) (by simp [results, Tryz.results32, go_sem, m0, m1, m2] <;> rfl) rfl ⟨rfl, bb⟩
end Vd
end Go.Proofs.YtbnicnhkakbglaaGreatDoor

/- The program's floats. -/
namespace Go.Proofs.YtbnicnhkakbglaaGreatDoor
open Go.RowKit
namespace Vd
open Jb Sa Sb Sj Fm Rm Dc Rf Us Fq

theorem run30 (b : Nat) (w : World) : (callFunc 30 #[.float .f64 b]).run Tryz.prog w = .ok (.value (.int .u64 b)) w := by
  rw [run_callFunc_extern Tryz.func30 (by kernel_rfl) (by kernel_rfl) (by kernel_rfl) (e := Extern.MathFloatBits.float64bits) (by kernel_rfl)]; rfl
set_option maxRecDepth 100000 in
theorem of24 (f : Nat) (w : World) :
    Calls Tryz.prog 24 #[.float .f64 f] w fun e w' => e = .returned (.agg #[.int .i64 1, .int .u64 f, .string ⟨#[]⟩]) ∧ Below w.heap.size w w' := by
  have r30 := run30
  go_enter Tryz.func24, Tryz.ntmps24
  go_wp2
  go_returns
  exact ⟨rfl, by go_grown⟩
set_option maxRecDepth 100000 in
set_option maxHeartbeats 1000000 in
theorem parseFloat_no (w : World) (s : ByteArray) (hs : s.size ≤ 140737488355328) (h : 400 < s.size ∨ ff s = false) :
    Calls Tryz.prog 33 #[.string s] w fun e w' => e = .returned (.tuple #[.agg #[.int .i64 0, .int .u64 0, .string ⟨#[]⟩], .int .i64 2]) ∧ Below w.heap.size w w' := by
  have FF := Lib.hid (fun (y : World) => floatForm y s hs)
  have HH := Lib.hid h
  obtain ⟨n, hn⟩ : ∃ n, n = s.size := ⟨_, rfl⟩
  have hlen : ∀ (ty : TypeId) (y : World), (Builtin.len_ #[9] ty #[.string s]).run Tryz.prog y = .ok (.int .i64 (n : Nat)) y := fun ty y => by rw [hn]; exact run_len_string y 9 ty s Tryz.underlying9
  rw [← hn] at HH hs
  clear hn h
  obtain ⟨W, hW⟩ : ∃ W, W = w.alloc (.cells #[.int .i64 0, .int .u64 0, .string ⟨#[]⟩] 25) := ⟨_, rfl⟩
  have Z := Lib.hid (show Zc w w.heap.size W by rw [hW]; exact zc_new w)
  obtain ⟨r, hr0⟩ : ∃ r, r = w.heap.size := ⟨_, rfl⟩
  have hbw := hr0
  rw [← hr0] at Z
  clear hbw
  by_cases x : 400 < n
  · have g1 : (n : Int) > 400 := by omega
    clear HH FF
    go_enter Tryz.func33, Tryz.ntmps33
    go_upto_region 1 with (fail)
    rw [← hW, ← hr0]
    clear hW hr0
    obtain ⟨q0, q1, q2, q3, q4, q5⟩ := Z.out.cells
    have Q := Lib.hid (Z.out.fin (.int .i64 0) (.int .u64 0) (.string ⟨#[]⟩))
    go_wp2_with fail
    obtain ⟨m0, m1, m2, bb⟩ := Q.out
    refine bodyPost_ret (v := .tuple #[.agg #[.int .i64 0, .int .u64 0, .string ⟨#[]⟩], .int .i64 2]) (by simp [results, Tryz.results33, go_sem, m0, m1, m2] <;> rfl) rfl ⟨rfl, bb⟩
  · have g1 : ¬ (n : Int) > 400 := by omega
    have hf : ff s = false := by rcases HH.out with h | h; exact absurd h x; exact h
    rw [hf] at FF
    clear hf HH x
    go_enter Tryz.func33, Tryz.ntmps33
    go_upto_region 1 with (fail)
    rw [← hW, ← hr0]
    clear hW hr0
    go_upto_region 2 with (go_at_call 67; refine (FF.out _).mono ?_; rintro e w2 ⟨rfl, b2⟩; have B2 := Lib.hid b2; clear b2)
    have Z := Lib.hid (Z.out.step B2.out)
    obtain ⟨q0, q1, q2, q3, q4, q5⟩ := Z.out.cells
    have Q := Lib.hid (Z.out.fin (.int .i64 0) (.int .u64 0) (.string ⟨#[]⟩))
    go_wp2_with fail
    obtain ⟨m0, m1, m2, bb⟩ := Q.out
    refine bodyPost_ret (v := .tuple #[.agg #[.int .i64 0, .int .u64 0, .string ⟨#[]⟩], .int .i64 2]) (by simp [results, Tryz.results33, go_sem, m0, m1, m2] <;> rfl) rfl ⟨rfl, bb⟩
set_option maxRecDepth 100000 in
set_option maxHeartbeats 1000000 in
theorem parseFloat_yes (w : World) (s : ByteArray) (hs : s.size ≤ 400) (hf : ff s = true) (TT : World → Prop) (hTT : ∀ w w', TT w → Below w.heap.size w w' → TT w') (v : Nat) (b : Bool)
    (hPF : ∀ w, TT w → Calls Tryz.prog 29 #[.string s, .int .i64 64] w fun e w' => ∃ er, e = .returned (.tuple #[.float .f64 v, er]) ∧ (b = false → er = .nilIface) ∧ (b = true → ∃ t x, er = .iface t x) ∧ Below w.heap.size w w') (hT : TT w) :
    Calls Tryz.prog 33 #[.string s] w fun e w' => e = .returned (.tuple (if b then #[.agg #[.int .i64 0, .int .u64 0, .string ⟨#[]⟩], .int .i64 3] else #[.agg #[.int .i64 1, .int .u64 v, .string ⟨#[]⟩], .int .i64 0])) ∧ Below w.heap.size w w' := by
  have FF := Lib.hid (fun (y : World) => floatForm y s (by omega))
  rw [hf] at FF
  have PF := Lib.hid hPF
  have OF := Lib.hid (of24 v)
  obtain ⟨n, hn⟩ : ∃ n, n = s.size := ⟨_, rfl⟩
  have hlen : ∀ (ty : TypeId) (y : World), (Builtin.len_ #[9] ty #[.string s]).run Tryz.prog y = .ok (.int .i64 (n : Nat)) y := fun ty y => by rw [hn]; exact run_len_string y 9 ty s Tryz.underlying9
  rw [← hn] at hs
  have g1 : ¬ (n : Int) > 400 := by omega
  clear hn hf hPF
  obtain ⟨W, hW⟩ : ∃ W, W = w.alloc (.cells #[.int .i64 0, .int .u64 0, .string ⟨#[]⟩] 25) := ⟨_, rfl⟩
  have Z := Lib.hid (show Zc w w.heap.size W by rw [hW]; exact zc_new w)
  have HW := Lib.hid (show TT W from hTT _ _ hT (by rw [hW]; exact (Below.refl _ w).alloc (Nat.le_refl _) _))
  have HTT := Lib.hid hTT
  obtain ⟨r, hr0⟩ : ∃ r, r = w.heap.size := ⟨_, rfl⟩
  have hbw := hr0
  rw [← hr0] at Z
  clear hbw hT hTT
  go_enter Tryz.func33, Tryz.ntmps33
  go_upto_region 1 with (fail)
  rw [← hW, ← hr0]
  clear hW hr0
  go_upto_region 3 with (go_at_call 67; refine (FF.out _).mono ?_; rintro e w2 ⟨rfl, b2⟩; have B2 := Lib.hid b2; clear b2)
  have Z := Lib.hid (Z.out.step B2.out)
  have HW := Lib.hid (HTT.out _ _ HW.out B2.out)
  have PF := Lib.hid (PF.out _ HW.out)
  go_upto_region 4 with (go_at_call 29; refine PF.out.mono ?_; clear PF; rintro e w3 ⟨er, rfl, n1, n2, b3⟩; have B3 := Lib.hid b3; clear b3; have N1 := Lib.hid n1; have N2 := Lib.hid n2; clear n1 n2)
  have Z := Lib.hid (Z.out.step B3.out)
  cases b with
  | true =>
    obtain ⟨t, x, rfl⟩ := N2.out rfl
    clear N1 N2
    obtain ⟨q0, q1, q2, q3, q4, q5⟩ := Z.out.cells
    have Q := Lib.hid (Z.out.fin (.int .i64 0) (.int .u64 0) (.string ⟨#[]⟩))
    go_wp2_with fail
    obtain ⟨m0, m1, m2, bb⟩ := Q.out
    refine bodyPost_ret (v := .tuple #[.agg #[.int .i64 0, .int .u64 0, .string ⟨#[]⟩], .int .i64 3]) (by simp [results, Tryz.results33, go_sem, m0, m1, m2] <;> rfl) rfl ⟨rfl, bb⟩
  | false =>
    obtain rfl := N1.out rfl
    clear N1 N2
    go_upto_region 6 with (fail)
    obtain ⟨q0, q1, q2, q3, q4, q5⟩ := Z.out.cells
    go_wp2_with (go_at_call 24; refine (OF.out _).mono ?_; clear OF; rintro e w4 ⟨rfl, b4⟩; have Z := Lib.hid (Z.out.step b4); clear b4; clear q0 q1 q2 q3 q4 q5; obtain ⟨q0, q1, q2, q3, q4, q5⟩ := Z.out.cells; have Q := Lib.hid (Z.out.fin (.int .i64 1) (.int .u64 (v : Nat)) (.string ⟨#[]⟩)))
    obtain ⟨m0, m1, m2, bb⟩ := Q.out
    refine bodyPost_ret (v := .tuple #[.agg #[.int .i64 1, .int .u64 v, .string ⟨#[]⟩], .int .i64 0]) (by simp [results, Tryz.results33, go_sem, m0, m1, m2] <;> rfl) rfl ⟨rfl, bb⟩
end Vd
end Go.Proofs.YtbnicnhkakbglaaGreatDoor

/- Strings in quotes: the program's reading and the document's. -/
namespace Go.Proofs.YtbnicnhkakbglaaGreatDoor
open Go.RowKit
namespace Vm
open Jb Sa Sb Sc Sd Se Sf Sg Sh Si Sj Uq Vd

set_option maxRecDepth 100000 in
theorem escaped (c : Nat) (w : World) : Calls Tryz.prog 104 #[.int .u8 (c : Nat)] w fun e w' => e = .returned (.tuple (if c = 34 ∨ c = 92 then #[.int .u8 (c : Nat), .bool true] else if c = 110 then #[.int .u8 10, .bool true] else #[.int .u8 0, .bool false])) ∧ w' = w := by
  by_cases h1 : c = 34
  · subst h1
    go_enter Tryz.func104, Tryz.ntmps104
    go_wp2_with fail
    go_ret2
    exact ⟨rfl, by first | rfl | trivial⟩
  by_cases h2 : c = 92
  · subst h2
    go_enter Tryz.func104, Tryz.ntmps104
    go_wp2_with fail
    go_ret2
    exact ⟨rfl, by first | rfl | trivial⟩
  by_cases h3 : c = 110
  · subst h3
    go_enter Tryz.func104, Tryz.ntmps104
    go_wp2_with fail
    go_ret2
    exact ⟨rfl, by first | rfl | trivial⟩
  rw [if_neg (by omega), if_neg h3]
  have g1 : ((c : Int) == 34) = false := by simp; omega
  have g2 : ((c : Int) == 92) = false := by simp; omega
  have g3 : ((c : Int) == 110) = false := by simp; omega
  clear h1 h2 h3
  go_enter Tryz.func104, Tryz.ntmps104
  go_wp2_with fail
  go_ret2
  exact ⟨rfl, by first | rfl | trivial⟩
theorem atx_bad {l : List UInt8} {i : Nat} {pre : List UInt8} {c : UInt8} (h : At l i pre) (hd : l.drop i = c :: l.drop (i + 1)) (hc : c.toNat = 34 ∨ c.toNat = 10) : unq l = none := by rw [h.1, hd, unq_bad _ _ hc]; rfl
theorem atx_plain {l : List UInt8} {i : Nat} {pre : List UInt8} {c : UInt8} (h : At l i pre) (hi : i < l.length) (hd : l.drop i = c :: l.drop (i + 1)) (h1 : c.toNat ≠ 34) (h2 : c.toNat ≠ 10) (h3 : c.toNat ≠ 92) : At l (i + 1) (pre ++ [c]) := by
  refine ⟨?_, by have := h.2.1; simp; omega, hi⟩
  rw [h.1, hd, unq_plain _ _ h1 h2 h3]
  cases unq (l.drop (i + 1)) <;> simp
theorem atx_last {l : List UInt8} {i : Nat} {pre : List UInt8} {c : UInt8} (h : At l i pre) (hd : l.drop i = c :: l.drop (i + 1)) (hc : c.toNat = 92) (hl : l.length = i + 1) : unq l = none := by
  rw [h.1, hd, List.drop_eq_nil_of_le (by omega), unq_end _ hc]; rfl
theorem atx_esc {l : List UInt8} {i : Nat} {pre : List UInt8} {c d : UInt8} (h : At l i pre) (hi : i + 1 < l.length) (hd : l.drop i = c :: l.drop (i + 1)) (he : l.drop (i + 1) = d :: l.drop (i + 1 + 1)) (hc : c.toNat = 92) (hq : d.toNat = 34 ∨ d.toNat = 92) : At l (i + 2) (pre ++ [d]) := by
  refine ⟨?_, by have := h.2.1; simp; omega, hi⟩
  rw [h.1, hd, he, unq_esc _ _ _ hc hq]
  cases unq (l.drop (i + 1 + 1)) <;> simp
theorem atx_n {l : List UInt8} {i : Nat} {pre : List UInt8} {c d : UInt8} (h : At l i pre) (hi : i + 1 < l.length) (hd : l.drop i = c :: l.drop (i + 1)) (he : l.drop (i + 1) = d :: l.drop (i + 1 + 1)) (hc : c.toNat = 92) (hq : d.toNat = 110) : At l (i + 2) (pre ++ [10]) := by
  refine ⟨?_, by have := h.2.1; simp; omega, hi⟩
  rw [h.1, hd, he, unq_n _ _ _ hc hq]
  cases unq (l.drop (i + 1 + 1)) <;> simp
theorem atx_no {l : List UInt8} {i : Nat} {pre : List UInt8} {c d : UInt8} (h : At l i pre) (hd : l.drop i = c :: l.drop (i + 1)) (he : l.drop (i + 1) = d :: l.drop (i + 1 + 1)) (hc : c.toNat = 92) (h1 : d.toNat ≠ 34) (h2 : d.toNat ≠ 92) (h3 : d.toNat ≠ 110) : unq l = none := by
  rw [h.1, hd, he, unq_no _ _ _ hc h1 h2 h3]; rfl
def qd (s : ByteArray) : Bool := decide (2 ≤ s.size ∧ by8 s 0 = 34 ∧ by8 s (s.size - 1) = 34)
def inner (s : ByteArray) : ByteArray := ba (((bl s).drop 1).take (s.size - 2))
theorem inner_size (s : ByteArray) : (inner s).size = s.size - 2 := by unfold inner; rw [ba_size, List.length_take, List.length_drop, bl_len]; omega
/-- What a quoted text stands for. -/
def qans (s : ByteArray) : Option (List UInt8) := if qd s = true then unq (bl (inner s)) else none
theorem inner_run (s : ByteArray) (h : 2 ≤ s.size) (y : World) : (Instr.slice 9 (.string s) (some (.int .i64 1)) (some (.int .i64 ((s.size : Int) - 1))) none).run Tryz.prog y = .ok (.string (inner s)) y := by
  have e0 : ((s.size : Int) - 1) = ((s.size - 1 : Nat) : Int) := by omega
  rw [e0, run_slice_string y 9 s .i64 .i64 1 ((s.size - 1 : Nat) : Int) Tryz.underlying9 (by omega) (by omega) (by omega)]
  have e : s.extract (1 : Int).toNat (((s.size - 1 : Nat) : Int)).toNat = inner s := by
    apply bl_inj
    unfold inner
    rw [bl_ba]
    have hl := bl_len s
    unfold bl at *
    simp only [Int.toNat_natCast, ByteArray.data_extract, Array.toList_extract, List.extract_eq_take_drop]
    rw [show (1 : Int).toNat = 1 from rfl, show s.size - 1 - 1 = s.size - 2 from by omega]
  rw [e]
theorem by8_bl (s : ByteArray) (k : Nat) (hk : k < (bl s).length) : ((bl s)[k]).toNat = by8 s k := by
  have h := by8_get s k (by rw [← bl_len]; exact hk)
  rw [← h]
  rfl
def qv (o : Option (List UInt8)) : ByteArray × Bool := match o with | none => (⟨#[]⟩, false) | some l => (ba l, true)
end Vm
end Go.Proofs.YtbnicnhkakbglaaGreatDoor
