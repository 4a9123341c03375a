/- The program's read. -/
import Derived.Test.YtedlgcbgbphlkaaSk
namespace Go.Proofs.Ytedlgcbgbphlkaa
open Go.RowKit
namespace Sl
open Jb Sa Sb Sc Sd Se Sf Sg Sh Si Sj Sk

/-- A series under way: its block, and the row of its tags. -/
def Rs (w : World) (B g : Nat) (nm : ByteArray) (v : Value) (L : List Tg) : Prop := w.heap[g]? = some (.cells #[.string nm, v] 24 (0, 0)) ∧ g < B ∧ w.ownsRow B 37 2 v L.length (tcs L)
theorem heap_setCell_ne {w : World} {b i k : Nat} {v : Value} (h : k ≠ b) : (w.setCell ⟨b, i, none⟩ v).heap[k]? = w.heap[k]? := heap_setCell_other _ _ _ _ h
theorem own_move {w w' : World} {B : Nat} {v : Value} {L : List Tg} (h : w.ownsRow B 37 2 v L.length (tcs L)) (f : ∀ i, v.ownBlock = some i → B ≤ i → i < w.heap.size → w'.heap[i]? = w.heap[i]?) : w'.ownsRow B 37 2 v L.length (tcs L) := by
  obtain ⟨hl, ⟨rfl, h0⟩ | ⟨g, c, cur, rfl, hg, hh, hr⟩⟩ := h
  · exact ⟨hl, .inl ⟨rfl, h0⟩⟩
  · have hgl : g < w.heap.size := by rw [Array.getElem?_eq_some_iff] at hh; exact hh.1
    exact ⟨hl, .inr ⟨g, c, cur, rfl, hg, (f g rfl hg hgl).trans hh, hr⟩⟩
theorem own_mono {w : World} {B lo : Nat} {v : Value} {L : List Tg} (h : w.ownsRow B 37 2 v L.length (tcs L)) (hl : lo ≤ B) : w.ownsRow lo 37 2 v L.length (tcs L) := by
  obtain ⟨hl', ⟨rfl, h0⟩ | ⟨g, c, cur, rfl, hg, hh, hr⟩⟩ := h
  · exact ⟨hl', .inl ⟨rfl, h0⟩⟩
  · exact ⟨hl', .inr ⟨g, c, cur, rfl, Nat.le_trans hl hg, hh, hr⟩⟩
theorem Rs.move {w w' : World} {B g : Nat} {nm : ByteArray} {v : Value} {L : List Tg} (h : Rs w B g nm v L) (f : ∀ i, i < w.heap.size → i = g ∨ v.ownBlock = some i → w'.heap[i]? = w.heap[i]?) : Rs w' B g nm v L := by
  obtain ⟨h1, h2, h3⟩ := h
  have hgl : g < w.heap.size := by rw [Array.getElem?_eq_some_iff] at h1; exact h1.1
  exact ⟨(f g hgl (.inl rfl)).trans h1, h2, own_move h3 fun i hi _ hl => f i hl (.inr hi)⟩
theorem Rs.lt {w : World} {B g : Nat} {nm : ByteArray} {v : Value} {L : List Tg} (h : Rs w B g nm v L) : g < w.heap.size := by
  have h1 := h.1
  rw [Array.getElem?_eq_some_iff] at h1; exact h1.1
theorem Rs.below {w w' : World} {B g : Nat} {nm : ByteArray} {v : Value} {L : List Tg} (h : Rs w B g nm v L) (b : Below w.heap.size w w') : Rs w' B g nm v L := h.move fun i hi _ => b.block i hi
theorem Rs.c0 {w : World} {B g : Nat} {nm : ByteArray} {v : Value} {L : List Tg} (h : Rs w B g nm v L) : w.cell? ⟨g, 0, none⟩ = some (.string nm) := by rw [Lib.cell_of_heap h.1]; rfl
theorem Rs.c1 {w : World} {B g : Nat} {nm : ByteArray} {v : Value} {L : List Tg} (h : Rs w B g nm v L) : w.cell? ⟨g, 1, none⟩ = some v := by rw [Lib.cell_of_heap h.1]; rfl
theorem Rs.f1 {w : World} {B g : Nat} {nm : ByteArray} {v : Value} {L : List Tg} (h : Rs w B g nm v L) : w.frozen? ⟨g, 1, none⟩ = false := Lib.frozen_of_heap h.1 1
theorem Rs.ti {w : World} {B g : Nat} {nm : ByteArray} {v : Value} {L : List Tg} (h : Rs w B g nm v L) : Ti w v L := ti_own h.2.2
theorem Rs.forms {w : World} {B g : Nat} {nm : ByteArray} {v : Value} {L : List Tg} (h : Rs w B g nm v L) : ∃ a m c, v = .slice a m c := by
  obtain ⟨a, c, e⟩ := own_forms h.2.2
  exact ⟨a, _, c, e⟩
theorem Rs.own {w : World} {B g : Nat} {nm : ByteArray} {v : Value} {L : List Tg} (h : Rs w B g nm v L) {i : Nat} (hi : v.ownBlock = some i) : B ≤ i ∧ i < w.heap.size := own_lt h.2.2 hi
/-- One tag more. -/
theorem appT {ops : Array Oper} {rest : List Oper} {o : Oper} {a : Act} {Q : Exit → Act → World → Prop} (hgd : o.guard = none) (s x : Operand)
    (ho : o.op = .call { callee := .builtin .append, args := #[s, x], argTypes := #[22, 22] }) (w : World) (B g : Nat) (nm : ByteArray) (v : Value) (L : List Tg) (t : Tg) (hs : a.eval s = v)
    (hx : a.eval x = .slice (some ⟨w.heap.size, 0, none⟩) 1 1) (hr : Rs w B g nm v L) (hB : B ≤ w.heap.size) (hl : L.length ≤ 1099511627776)
    (h : ∀ v' w', (w'.heap[g]? = some (.cells #[.string nm, v] 24 (0, 0)) ∧ w'.ownsRow B 37 2 v' (L ++ [t]).length (tcs (L ++ [t]))) → Below B w w' → wpList Try.prog ops Q rest (a.put o.dst v') w') : wpList Try.prog ops Q (o :: rest) a (w.alloc (.cells #[.string t.1, .string t.2] 37)) := by
  obtain ⟨i0, hi, hz0, hz1, hz2⟩ := info_parts info37
  have hown := hr.2.2
  have hg := hr.lt
  refine wpList_append_own _ hgd s x 22 ho B 37 i0 (.agg #[.string ⟨#[]⟩, .string ⟨#[]⟩]) 2 32 Try.underlying22 hi hz0 hz1 hz2 rfl (by decide) v L.length _ hs (hown.alloc _) ⟨w.heap.size, 0, none⟩ 1 1 (tc t) hx rfl ?_ (tc_one t) ?_ ?_ ?_ ?_
  · intro j u hj
    match j, hj with
    | 0, hj => simp [tc] at hj; subst hj; exact new_cell _ _ _ 0 _ rfl
    | 1, hj => simp [tc] at hj; subst hj; exact new_cell _ _ _ 1 _ rfl
  · unfold maxLen; omega
  · omega
  · simp; omega
  · intro v' w' h1 h2 _
    refine h v' w' ⟨?_, by rw [tcs_snoc]; simpa using h1⟩ ?_
    · rw [h2.block g (by simp; omega) (fun e => by have := (hr.own e.symm).1; have := hr.2.1; omega), Lib.alloc_old w _ g hg]
      exact hr.1
    · exact ((Below.refl B w).alloc hB _).grown h2 (by simp; omega) (fun k hk => (hown.lt k hk).1)
/-- What is left to be read, for the loop's end. -/
def msr (r o : Value) : Nat := match r, o with
  | .string s, .bool true => s.size + 1
  | _, _ => 0
theorem tgs_step {t : List UInt8} {nm : ByteArray} {L : List Tg} {x : Tg} {q : List UInt8} {S : Option Sr} (h : S = (tgs t).map fun M => (nm, L ++ M)) (h1 : tag1 t = some (x, q)) : S = (tgs q).map fun M => (nm, (L ++ [x]) ++ M) := by
  rw [h, tgs_some h1, Option.map_map]
  congr 1
  funext M
  simp
/-- What read answers. -/
def RdE (lo : Nat) (w' : World) (s : ByteArray) (e : Ending) : Prop := ∃ nm v L o, e = .returned (.tuple #[.agg #[.string nm, v], .bool o]) ∧ w'.ownsRow lo 37 2 v L.length (tcs L) ∧ 2 * L.length ≤ s.size + 2 ∧ (o = true → rd (bl s) = some (nm, L)) ∧ (o = false → rd (bl s) = none)
set_option maxRecDepth 100000 in
set_option maxHeartbeats 2000000 in
theorem read27 (w : World) (s : ByteArray) (hs : s.size ≤ 1099511627776) :
    Calls Try.prog 27 #[.string s] w fun e w' => RdE w.heap.size w' s e ∧ Below w.heap.size w w' := by
  have HS := Lib.hid hs
  obtain ⟨r0, hr0⟩ : ∃ r, r = w.heap.size := ⟨_, rfl⟩
  obtain ⟨W, hW⟩ : ∃ W, W = w.alloc (.cells #[.string ⟨#[]⟩, .slice none 0 0] 24) := ⟨_, rfl⟩
  have ZW := Lib.hid (show W.heap[r0]? = some (.cells #[.string ⟨#[]⟩, .slice none 0 0] 24 (0, 0)) by rw [hW, hr0]; exact heap_alloc_new _ _)
  have BW := Lib.hid (show Below r0 w W by rw [hW, hr0]; exact (Below.refl _ w).alloc (Nat.le_refl _) _)
  have SW := Lib.hid (show W.heap.size = r0 + 1 by rw [hW, hr0]; simp)
  have R1 := Lib.hid (readName31 W s (by omega))
  have HR0 := Lib.hid hr0
  rw [← hr0]
  have RK := Lib.hid (fun (h : (rn (bl s)).2.2 = false) => (show rd (bl s) = none by
    unfold rd
    match e : prt (bl s) with
    | none => rfl
    | some (n, r) => rw [rn_some e] at h; cases h))
  have RO := Lib.hid (fun (h : (rn (bl s)).2.2 = true) => (show rd (bl s) = (tgs (bl (rn (bl s)).2.1)).map fun M => ((rn (bl s)).1, [] ++ M) by
    obtain ⟨n, r, h1, h2⟩ := rn_ok h
    unfold rd
    rw [h1, h2]
    simp only [bl_ba, List.nil_append]))
  have RZ := Lib.hid ((rn_len (bl s)).2)
  rw [bl_len] at RZ
  generalize (rn (bl s)).1 = N0 at *
  generalize (rn (bl s)).2.1 = Q0 at *
  generalize (rn (bl s)).2.2 = O0 at *
  clear hs
  go_enter Try.func27, Try.ntmps27
  go_upto_region 1 with (fail)
  rw [← hW, ← hr0]
  clear hW hr0
  go_upto_region 2 with (go_at_call 31; refine R1.out.mono ?_; clear R1; rintro e w1 ⟨rfl, b1⟩; have B1 := Lib.hid b1; clear b1)
  go_upto_region 3 with (fail)
  obtain ⟨g, hg⟩ : ∃ g, g = w1.heap.size := ⟨_, rfl⟩
  obtain ⟨w2, hw2⟩ : ∃ w2, w2 = w1.alloc (.cells #[.string N0, .slice none 0 0] 24) := ⟨_, rfl⟩
  have B12 := (show Below w1.heap.size w1 w2 by rw [hw2]; exact (Below.refl _ w1).alloc (Nat.le_refl _) _)
  have BW2 := B1.out.trans (B12.mono B1.out.size)
  have RG := Lib.hid (show r0 < g by rw [hg]; have := B1.out.size; rw [SW.out] at this; omega)
  have RS0 := Lib.hid (show Rs w2 (g + 1) g N0 (.slice none 0 0) [] by
    refine ⟨by rw [hw2, hg]; exact heap_alloc_new _ _, Nat.lt_succ_self _, ?_⟩
    exact World.ownsRow_nil _ _ _ _)
  have Z2 := Lib.hid (show w2.heap[r0]? = some (.cells #[.string ⟨#[]⟩, .slice none 0 0] 24 (0, 0)) from (BW2.block r0 (by rw [SW.out]; omega)).trans ZW.out)
  have G2 := Lib.hid (show g + 1 ≤ w2.heap.size by rw [hw2, hg]; simp)
  have BF := Lib.hid (show Below r0 w w2 from BW.out.trans (BW2.mono (by rw [SW.out]; omega)))
  rw [← hw2, ← hg]
  clear hw2 hg B12 BW2 ZW BW SW
  go_loopw [5, 6, 8] (fun r o _ wr => ∃ (R : ByteArray) (O : Bool) (v : Value) (L : List Tg), r = .string R ∧ o = .bool O ∧ Hid (Rs wr (g + 1) g N0 v L) ∧ Hid (O = true → rd (bl s) = (tgs (bl R)).map fun M => (N0, L ++ M)) ∧ Hid (O = false → rd (bl s) = none) ∧ Hid (O = true → 2 * L.length + R.size ≤ s.size) ∧ Hid (2 * L.length ≤ s.size + 2) ∧ Hid (wr.heap[r0]? = some (.cells #[.string ⟨#[]⟩, .slice none 0 0] 24 (0, 0))) ∧ Hid (Below r0 w wr) ∧ Hid (g + 1 ≤ wr.heap.size)) (fun r o _ _ => msr r o)
  case atStart => exact ⟨Q0, O0, _, [], rfl, rfl, RS0, RO, RK, Lib.hid (fun _ => by have := RZ.out; simp; exact this), Lib.hid (by simp), Z2, BF, G2⟩
  case round =>
    obtain ⟨R, O, v, L, rfl, rfl, HR, HO, HN, H2, HL, HZ, HB, HG⟩ := hrel
    have r0lt := Lib.hid (show r0 < wr.heap.size by have := HZ.out; rw [Array.getElem?_eq_some_iff] at this; exact this.1)
    have EV := HR.out.forms
    obtain ⟨va, vm, vc, rfl⟩ := EV
    have c0 := HR.out.c0
    have c1 := HR.out.c1
    have z0 : wr.cell? ⟨r0, 0, none⟩ = some (.string ⟨#[]⟩) := by rw [Lib.cell_of_heap HZ.out]; rfl
    have z1 : wr.cell? ⟨r0, 1, none⟩ = some (.slice none 0 0) := by rw [Lib.cell_of_heap HZ.out]; rfl
    have y0 : wr.frozen? ⟨r0, 0, none⟩ = false := Lib.frozen_of_heap HZ.out 0
    have y1 : wr.frozen? ⟨r0, 1, none⟩ = false := Lib.frozen_of_heap HZ.out 1
    have u := Go.Joins.block_setCell (i := 1) (Go.Joins.block_setCell (i := 0) HZ.out (.string N0)) (.slice va vm vc)
    have M0 := Lib.hid (Go.Joins.cell_of_block u 0)
    have M1 := Lib.hid (Go.Joins.cell_of_block u 1)
    clear u
    have TI := Lib.hid (show ((wr.setCell ⟨r0, 0, none⟩ (.string N0)).setCell ⟨r0, 1, none⟩ (.slice va vm vc)).ownsRow r0 37 2 (.slice va vm vc) L.length (tcs L) from own_mono ((HR.out.move (w' := (wr.setCell ⟨r0, 0, none⟩ (.string N0)).setCell ⟨r0, 1, none⟩ (.slice va vm vc)) (fun i hi he => by
      have hne : i ≠ r0 := by
        have := RG.out
        rcases he with rfl | he
        · omega
        · have := (HR.out.own he).1; omega
      rw [heap_setCell_ne hne, heap_setCell_ne hne])).2.2) (by have := RG.out; omega))
    have BE := Lib.hid (show Below r0 w ((wr.setCell ⟨r0, 0, none⟩ (.string N0)).setCell ⟨r0, 1, none⟩ (.slice va vm vc)) from (HB.out.setCell (p := ⟨r0, 0, none⟩) (Nat.le_refl _) _).setCell (p := ⟨r0, 1, none⟩) (Nat.le_refl _) _)
    cases O with
    | false =>
      go_wp2_with fail
      have m0 := M0.out
      have m1 := M1.out
      refine bodyPost_ret (v := .tuple #[.agg #[.string N0, .slice va vm vc], .bool false]) (by simp [results, Try.results27, go_sem, m0, m1] <;> rfl) rfl ⟨⟨N0, _, L, false, rfl, TI.out, HL.out, (fun h => by cases h), (fun _ => HN.out (by trivial))⟩, BE.out⟩
    | true =>
      by_cases hR : R = ⟨#[]⟩
      · subst hR
        have RD := Lib.hid (show rd (bl s) = some (N0, L) by
          have := HO.out rfl
          rw [this]
          show (tgs []).map _ = _
          rw [tgs_nil]
          simp)
        go_wp2_with fail
        have m0 := M0.out
        have m1 := M1.out
        refine bodyPost_ret (v := .tuple #[.agg #[.string N0, .slice va vm vc], .bool true]) (by simp [results, Try.results27, go_sem, m0, m1] <;> rfl) rfl ⟨⟨N0, _, L, true, rfl, TI.out, HL.out, (fun _ => RD.out), (fun h => by cases h)⟩, BE.out⟩
      obtain ⟨n1, n2⟩ := nil_no hR
      have HRN := Lib.hid hR
      clear hR M0 M1 TI BE z0 z1 y0 y1 c0 c1
      obtain ⟨y, hy⟩ : ∃ y, y = wr.heap.size := ⟨_, rfl⟩
      obtain ⟨wa, hwa⟩ : ∃ wa, wa = wr.alloc (.cells #[.string ⟨#[]⟩, .string ⟨#[]⟩] 37) := ⟨_, rfl⟩
      have CPa := (show Cp wa y ⟨#[]⟩ ⟨#[]⟩ by rw [hwa, hy]; exact cp_new _ _ _)
      have Ba := (show Below wr.heap.size wr wa by rw [hwa]; exact (Below.refl _ wr).alloc (Nat.le_refl _) _)
      have Sa' : wa.heap.size = y + 1 := by rw [hwa, hy]; simp
      have hRs : R.size ≤ s.size := by have := H2.out (by trivial); omega
      have T1 := Lib.hid (readTag32 wa R (by have := HS.out; omega))
      have RTL := Lib.hid (rt_len (bl R))
      have RTY := Lib.hid (fun h => rt_ok (t := bl R) h)
      have RTN := Lib.hid (fun h => rt_no (t := bl R) h)
      have RNE := Lib.hid (show bl R ≠ [] from fun e => HRN.out (nil_of (by rw [← bl_len, e]; rfl)))
      generalize rtk (bl R) = K at *
      generalize rtv (bl R) = V at *
      generalize rtr (bl R) = R' at *
      generalize rto (bl R) = O' at *
      -- behind the call, the tag stored
      have AFT := Lib.hid (fun (w1 : World) (b1 : Below wa.heap.size wa w1) => (show (w1.cell? ⟨y, 0, none⟩ = some (.string ⟨#[]⟩) ∧ w1.cell? ⟨y, 1, none⟩ = some (.string ⟨#[]⟩) ∧ w1.frozen? ⟨y, 0, none⟩ = false ∧ w1.frozen? ⟨y, 1, none⟩ = false) ∧
          ∀ W2, W2 = (w1.setCell ⟨y, 0, none⟩ (.string K)).setCell ⟨y, 1, none⟩ (.string V) → Cp W2 y K V ∧ Rs W2 (g + 1) g N0 (.slice va vm vc) L ∧ W2.heap[r0]? = some (.cells #[.string ⟨#[]⟩, .slice none 0 0] 24 (0, 0)) ∧ Below r0 w W2 ∧ g + 1 ≤ W2.heap.size from by
        have hb : w1.heap[y]? = some (.cells #[.string ⟨#[]⟩, .string ⟨#[]⟩] 37 (0, 0)) := (b1.block y (by rw [Sa']; omega)).trans CPa
        have Rw1 : Rs w1 (g + 1) g N0 (.slice va vm vc) L := (HR.out.below Ba).below b1
        have hr0y : r0 ≠ y := by have := r0lt.out; omega
        refine ⟨⟨by rw [Lib.cell_of_heap hb]; rfl, by rw [Lib.cell_of_heap hb]; rfl, Lib.frozen_of_heap hb 0, Lib.frozen_of_heap hb 1⟩, ?_⟩
        rintro W2 rfl
        have B01 : Below r0 w w1 := (HB.out.trans (Ba.mono (Nat.le_of_lt r0lt.out))).trans (b1.mono (by rw [Sa']; have := r0lt.out; omega))
        refine ⟨?_, ?_, ?_, ?_, ?_⟩
        · exact Go.Joins.block_setCell (i := 1) (Go.Joins.block_setCell (i := 0) hb (.string K)) (.string V)
        · refine Rw1.move fun i hi he => ?_
          have hne : i ≠ y := by
            have hyl := HG.out
            rcases he with rfl | he
            · omega
            · have := (HR.out.own he).2; omega
          rw [heap_setCell_ne hne, heap_setCell_ne hne]
        · rw [heap_setCell_ne hr0y, heap_setCell_ne hr0y, b1.block r0 (by rw [Sa']; have := r0lt.out; omega), Ba.block r0 r0lt.out]
          exact HZ.out
        · have hry : r0 ≤ y := by have := r0lt.out; omega
          exact (B01.setCell (p := ⟨y, 0, none⟩) hry _).setCell (p := ⟨y, 1, none⟩) hry _
        · have h1 := b1.size
          have h2 := HG.out
          have : w1.heap.size = ((w1.setCell ⟨y, 0, none⟩ (.string K)).setCell ⟨y, 1, none⟩ (.string V)).heap.size := by simp
          rw [← this]
          omega))
      go_upto_region 5 with (fail)
      rw [← hwa, ← hy]
      clear hwa hy CPa Ba Sa' hRs
      go_upto_region 6 with (go_at_call 32; refine T1.out.mono ?_; clear T1; rintro e w1 ⟨rfl, b1⟩; obtain ⟨⟨q0, q1, q2, q3⟩, q4⟩ := AFT.out w1 b1; have Q4 := Lib.hid q4; clear q4 b1)
      obtain ⟨W2, hW2⟩ : ∃ W2, W2 = (w1.setCell ⟨y, 0, none⟩ (.string K)).setCell ⟨y, 1, none⟩ (.string V) := ⟨_, rfl⟩
      obtain ⟨p1, p2, p3, p4, p5⟩ := Q4.out W2 hW2
      rw [← hW2]
      clear hW2 Q4 q0 q1 q2 q3 HR
      have x0 := p1.c0
      have x1 := p1.c1
      have x2 := p2.c1
      have x3 := p2.f1
      have HR2 := Lib.hid p2
      have HZ2 := Lib.hid p3
      have HB2 := Lib.hid p4
      have HG2 := Lib.hid p5
      clear p1 p2 p3 p4 p5
      have LL := Lib.hid (show L.length ≤ 1099511627776 by have := HL.out; have := HS.out; omega)
      go_wp2_with (at_builtin; refine appT rfl (.tmp 29) (.tmp 31) rfl W2 (g + 1) g N0 _ L (K, V) rfl rfl HR2.out HG2.out LL.out ?_; rintro v' w3 ⟨h1, h2⟩ b3; (obtain ⟨a3, c3, e3⟩ := own_forms h2); obtain ⟨m3, hm3⟩ : ∃ m, m = (L ++ [(K, V)]).length := ⟨_, rfl⟩; rw [← hm3] at e3; subst e3; have H1 := Lib.hid h1; have H2o := Lib.hid h2; have B3 := Lib.hid b3; clear h1 h2 b3 hm3; have x5 : w3.cell? ⟨g, 1, none⟩ = some (.slice va vm vc) := (by rw [Lib.cell_of_heap H1.out]; rfl); have x6 : w3.frozen? ⟨g, 1, none⟩ = false := Lib.frozen_of_heap H1.out 1)
      have FRS := Lib.hid (show Rs (w3.setCell ⟨g, 1, none⟩ (.slice a3 m3 c3)) (g + 1) g N0 (.slice a3 m3 c3) (L ++ [(K, V)]) from ⟨Go.Joins.block_setCell (i := 1) H1.out (.slice a3 m3 c3), Nat.lt_succ_self _, own_move H2o.out fun i hi hB _ => heap_setCell_ne (by omega)⟩)
      have FZ := Lib.hid (show (w3.setCell ⟨g, 1, none⟩ (.slice a3 m3 c3)).heap[r0]? = some (.cells #[.string ⟨#[]⟩, .slice none 0 0] 24 (0, 0)) by
        rw [heap_setCell_ne (by have := RG.out; omega), B3.out.block r0 (by have := RG.out; omega)]
        exact HZ2.out)
      have FB := Lib.hid (show Below r0 w (w3.setCell ⟨g, 1, none⟩ (.slice a3 m3 c3)) from (HB2.out.trans (B3.out.mono (by have := RG.out; omega))).setCell (p := ⟨g, 1, none⟩) (by have := RG.out; show r0 ≤ g; omega) _)
      have FG := Lib.hid (show g + 1 ≤ (w3.setCell ⟨g, 1, none⟩ (.slice a3 m3 c3)).heap.size by have h1 := B3.out.size; have h2 := HG2.out; simp; omega)
      have HO1 := HO.out (by trivial)
      have H21 := H2.out (by trivial)
      go_roundw
      case rel =>
        refine ⟨R', O', _, L ++ [(K, V)], rfl, rfl, FRS, Lib.hid (fun h => tgs_step HO1 (RTY.out h)), Lib.hid (fun h => ?_), Lib.hid (fun h => ?_), Lib.hid (by simp; omega), FZ, FB, FG⟩
        · rw [HO1, tgs_none RNE.out (RTN.out h)]; rfl
        · have h1 := tag1_len (RTY.out h)
          rw [bl_len, bl_len] at h1
          simp
          omega
      case measure =>
        cases O' with
        | false => simp [msr]
        | true =>
            have h1 := tag1_len (RTY.out rfl)
            rw [bl_len, bl_len] at h1
            simp [msr]
            omega
end Sl
end Go.Proofs.Ytedlgcbgbphlkaa
