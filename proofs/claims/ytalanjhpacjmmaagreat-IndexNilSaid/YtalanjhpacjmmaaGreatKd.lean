/- Books: put. -/
import Derived.Test.YtalanjhpacjmmaaGreatKc
import Derived.RegionTactic
import Derived.Deep.RegionHeld
import Derived.WalkSpells
namespace Go.Proofs.YtalanjhpacjmmaaGreat
set_option maxRecDepth 100000
open Go.RowKit Go.Maps Go.ChangeMaps Go.MapKept Go.Sort Go.Shelf
namespace Kd
open Jb Ka Kb Kc

/-- The book has turned: its cells, and its map, or a new one. -/
structure Turn (w w' : World) (g o : Nat) (mo mo' : Option Nat) (N' : Nat) (F' : Fun) : Prop where
  bk : Bk w' g o mo' N' F'
  chg : Chg w w' (fun k => k = g ∨ mo = some k)
  mo : mo' = mo ∨ ∃ m, mo' = some m ∧ w.heap.size ≤ m
  cell : ∀ i, i ≠ o → i ≠ o + 1 → w'.cell? ⟨g, i, none⟩ = w.cell? ⟨g, i, none⟩
  froz : ∀ i, w'.frozen? ⟨g, i, none⟩ = w.frozen? ⟨g, i, none⟩
theorem Is_len {t e : TypeId} {z : Value} (M : Mt t e z) {w : World} {m N : Nat} {F : Fun} (h : Is w m N F) : ∃ n : Nat, n ≤ N ∧ ∀ y : World, y.heap = w.heap → ∀ ty, (Builtin.len_ #[t] ty #[.map (some m)]).run Tryz.prog y = .ok (.int .i64 (n : Nat)) y := by
  obtain ⟨D, d1, _⟩ := h
  exact ⟨Maps.size D, d1.size_le, fun y e ty => World.ownsMap.len (w := y) (by obtain ⟨es, clock, hb, r⟩ := d1; exact ⟨es, clock, by rw [e]; exact hb, r⟩) M.ht ty⟩
theorem put_end {w W w9 : World} {g o m N : Nat} {mo : Option Nat} {F F' : Fun} {q' : Nat} {x : Int} (h : Bk w g o mo N F)
    (hW : Chg w W (fun k => k = g ∨ mo = some k)) (cW : W.cell? ⟨g, o, none⟩ = some (.map (some m))) (qW : ∃ q : Nat, W.cell? ⟨g, o + 1, none⟩ = some (.int .i64 (q : Nat)))
    (cells : ∀ i, i ≠ o → i ≠ o + 1 → W.cell? ⟨g, i, none⟩ = w.cell? ⟨g, i, none⟩) (froz : ∀ i, W.frozen? ⟨g, i, none⟩ = w.frozen? ⟨g, i, none⟩)
    (hm : some m = mo ∨ (w.heap.size ≤ m)) (hmg : m ≠ g) (t : W.mapTurned w9 m) (i9 : Is w9 m (N + 1) F') (hx : x = (q' : Nat)) (hq : q' ≤ 9223372036854775807) :
    Turn w (w9.setCell ⟨g, o + 1, none⟩ (.int .i64 x)).drew g o mo (some m) (N + 1) F' := by
  subst hx
  have gl := h.lt
  have e9 : w9.heap[g]? = W.heap[g]? := mt_block t hmg.symm
  have ch9 : Chg w w9 (fun k => k = g ∨ mo = some k) := hW.turned (fun hl => by
    rcases hm with e | e
    · exact .inr e.symm
    · omega) t
  obtain ⟨q, hqW⟩ := qW
  refine ⟨⟨?_, ⟨q', hq, ?_⟩, fun i => ?_, fun m' e => ?_, fun e => (nomatch e), fun m' e => ?_⟩, ?_, ?_, fun i h1 h2 => ?_, fun i => ?_⟩
  · exact (cell_other (w := w9) (by simp)).trans ((World.cell?_of_block e9).trans cW)
  · exact cell_same (w := w9) (u := .int .i64 (q : Nat)) ((World.cell?_of_block e9).trans hqW)
  · have : w9.frozen? ⟨g, i, none⟩ = false := (World.frozen?_of_block e9).trans ((froz i).trans (h.z i))
    show (w9.setCell ⟨g, o + 1, none⟩ (.int .i64 (q' : Nat))).frozen? ⟨g, i, none⟩ = false
    simpa using this
  · cases e; exact hmg
  · cases e; exact i9.of_block (heap_setCell_ne hmg)
  · exact (ch9.setCell (.inl rfl) _).drew
  · rcases hm with e | e
    · exact .inl e
    · exact .inr ⟨m, rfl, e⟩
  · exact (cell_other (w := w9) (by simp)).trans ((World.cell?_of_block e9).trans (cells i h1 h2))
  · have : w9.frozen? ⟨g, i, none⟩ = w.frozen? ⟨g, i, none⟩ := (World.frozen?_of_block e9).trans (froz i)
    show (w9.setCell ⟨g, o + 1, none⟩ (.int .i64 (q' : Nat))).frozen? ⟨g, i, none⟩ = _
    simpa using this
/-- What the walk of put wants of the world ahead of the store, and what it gets. -/
theorem put_all {t e : TypeId} {z : Value} (M : Mt t e z) {w W V : World} {g o m N : Nat} {mo : Option Nat} {F : Fun} (h : Bk w g o mo N F) (v : Value) {s : ByteArray} (hs : s.size ≤ maxLen) (hN : N < maxLen)
    (_ : Chg w W (fun k => k = g ∨ mo = some k)) (cW : W.cell? ⟨g, o, none⟩ = some (.map (some m))) (qW : ∃ q : Nat, q ≤ 9223372036854775807 ∧ W.cell? ⟨g, o + 1, none⟩ = some (.int .i64 (q : Nat)))
    (cells : ∀ i, i ≠ o → i ≠ o + 1 → W.cell? ⟨g, i, none⟩ = w.cell? ⟨g, i, none⟩) (froz : ∀ i, W.frozen? ⟨g, i, none⟩ = w.frozen? ⟨g, i, none⟩)
    (hm : some m = mo ∨ (w.heap.size ≤ m)) (hmg : m ≠ g) (iW : Is W m N F) (hV : V.heap = W.heap) (hV2 : Chg w V (fun k => k = g ∨ mo = some k)) :
    ∃ w9 q n, (Instr.mapUpdate t (.map (some m)) (.string s) v).run Tryz.prog V = .ok () w9 ∧ w9.cell? ⟨g, o, none⟩ = some (.map (some m)) ∧ w9.cell? ⟨g, o + 1, none⟩ = some (.int .i64 (q : Nat)) ∧ w9.frozen? ⟨g, o + 1, none⟩ = false ∧
      (∀ ty, (Builtin.len_ #[t] ty #[.map (some m)]).run Tryz.prog w9.drew = .ok (.int .i64 (n : Nat)) w9.drew) ∧ Hid (Turn w (w9.setCell ⟨g, o + 1, none⟩ (.int .i64 (max (q : Int) (n : Int)))).drew g o mo (some m) (N + 1) (upd F s (some v))) := by
  have cc : ∀ a : Addr, V.cell? a = W.cell? a := fun a => by unfold World.cell?; rw [hV]
  have ff : ∀ a : Addr, V.frozen? a = W.frozen? a := fun a => by unfold World.frozen?; rw [hV]
  obtain ⟨w9, r9, i9, t9⟩ := (iW.of_block (w' := V) (by rw [hV])).put M v hs hN
  obtain ⟨q, hq, qW⟩ := qW
  have e9 : w9.heap[g]? = V.heap[g]? := mt_block t9 hmg.symm
  obtain ⟨n, hnb, hlen⟩ := Is_len M i9
  refine ⟨w9, q, n, r9, (World.cell?_of_block e9).trans ((cc _).trans cW), (World.cell?_of_block e9).trans ((cc _).trans qW), (World.frozen?_of_block e9).trans ((ff _).trans ((froz _).trans (h.z _))), fun ty => hlen w9.drew rfl ty, Lib.hid ?_⟩
  exact put_end (q' := max q n) h hV2 ((cc _).trans cW) ⟨q, (cc _).trans qW⟩ (fun i h1 h2 => (cc _).trans (cells i h1 h2)) (fun i => (ff _).trans (froz i)) hm hmg t9 i9 (by omega) (by unfold maxLen at hN; omega)
theorem cell_alloc_lt {w : World} {a : Addr} {o : Obj} (h : a.block < w.heap.size) : (w.alloc o).cell? a = w.cell? a := World.cell?_of_block (Below.heap_alloc _ _ _ h)
/-- The world in which a map is made for the book. -/
theorem made_for {w W0 : World} {g o N : Nat} {F : Fun} (h : Bk w g o none N F) (b : Below w.heap.size w W0) :
    let W := (W0.setCell ⟨g, o, none⟩ (.map (some W0.heap.size))).alloc (.map #[] 0)
    Chg w W (fun k => k = g ∨ none = some k) ∧ W.cell? ⟨g, o, none⟩ = some (.map (some W0.heap.size)) ∧ (∃ q : Nat, q ≤ 9223372036854775807 ∧ W.cell? ⟨g, o + 1, none⟩ = some (.int .i64 (q : Nat))) ∧
    (∀ i, i ≠ o → i ≠ o + 1 → W.cell? ⟨g, i, none⟩ = w.cell? ⟨g, i, none⟩) ∧ (∀ i, W.frozen? ⟨g, i, none⟩ = w.frozen? ⟨g, i, none⟩) ∧ w.heap.size ≤ W0.heap.size ∧ W0.heap.size ≠ g ∧ Is W W0.heap.size N F := by
  intro W
  have gl := h.lt
  have h0 := h.below b
  have g0 := h0.lt
  obtain ⟨q, hq, c1⟩ := h0.c1
  have eb : W.heap[g]? = (W0.setCell ⟨g, o, none⟩ (.map (some W0.heap.size))).heap[g]? := Below.heap_alloc _ _ _ (by simpa using g0)
  refine ⟨((Chg.of_below b (Nat.le_refl _) _).setCell (.inl rfl) _).alloc _, ?_, ⟨q, hq, ?_⟩, fun i h1 h2 => ?_, fun i => ?_, b.size, by omega, ?_⟩
  · exact (World.cell?_of_block eb).trans (cell_same h0.c0)
  · exact (World.cell?_of_block eb).trans ((cell_other (by simp)).trans c1)
  · exact (World.cell?_of_block eb).trans ((cell_other (by simp)).trans (World.cell?_of_block (b.block g gl)))
  · refine (World.frozen?_of_block eb).trans ?_
    have := World.frozen?_of_block (a := ⟨g, i, none⟩) (b.block g gl)
    simpa using this
  · have i0 := made (W0.setCell ⟨g, o, none⟩ (.map (some W0.heap.size)))
    rw [show (W0.setCell ⟨g, o, none⟩ (.map (some W0.heap.size))).heap.size = W0.heap.size by simp] at i0
    exact (i0.mono (Nat.zero_le N)).ext fun s => (h.mn rfl s).symm
set_option maxHeartbeats 1000000 in
theorem put_G (w : World) (g N : Nat) (mo : Option Nat) (F : Fun) (h : Bk w g 0 mo N F) (s : ByteArray) (hs : s.size ≤ maxLen) (hN : N < maxLen) (b : Nat) :
    Calls Tryz.prog 41 #[.pointer (some ⟨g, 0, none⟩), .string s, .pointer (some ⟨b, 0, none⟩)] w fun e w' => e = .returned (.tuple #[]) ∧ ∃ mo', Turn w w' g 0 mo mo' (N + 1) (upd F s (some (.pointer (some ⟨b, 0, none⟩)))) := by
  have z0 := h.z 0
  have z1 := h.z 1
  obtain ⟨W0, hW0⟩ : ∃ W0, W0 = w := ⟨_, rfl⟩
  have b0 : Below w.heap.size w W0 := by rw [hW0]; exact Below.refl _ w
  have h0 := h.below b0
  have c0 := h0.c0
  have zz := h0.z 0
  have gl := h0.lt
  have qe := fun (y : World) => run_eql_map_nil (P := Tryz.prog) y 57 9 72 mo Tryz.underlying57
  cases mo with
  | some m =>
    obtain ⟨w9, q, n, r9, k0, k1, x1, hl, EN⟩ := put_all mt_G (V := W0) (W := W0) h (.pointer (some ⟨b, 0, none⟩)) hs hN (Chg.of_below b0 (Nat.le_refl _) _) c0 h0.c1 (fun i _ _ => World.cell?_of_block (b0.block g h.lt)) (fun i => World.frozen?_of_block (b0.block g h.lt)) (.inl rfl) (h.ne m rfl) (h0.ms m rfl) rfl (Chg.of_below b0 (Nat.le_refl _) _)
    clear h hs hN z0 z1 b0 h0
    subst hW0
    go_enter Tryz.func41, Tryz.ntmps41
    go_upto_region 3 with (fail)
    go_region
    go_end0
    exact ⟨rfl, _, EN.out⟩
  | none =>
    have md := made_for h b0
    obtain ⟨m, hm⟩ : ∃ m, m = W0.heap.size := ⟨_, rfl⟩
    obtain ⟨W, hW⟩ : ∃ W, W = (W0.setCell ⟨g, 0, none⟩ (.map (some m))).alloc (.map #[] 0) := ⟨_, rfl⟩
    simp only [← hm] at md
    rw [← hW] at md
    obtain ⟨chW, cW, qW, cells, froz, hm0, hmg, iW⟩ := md
    obtain ⟨w9, q, n, r9, k0, k1, x1, hl, EN⟩ := put_all mt_G (V := W) (W := W) h (.pointer (some ⟨b, 0, none⟩)) hs hN chW cW qW cells froz (.inr hm0) hmg iW rfl chW
    have hmm := @run_makeMap Tryz.prog
    clear h hs hN z0 z1 b0 h0 chW qW cells froz hm0 hmg iW
    go_enter Tryz.func41, Tryz.ntmps41
    subst hW0
    go_upto_region 2 with (fail)
    rw [← hm, ← hW]
    clear hW hm
    go_upto_region 3 with (fail)
    go_region
    go_end0
    exact ⟨rfl, _, EN.out⟩
set_option maxHeartbeats 1000000 in
theorem put_S (w : World) (g N : Nat) (mo : Option Nat) (F : Fun) (h : Bk w g 0 mo N F) (s : ByteArray) (hs : s.size ≤ maxLen) (hN : N < maxLen) (nm : ByteArray) (ea : Option Addr) (n1 ec : Nat) :
    Calls Tryz.prog 71 #[.pointer (some ⟨g, 0, none⟩), .string s, .agg #[.string nm, .slice ea n1 ec]] w fun e w' => e = .returned (.tuple #[]) ∧ ∃ mo', Turn w w' g 0 mo mo' (N + 1) (upd F s (some (.agg #[.string nm, .slice ea n1 ec]))) := by
  have z0 := h.z 0
  have z1 := h.z 1
  obtain ⟨W0, hW0⟩ : ∃ W0, W0 = w.alloc (.cells #[.string nm, .slice ea n1 ec] 30) := ⟨_, rfl⟩
  have b0 : Below w.heap.size w W0 := by rw [hW0]; exact (Below.refl _ w).alloc (Nat.le_refl _) _
  obtain ⟨bx, hbx⟩ : ∃ bx, bx = w.heap.size := ⟨_, rfl⟩
  have y0 : W0.cell? ⟨bx, 0, none⟩ = some (.string nm) := by rw [hW0, hbx]; exact new_cell _ _ _ 0 _ rfl
  have y1 : W0.cell? ⟨bx, 1, none⟩ = some (.slice ea n1 ec) := by rw [hW0, hbx]; exact new_cell _ _ _ 1 _ rfl
  have h0 := h.below b0
  have c0 := h0.c0
  have zz := h0.z 0
  have gl := h0.lt
  have qe := fun (y : World) => run_eql_map_nil (P := Tryz.prog) y 74 9 30 mo Tryz.underlying74
  cases mo with
  | some m =>
    obtain ⟨w9, q, n, r9, k0, k1, x1, hl, EN⟩ := put_all mt_S (V := W0.drew) (W := W0) h (.agg #[.string nm, .slice ea n1 ec]) hs hN (Chg.of_below b0 (Nat.le_refl _) _) c0 h0.c1 (fun i _ _ => World.cell?_of_block (b0.block g h.lt)) (fun i => World.frozen?_of_block (b0.block g h.lt)) (.inl rfl) (h.ne m rfl) (h0.ms m rfl) rfl ((Chg.of_below b0 (Nat.le_refl _) _).drew)
    clear h hs hN z0 z1 b0 h0
    go_enter Tryz.func71, Tryz.ntmps71
    go_upto_region 1 with (fail)
    rw [← hW0, ← hbx]
    clear hW0 hbx
    go_upto_region 3 with (fail)
    go_region
    go_upto_region 4 with (fail)
    go_region
    go_end0
    exact ⟨rfl, _, EN.out⟩
  | none =>
    have md := made_for h b0
    obtain ⟨m, hm⟩ : ∃ m, m = W0.heap.size := ⟨_, rfl⟩
    obtain ⟨W, hW⟩ : ∃ W, W = (W0.setCell ⟨g, 0, none⟩ (.map (some m))).alloc (.map #[] 0) := ⟨_, rfl⟩
    simp only [← hm] at md
    rw [← hW] at md
    obtain ⟨chW, cW, qW, cells, froz, hm0, hmg, iW⟩ := md
    have y0' : W.cell? ⟨bx, 0, none⟩ = some (.string nm) := by rw [hW, cell_alloc_lt (by simpa using cell_lt y0)]; exact (cell_other (fun e => by injection e with e1 e2 e3; first | (have := h.lt; omega) | omega)).trans y0
    have y1' : W.cell? ⟨bx, 1, none⟩ = some (.slice ea n1 ec) := by rw [hW, cell_alloc_lt (by simpa using cell_lt y1)]; exact (cell_other (fun e => by injection e with e1 e2 e3; first | (have := h.lt; omega) | omega)).trans y1
    obtain ⟨w9, q, n, r9, k0, k1, x1, hl, EN⟩ := put_all mt_S (V := W.drew) (W := W) h (.agg #[.string nm, .slice ea n1 ec]) hs hN chW cW qW cells froz (.inr hm0) hmg iW rfl (chW).drew
    have hmm := @run_makeMap Tryz.prog
    clear h hs hN z0 z1 b0 h0 chW qW cells froz hm0 hmg iW
    go_enter Tryz.func71, Tryz.ntmps71
    go_upto_region 1 with (fail)
    rw [← hW0, ← hbx]
    clear hW0 hbx
    go_upto_region 3 with (fail)
    rw [← hm, ← hW]
    clear hW hm
    go_region
    go_upto_region 4 with (fail)
    go_region
    go_end0
    exact ⟨rfl, _, EN.out⟩
set_option maxHeartbeats 1000000 in
theorem put_T (w : World) (g N : Nat) (mo : Option Nat) (F : Fun) (h : Bk w g 2 mo N F) (s : ByteArray) (hs : s.size ≤ maxLen) (hN : N < maxLen) (b : Nat) :
    Calls Tryz.prog 104 #[.pointer (some ⟨g, 2, none⟩), .string s, .pointer (some ⟨b, 0, none⟩)] w fun e w' => e = .returned (.tuple #[]) ∧ ∃ mo', Turn w w' g 2 mo mo' (N + 1) (upd F s (some (.pointer (some ⟨b, 0, none⟩)))) := by
  have z0 := h.z 2
  have z1 := h.z 3
  obtain ⟨W0, hW0⟩ : ∃ W0, W0 = w := ⟨_, rfl⟩
  have b0 : Below w.heap.size w W0 := by rw [hW0]; exact Below.refl _ w
  have h0 := h.below b0
  have c0 := h0.c0
  have zz := h0.z 2
  have gl := h0.lt
  have qe := fun (y : World) => run_eql_map_nil (P := Tryz.prog) y 77 9 94 mo Tryz.underlying77
  cases mo with
  | some m =>
    obtain ⟨w9, q, n, r9, k0, k1, x1, hl, EN⟩ := put_all mt_T (V := W0) (W := W0) h (.pointer (some ⟨b, 0, none⟩)) hs hN (Chg.of_below b0 (Nat.le_refl _) _) c0 h0.c1 (fun i _ _ => World.cell?_of_block (b0.block g h.lt)) (fun i => World.frozen?_of_block (b0.block g h.lt)) (.inl rfl) (h.ne m rfl) (h0.ms m rfl) rfl (Chg.of_below b0 (Nat.le_refl _) _)
    clear h hs hN z0 z1 b0 h0
    subst hW0
    go_enter Tryz.func104, Tryz.ntmps104
    go_upto_region 3 with (fail)
    go_region
    go_end0
    exact ⟨rfl, _, EN.out⟩
  | none =>
    have md := made_for h b0
    obtain ⟨m, hm⟩ : ∃ m, m = W0.heap.size := ⟨_, rfl⟩
    obtain ⟨W, hW⟩ : ∃ W, W = (W0.setCell ⟨g, 2, none⟩ (.map (some m))).alloc (.map #[] 0) := ⟨_, rfl⟩
    simp only [← hm] at md
    rw [← hW] at md
    obtain ⟨chW, cW, qW, cells, froz, hm0, hmg, iW⟩ := md
    obtain ⟨w9, q, n, r9, k0, k1, x1, hl, EN⟩ := put_all mt_T (V := W) (W := W) h (.pointer (some ⟨b, 0, none⟩)) hs hN chW cW qW cells froz (.inr hm0) hmg iW rfl chW
    have hmm := @run_makeMap Tryz.prog
    clear h hs hN z0 z1 b0 h0 chW qW cells froz hm0 hmg iW
    go_enter Tryz.func104, Tryz.ntmps104
    subst hW0
    go_upto_region 2 with (fail)
    rw [← hm, ← hW]
    clear hW hm
    go_upto_region 3 with (fail)
    go_region
    go_end0
    exact ⟨rfl, _, EN.out⟩
set_option maxHeartbeats 1000000 in
theorem put_V (w : World) (g N : Nat) (mo : Option Nat) (F : Fun) (h : Bk w g 0 mo N F) (s : ByteArray) (hs : s.size ≤ maxLen) (hN : N < maxLen) (b : Nat) :
    Calls Tryz.prog 103 #[.pointer (some ⟨g, 0, none⟩), .string s, .pointer (some ⟨b, 0, none⟩)] w fun e w' => e = .returned (.tuple #[]) ∧ ∃ mo', Turn w w' g 0 mo mo' (N + 1) (upd F s (some (.pointer (some ⟨b, 0, none⟩)))) := by
  have z0 := h.z 0
  have z1 := h.z 1
  obtain ⟨W0, hW0⟩ : ∃ W0, W0 = w := ⟨_, rfl⟩
  have b0 : Below w.heap.size w W0 := by rw [hW0]; exact Below.refl _ w
  have h0 := h.below b0
  have c0 := h0.c0
  have zz := h0.z 0
  have gl := h0.lt
  have qe := fun (y : World) => run_eql_map_nil (P := Tryz.prog) y 136 9 96 mo Tryz.underlying136
  cases mo with
  | some m =>
    obtain ⟨w9, q, n, r9, k0, k1, x1, hl, EN⟩ := put_all mt_V (V := W0) (W := W0) h (.pointer (some ⟨b, 0, none⟩)) hs hN (Chg.of_below b0 (Nat.le_refl _) _) c0 h0.c1 (fun i _ _ => World.cell?_of_block (b0.block g h.lt)) (fun i => World.frozen?_of_block (b0.block g h.lt)) (.inl rfl) (h.ne m rfl) (h0.ms m rfl) rfl (Chg.of_below b0 (Nat.le_refl _) _)
    clear h hs hN z0 z1 b0 h0
    subst hW0
    go_enter Tryz.func103, Tryz.ntmps103
    go_upto_region 3 with (fail)
    go_region
    go_end0
    exact ⟨rfl, _, EN.out⟩
  | none =>
    have md := made_for h b0
    obtain ⟨m, hm⟩ : ∃ m, m = W0.heap.size := ⟨_, rfl⟩
    obtain ⟨W, hW⟩ : ∃ W, W = (W0.setCell ⟨g, 0, none⟩ (.map (some m))).alloc (.map #[] 0) := ⟨_, rfl⟩
    simp only [← hm] at md
    rw [← hW] at md
    obtain ⟨chW, cW, qW, cells, froz, hm0, hmg, iW⟩ := md
    obtain ⟨w9, q, n, r9, k0, k1, x1, hl, EN⟩ := put_all mt_V (V := W) (W := W) h (.pointer (some ⟨b, 0, none⟩)) hs hN chW cW qW cells froz (.inr hm0) hmg iW rfl chW
    have hmm := @run_makeMap Tryz.prog
    clear h hs hN z0 z1 b0 h0 chW qW cells froz hm0 hmg iW
    go_enter Tryz.func103, Tryz.ntmps103
    subst hW0
    go_upto_region 2 with (fail)
    rw [← hm, ← hW]
    clear hW hm
    go_upto_region 3 with (fail)
    go_region
    go_end0
    exact ⟨rfl, _, EN.out⟩
set_option maxHeartbeats 1000000 in
theorem put_X (w : World) (g N : Nat) (mo : Option Nat) (F : Fun) (h : Bk w g 0 mo N F) (s : ByteArray) (hs : s.size ≤ maxLen) (hN : N < maxLen) :
    Calls Tryz.prog 74 #[.pointer (some ⟨g, 0, none⟩), .string s, .agg #[]] w fun e w' => e = .returned (.tuple #[]) ∧ ∃ mo', Turn w w' g 0 mo mo' (N + 1) (upd F s (some (.agg #[]))) := by
  have z0 := h.z 0
  have z1 := h.z 1
  obtain ⟨W0, hW0⟩ : ∃ W0, W0 = w.alloc (.cells #[] 98) := ⟨_, rfl⟩
  have b0 : Below w.heap.size w W0 := by rw [hW0]; exact (Below.refl _ w).alloc (Nat.le_refl _) _
  obtain ⟨bx, hbx⟩ : ∃ bx, bx = w.heap.size := ⟨_, rfl⟩
  have h0 := h.below b0
  have c0 := h0.c0
  have zz := h0.z 0
  have gl := h0.lt
  have qe := fun (y : World) => run_eql_map_nil (P := Tryz.prog) y 141 9 98 mo Tryz.underlying141
  cases mo with
  | some m =>
    obtain ⟨w9, q, n, r9, k0, k1, x1, hl, EN⟩ := put_all mt_X (V := W0.drew) (W := W0) h (.agg #[]) hs hN (Chg.of_below b0 (Nat.le_refl _) _) c0 h0.c1 (fun i _ _ => World.cell?_of_block (b0.block g h.lt)) (fun i => World.frozen?_of_block (b0.block g h.lt)) (.inl rfl) (h.ne m rfl) (h0.ms m rfl) rfl ((Chg.of_below b0 (Nat.le_refl _) _).drew)
    clear h hs hN z0 z1 b0 h0
    go_enter Tryz.func74, Tryz.ntmps74
    go_upto_region 1 with (fail)
    rw [← hW0, ← hbx]
    clear hW0 hbx
    go_upto_region 3 with (fail)
    go_region
    go_upto_region 4 with (fail)
    go_region
    go_end0
    exact ⟨rfl, _, EN.out⟩
  | none =>
    have md := made_for h b0
    obtain ⟨m, hm⟩ : ∃ m, m = W0.heap.size := ⟨_, rfl⟩
    obtain ⟨W, hW⟩ : ∃ W, W = (W0.setCell ⟨g, 0, none⟩ (.map (some m))).alloc (.map #[] 0) := ⟨_, rfl⟩
    simp only [← hm] at md
    rw [← hW] at md
    obtain ⟨chW, cW, qW, cells, froz, hm0, hmg, iW⟩ := md
    obtain ⟨w9, q, n, r9, k0, k1, x1, hl, EN⟩ := put_all mt_X (V := W.drew) (W := W) h (.agg #[]) hs hN chW cW qW cells froz (.inr hm0) hmg iW rfl (chW).drew
    have hmm := @run_makeMap Tryz.prog
    clear h hs hN z0 z1 b0 h0 chW qW cells froz hm0 hmg iW
    go_enter Tryz.func74, Tryz.ntmps74
    go_upto_region 1 with (fail)
    rw [← hW0, ← hbx]
    clear hW0 hbx
    go_upto_region 3 with (fail)
    rw [← hm, ← hW]
    clear hW hm
    go_region
    go_upto_region 4 with (fail)
    go_region
    go_end0
    exact ⟨rfl, _, EN.out⟩
set_option maxHeartbeats 1000000 in
theorem put_K (w : World) (g N : Nat) (mo : Option Nat) (F : Fun) (h : Bk w g 2 mo N F) (s : ByteArray) (hs : s.size ≤ maxLen) (hN : N < maxLen) (b : Nat) :
    Calls Tryz.prog 96 #[.pointer (some ⟨g, 2, none⟩), .string s, .pointer (some ⟨b, 0, none⟩)] w fun e w' => e = .returned (.tuple #[]) ∧ ∃ mo', Turn w w' g 2 mo mo' (N + 1) (upd F s (some (.pointer (some ⟨b, 0, none⟩)))) := by
  have z0 := h.z 2
  have z1 := h.z 3
  obtain ⟨W0, hW0⟩ : ∃ W0, W0 = w := ⟨_, rfl⟩
  have b0 : Below w.heap.size w W0 := by rw [hW0]; exact Below.refl _ w
  have h0 := h.below b0
  have c0 := h0.c0
  have zz := h0.z 2
  have gl := h0.lt
  have qe := fun (y : World) => run_eql_map_nil (P := Tryz.prog) y 60 9 91 mo Tryz.underlying60
  cases mo with
  | some m =>
    obtain ⟨w9, q, n, r9, k0, k1, x1, hl, EN⟩ := put_all mt_K (V := W0) (W := W0) h (.pointer (some ⟨b, 0, none⟩)) hs hN (Chg.of_below b0 (Nat.le_refl _) _) c0 h0.c1 (fun i _ _ => World.cell?_of_block (b0.block g h.lt)) (fun i => World.frozen?_of_block (b0.block g h.lt)) (.inl rfl) (h.ne m rfl) (h0.ms m rfl) rfl (Chg.of_below b0 (Nat.le_refl _) _)
    clear h hs hN z0 z1 b0 h0
    subst hW0
    go_enter Tryz.func96, Tryz.ntmps96
    go_upto_region 3 with (fail)
    go_region
    go_end0
    exact ⟨rfl, _, EN.out⟩
  | none =>
    have md := made_for h b0
    obtain ⟨m, hm⟩ : ∃ m, m = W0.heap.size := ⟨_, rfl⟩
    obtain ⟨W, hW⟩ : ∃ W, W = (W0.setCell ⟨g, 2, none⟩ (.map (some m))).alloc (.map #[] 0) := ⟨_, rfl⟩
    simp only [← hm] at md
    rw [← hW] at md
    obtain ⟨chW, cW, qW, cells, froz, hm0, hmg, iW⟩ := md
    obtain ⟨w9, q, n, r9, k0, k1, x1, hl, EN⟩ := put_all mt_K (V := W) (W := W) h (.pointer (some ⟨b, 0, none⟩)) hs hN chW cW qW cells froz (.inr hm0) hmg iW rfl chW
    have hmm := @run_makeMap Tryz.prog
    clear h hs hN z0 z1 b0 h0 chW qW cells froz hm0 hmg iW
    go_enter Tryz.func96, Tryz.ntmps96
    subst hW0
    go_upto_region 2 with (fail)
    rw [← hm, ← hW]
    clear hW hm
    go_upto_region 3 with (fail)
    go_region
    go_end0
    exact ⟨rfl, _, EN.out⟩
set_option maxHeartbeats 1000000 in
theorem put_F (w : World) (g N : Nat) (mo : Option Nat) (F : Fun) (h : Bk w g 0 mo N F) (s : ByteArray) (hs : s.size ≤ maxLen) (hN : N < maxLen) (x : Int) :
    Calls Tryz.prog 61 #[.pointer (some ⟨g, 0, none⟩), .string s, .int .i64 x] w fun e w' => e = .returned (.tuple #[]) ∧ ∃ mo', Turn w w' g 0 mo mo' (N + 1) (upd F s (some (.int .i64 x))) := by
  have z0 := h.z 0
  have z1 := h.z 1
  obtain ⟨W0, hW0⟩ : ∃ W0, W0 = w := ⟨_, rfl⟩
  have b0 : Below w.heap.size w W0 := by rw [hW0]; exact Below.refl _ w
  have h0 := h.below b0
  have c0 := h0.c0
  have zz := h0.z 0
  have gl := h0.lt
  have qe := fun (y : World) => run_eql_map_nil (P := Tryz.prog) y 129 9 3 mo Tryz.underlying129
  cases mo with
  | some m =>
    obtain ⟨w9, q, n, r9, k0, k1, x1, hl, EN⟩ := put_all mt_F (V := W0) (W := W0) h (.int .i64 x) hs hN (Chg.of_below b0 (Nat.le_refl _) _) c0 h0.c1 (fun i _ _ => World.cell?_of_block (b0.block g h.lt)) (fun i => World.frozen?_of_block (b0.block g h.lt)) (.inl rfl) (h.ne m rfl) (h0.ms m rfl) rfl (Chg.of_below b0 (Nat.le_refl _) _)
    clear h hs hN z0 z1 b0 h0
    subst hW0
    go_enter Tryz.func61, Tryz.ntmps61
    go_upto_region 3 with (fail)
    go_region
    go_end0
    exact ⟨rfl, _, EN.out⟩
  | none =>
    have md := made_for h b0
    obtain ⟨m, hm⟩ : ∃ m, m = W0.heap.size := ⟨_, rfl⟩
    obtain ⟨W, hW⟩ : ∃ W, W = (W0.setCell ⟨g, 0, none⟩ (.map (some m))).alloc (.map #[] 0) := ⟨_, rfl⟩
    simp only [← hm] at md
    rw [← hW] at md
    obtain ⟨chW, cW, qW, cells, froz, hm0, hmg, iW⟩ := md
    obtain ⟨w9, q, n, r9, k0, k1, x1, hl, EN⟩ := put_all mt_F (V := W) (W := W) h (.int .i64 x) hs hN chW cW qW cells froz (.inr hm0) hmg iW rfl chW
    have hmm := @run_makeMap Tryz.prog
    clear h hs hN z0 z1 b0 h0 chW qW cells froz hm0 hmg iW
    go_enter Tryz.func61, Tryz.ntmps61
    subst hW0
    go_upto_region 2 with (fail)
    rw [← hm, ← hW]
    clear hW hm
    go_upto_region 3 with (fail)
    go_region
    go_end0
    exact ⟨rfl, _, EN.out⟩
end Kd
end Go.Proofs.YtalanjhpacjmmaaGreat
