/- A span laid to a grave. -/
import Derived.Test.YtmlbmiegfeadjaaHa
import Derived.Deep.RegionHeldLaw
namespace Go.Proofs.Ytmlbmiegfeadjaa
open Go.RowKit
namespace Hb
open Jb Ca Cz Ga Gm Gn Gt Gw Gy Gz

def sc (s : Spn) : List Value := [.int .i64 s.1, .int .i64 s.2]
def scs (S : List Spn) : List Value := S.flatMap sc
theorem scs_snoc (S : List Spn) (s : Spn) : scs (S ++ [s]) = scs S ++ sc s := by simp [scs]
theorem scs_len (S : List Spn) : (scs S).length = S.length * 2 := by
  induction S with
  | nil => rfl
  | cons v r ih => simp only [scs, List.flatMap_cons, List.length_append, List.length_cons] at *; rw [ih]; simp [sc]; omega
theorem scs_get (S : List Spn) (i j : Nat) (hi : i < S.length) (hj : j < 2) : (scs S)[i * 2 + j]? = (sc (S.getD i s0))[j]? := by
  induction S generalizing i with
  | nil => simp at hi
  | cons v r ih =>
    have e : scs (v :: r) = sc v ++ scs r := rfl
    have hl : (sc v).length = 2 := rfl
    rw [e]
    cases i with
    | zero => rw [List.getElem?_append_left (by omega)]; simp
    | succ i =>
      rw [List.getElem?_append_right (by omega), hl, show (i + 1) * 2 + j - 2 = i * 2 + j from by omega, ih i (by simpa using hi)]
      simp [List.getD_eq_getElem?_getD]
theorem sc_one (s : Spn) : ∀ u ∈ sc s, u.oneCell' = true := by
  intro u hu
  simp only [sc, List.mem_cons, List.not_mem_nil, or_false] at hu
  rcases hu with rfl | rfl <;> rfl
theorem info96 : (Try.prog.info? 96).map (fun i => (i.zero, i.size, i.bytes)) = some (some (.agg #[.int .i64 0, .int .i64 0]), 2, 16) := by kernel_rfl
theorem scs_set (T : List Spn) (l : Spn) (x : Int) : (scs (T ++ [l])).set (T.length * 2 + 1) (.int .i64 x) = scs (T ++ [(l.1, x)]) := by
  rw [scs_snoc, scs_snoc, List.set_append_right _ _ (by rw [scs_len]; omega), scs_len]
  have : T.length * 2 + 1 - T.length * 2 = 1 := by omega
  rw [this]
  rfl
/-- What laying a span leaves. -/
def Laid (w w' : World) (B b o : Nat) (sv : Value) (S' : List Spn) : Prop :=
  ∃ w2 sv', (w' = w2.setCell ⟨b, o, none⟩ sv' ∨ (w' = w2 ∧ sv' = sv)) ∧ w.grownBy w2 sv.ownBlock ∧ w2.ownsRow B 96 2 sv' S'.length (scs S') ∧ (sv'.ownBlock = sv.ownBlock ∨ ∃ k, sv'.ownBlock = some k ∧ w.heap.size ≤ k)

theorem step_append_at {P : Program} {ops : Array Oper} {o : Oper} {a : Act} {w : World} {K : Act → World → Prop} {Q : Exit → Act → World → Prop} {E : Prop}
    (hg : o.guard = none) (s x : Operand) (t : TypeId) (hop : o.op = Op.call { callee := Callee.builtin Builtin.append, args := #[s, x], argTypes := #[t, t] })
    (base : Nat) (e : TypeId) (i : TypeInfo) (z : Value) (size bytes : Nat) (h1 : P.underlying t = some (.slice e)) (h2 : P.info? e = some i) (h3 : i.zero = some z) (h4 : i.size = size) (h5 : i.bytes = bytes) (h6 : z.cells.size = size) (h7 : 0 < size)
    (v : Value) (n : Nat) (xs : List Value) (hs : a.eval s = v) (hown : w.ownsRow base e size v n xs)
    (ad : Addr) (m c : Nat) (news : List Value) (hx : a.eval x = .slice (some ad) m c) (hn : news.length = m * size) (hc : ∀ j u, news[j]? = some u → w.cell? (ad.add j) = some u) (h1c : ∀ u ∈ news, u.oneCell' = true)
    (b1 : n + m ≤ maxLen) (b2 : (n + m) * bytes ≤ 140737488355328) (hb : base ≤ w.heap.size)
    (hK : ∀ v' w', w'.ownsRow base e size v' (n + m) (xs ++ news) → w.grownBy w' v.ownBlock → (v'.ownBlock = v.ownBlock ∨ v'.ownBlock = some w.heap.size) → K (a.put o.dst v') w') :
    if Region.wanted o (yielded ops a.tmps) = true then Oper.wp P o a w K Q else E := by
  have hw : Region.wanted o (yielded ops a.tmps) = true := by simp [Region.wanted, hg]
  rw [if_pos hw]
  obtain ⟨v', w', hrun, r1, r2, _, r3⟩ := run_append_own_at (P := P) (w := w) base t o.type e i z size bytes h1 h2 h3 h4 h5 h6 h7 v n xs hown ad m c news hn hc h1c b1 b2 hb
  unfold Oper.wp
  simp [execOp, hop, resolve, invoke, builtin, hs, hx, hrun, Result.andThen]
  exact hK v' w' r1 r2 r3
theorem gb_trans {a b c : World} {row : Option Nat} (h : a.grownBy b row) (k : b.grownBy c row) : a.grownBy c row :=
  ⟨k.os.trans h.os, k.tape.trans h.tape, k.output.trans h.output, Nat.le_trans h.size k.size, fun i hi hne => (k.block i (Nat.lt_of_lt_of_le hi h.size) hne).trans (h.block i hi hne)⟩
theorem gb_drewN {a b : World} {row : Option Nat} (h : a.grownBy b row) (n : Nat) : a.grownBy (b.drewN n) row := ⟨h.os, h.tape, h.output, h.size, h.block⟩
theorem gb_drew {a b : World} {row : Option Nat} (h : a.grownBy b row) : a.grownBy b.drew row := ⟨h.os, h.tape, h.output, h.size, h.block⟩
set_option maxRecDepth 100000
set_option maxHeartbeats 8000000
theorem add48 (w : World) (B b o : Nat) (S : List Spn) (s : Spn) (sa : Option Addr) (sn sc' : Nat) (c0 : w.cell? ⟨b, o + 2, none⟩ = some (.slice sa sn sc')) (z0 : w.frozen? ⟨b, o + 2, none⟩ = false) (hS : S.length = sn) (hn : sn ≤ 4000000000000)
    (ho : w.ownsRow B 96 2 (.slice sa sn sc') sn (scs S)) (hne : (Value.slice sa sn sc').ownBlock ≠ some b) (hB : B ≤ w.heap.size) :
    Calls Try.prog 48 #[.pointer (some ⟨b, o, none⟩), .agg #[.int .i64 s.1, .int .i64 s.2]] w fun e w' => e = .returned (.tuple #[]) ∧ Laid w w' B b (o + 2) (.slice sa sn sc') (addS S s) := by
  obtain ⟨i0, hi, hz0, hz1, hz2⟩ := info_parts info96
  obtain ⟨x0, x1⟩ := s
  have hbl := cell_lt c0
  simp only at hbl
  have ha := heap_alloc_new w (.cells #[.int .i64 x0, .int .i64 x1] 96)
  have bA := (Below.refl w.heap.size w).alloc (Nat.le_refl _) (.cells #[.int .i64 x0, .int .i64 x1] 96)
  have c1 := (bA.cell (p := ⟨b, o + 2, none⟩) hbl).trans c0
  have z1 := (World.frozen?_of_block (a := ⟨b, o + 2, none⟩) (bA.block b hbl)).trans z0
  have y0 : (w.alloc (.cells #[.int .i64 x0, .int .i64 x1] 96)).cell? ⟨w.heap.size, 0, none⟩ = some (.int .i64 x0) := cell_at ha 0
  have y1 : (w.alloc (.cells #[.int .i64 x0, .int .i64 x1] 96)).cell? ⟨w.heap.size, 1, none⟩ = some (.int .i64 x1) := cell_at ha 1
  -- the world behind the box, under draws
  have HWA := Lib.hid (show ∀ q, ((w.alloc (.cells #[.int .i64 x0, .int .i64 x1] 96)).drewN q).cell? ⟨b, o + 2, none⟩ = some (.slice sa sn sc') ∧ ((w.alloc (.cells #[.int .i64 x0, .int .i64 x1] 96)).drewN q).frozen? ⟨b, o + 2, none⟩ = false ∧ ((w.alloc (.cells #[.int .i64 x0, .int .i64 x1] 96)).drewN q).cell? ⟨w.heap.size, 0, none⟩ = some (.int .i64 x0) ∧ ((w.alloc (.cells #[.int .i64 x0, .int .i64 x1] 96)).drewN q).cell? ⟨w.heap.size, 1, none⟩ = some (.int .i64 x1) ∧ w.grownBy ((w.alloc (.cells #[.int .i64 x0, .int .i64 x1] 96)).drewN q) (Value.slice sa sn sc').ownBlock ∧ ((w.alloc (.cells #[.int .i64 x0, .int .i64 x1] 96)).drewN q).ownsRow B 96 2 (.slice sa sn sc') sn (scs S) ∧ b < w.heap.size ∧ (Value.slice sa sn sc').ownBlock ≠ some b ∧ S.length = sn ∧ B ≤ w.heap.size from fun q => ⟨c1, z1, y0, y1, gb_drewN (World.grownBy_alloc _ _ _) q, (ho.alloc _), hbl, hne, hS, hB⟩)
  rcases snoc_or S with hS0 | ⟨T, l, hST⟩
  case inl =>
    have hA : addS S (x0, x1) = if x0 ≤ x1 then S ++ [(x0, x1)] else S := by rw [hS0]; exact addS_nil _
    have hsn : sn = 0 := by rw [← hS, hS0]; rfl
    by_cases hx : x0 ≤ x1
    case neg =>
      rw [if_neg hx] at hA
      have FINX := Lib.hid (show ∀ q, Laid w ((w.alloc (.cells #[.int .i64 x0, .int .i64 x1] 96)).drewN q) B b (o + 2) (.slice sa sn sc') (addS S (x0, x1)) from fun q => ⟨_, .slice sa sn sc', .inr ⟨rfl, rfl⟩, (HWA.out q).2.2.2.2.1, by rw [hA, hS]; exact (HWA.out q).2.2.2.2.2.1, .inl rfl⟩)
      clear hA HWA ho ha bA hS hS0 z0 c0
      subst hsn
      go_enter Try.func48, Try.ntmps48
      go_wp2_with fail
      go_quiet (fail)
      go_wp2_with fail
      refine bodyPost_end (v := .tuple #[]) (by simp [results, Try.results48, go_sem]) rfl ⟨rfl, FINX.out _⟩
    rw [if_pos hx] at hA
    have HA := Lib.hid hA
    clear hA ho ha bA hS hS0 z0 c0
    subst hsn
    go_enter Try.func48, Try.ntmps48
    go_wp2_with fail
    go_quiet (fail)
    go_upto_region 5 with (fail)
    clear c1 z1 y0 y1
    obtain ⟨W, hW⟩ : ∃ W, W = (w.alloc (.cells #[.int .i64 x0, .int .i64 x1] 96)).drewN nq := ⟨_, rfl⟩
    have HW := Lib.hid (HWA.out nq)
    rw [← hW] at HW ⊢
    clear hW HWA
    have ha2 := heap_alloc_new W.drew (.cells #[.int .i64 x0, .int .i64 x1] 96)
    have bA2 := (Below.refl W.heap.size W).drew.alloc (Nat.le_refl _) (.cells #[.int .i64 x0, .int .i64 x1] 96)
    have NEWC : ∀ j u, (sc (x0, x1))[j]? = some u → (W.drew.alloc (.cells #[.int .i64 x0, .int .i64 x1] 96)).cell? ((⟨W.heap.size, 0, none⟩ : Addr).add j) = some u := fun j u hj => by
      match j, hj with
      | 0, hj => cases hj; exact cell_at ha2 0
      | 1, hj => cases hj; exact cell_at ha2 1
    have OWN : (W.drew.alloc (.cells #[.int .i64 x0, .int .i64 x1] 96)).ownsRow B 96 2 (.slice sa 0 sc') 0 (scs S) := (HW.out.2.2.2.2.2.1.drew).alloc _
    have XB := Lib.hid (show ∀ v' w6, w6.ownsRow B 96 2 v' (0 + 1) (scs S ++ sc (x0, x1)) → (W.drew.alloc (.cells #[.int .i64 x0, .int .i64 x1] 96)).grownBy w6 (Value.slice sa 0 sc').ownBlock → (v'.ownBlock = (Value.slice sa 0 sc').ownBlock ∨ v'.ownBlock = some (W.drew.alloc (.cells #[.int .i64 x0, .int .i64 x1] 96)).heap.size) → (w6.cell? ⟨b, o + 2, none⟩ = some (.slice sa 0 sc') ∧ w6.frozen? ⟨b, o + 2, none⟩ = false) ∧ Laid w (w6.setCell ⟨b, o + 2, none⟩ v') B b (o + 2) (.slice sa 0 sc') (S ++ [(x0, x1)]) from fun v' w6 ho hg hat => by
      have hbk := hg.block b (by simp; exact Nat.lt_succ_of_lt (Nat.lt_of_lt_of_le HW.out.2.2.2.2.2.2.1 HW.out.2.2.2.2.1.size)) (fun e => HW.out.2.2.2.2.2.2.2.1 e.symm)
      have hbk2 := (bA2.block b (Nat.lt_of_lt_of_le HW.out.2.2.2.2.2.2.1 HW.out.2.2.2.2.1.size))
      refine ⟨⟨(World.cell?_of_block (hbk.trans hbk2)).trans HW.out.1, (World.frozen?_of_block (a := ⟨b, o + 2, none⟩) (hbk.trans hbk2)).trans HW.out.2.1⟩, w6, v', .inl rfl, ?_, ?_, ?_⟩
      · exact gb_trans (gb_trans HW.out.2.2.2.2.1 (gb_trans (gb_drew (World.grownBy.refl _ _)) (World.grownBy_alloc _ _ _))) hg
      · rw [scs_snoc, List.length_append, show S.length = 0 from HW.out.2.2.2.2.2.2.2.2.1]; exact ho
      · rcases hat with h | h
        · exact .inl h
        · exact .inr ⟨_, h, by have := HW.out.2.2.2.2.1.size; simp; omega⟩)
    have BW : B ≤ W.heap.size + 1 := by have := HW.out.2.2.2.2.1.size; have := HW.out.2.2.2.2.2.2.2.2.2; omega
    have cA : (W.alloc (.cells #[.int .i64 x0, .int .i64 x1] 96)).cell? ⟨b, o + 2, none⟩ = some (.slice sa 0 sc') := (World.cell?_of_block (bA2.block b (Nat.lt_of_lt_of_le HW.out.2.2.2.2.2.2.1 HW.out.2.2.2.2.1.size))).trans HW.out.1
    obtain ⟨c1, z1, y0, y1, -⟩ := HW.out
    clear ha2 bA2
    go_region_law (first | (refine step_append_at rfl (.tmp 53) (.tmp 55) 91 rfl B 96 i0 _ 2 16 Try.underlying91 hi hz0 hz1 hz2 rfl (by decide) (.slice sa 0 sc') 0 (scs S) (by simp [Act.eval]) OWN ⟨W.heap.size, 0, none⟩ 1 1 (sc (x0, x1)) (by simp [Act.eval]) rfl NEWC (sc_one _) (by unfold maxLen; omega) (by omega) (by simpa using BW) ?_; intro v' w6 hown6 hgrow hat; obtain ⟨⟨c6, z6⟩, fin⟩ := XB.out v' w6 hown6 hgrow hat; obtain ⟨ra, rn, rc, rfl⟩ := Gt.own_formsN hown6; have FIN := Lib.hid fin; clear hown6 hgrow hat fin))
    all_goals
      go_wp2_with fail
      refine bodyPost_end (v := .tuple #[]) (by simp [results, Try.results48, go_sem]) rfl ⟨rfl, ?_⟩
      rw [HA.out]
      exact FIN.out
  case inr =>
    have hA : addS S (x0, x1) = if x0 ≤ l.2 then T ++ [(l.1, max l.2 x1)] else if x0 ≤ x1 then S ++ [(x0, x1)] else S := by rw [hST]; exact addS_snoc T l (x0, x1)
    obtain ⟨m, hm⟩ : ∃ m, m = T.length := ⟨_, rfl⟩
    obtain rfl : sn = m + 1 := by rw [← hS, hST, List.length_append, hm]; rfl
    obtain ⟨p, rfl⟩ : ∃ p, sa = some ⟨p, 0, none⟩ := by
      obtain ⟨p, c, e⟩ := Go.Joins.ownsRow_form ho (by omega)
      cases e
      exact ⟨p, rfl⟩
    have hcap : m + 1 ≤ sc' := by
      rcases ho.2 with ⟨e, _⟩ | ⟨_, _, _, e, _, _, hc, _⟩
      · cases e
      · cases e; exact hc
    have hpb : p ≠ b := fun e => hne (by rw [e]; rfl)
    have hpl := (Gt.own_lt ho rfl).2
    have gl : ∀ j v, (sc l)[j]? = some v → w.cell? ⟨p, m * 2 + j, none⟩ = some v := fun j v hj => by
      have hj2 : j < 2 := (List.getElem?_eq_some_iff.1 hj).1
      rw [ho.cellAt (m * 2 + j) (by omega), hST, scs_snoc, List.getElem?_append_right (by rw [scs_len]; omega), scs_len, ← hm, show m * 2 + j - m * 2 = j by omega]
      exact hj
    have p1 : (w.alloc (.cells #[.int .i64 x0, .int .i64 x1] 96)).cell? ⟨p, m * 2 + 1, none⟩ = some (.int .i64 l.2) := (bA.cell (p := ⟨p, m * 2 + 1, none⟩) hpl).trans (gl 1 _ rfl)
    have pz : (w.alloc (.cells #[.int .i64 x0, .int .i64 x1] 96)).frozen? ⟨p, m * 2 + 1, none⟩ = false := by
      rcases ho.2 with ⟨e, _⟩ | ⟨g', _, _, e, _, hg', _⟩
      · cases e
      · cases e
        rw [World.frozen?_of_block (a := ⟨p, m * 2 + 1, none⟩) (bA.block p hpl)]
        simp [World.frozen?, hg']
    have hi1 : (m : Int) < (m : Int) + 1 := by omega
    have hi2 : (m : Int) < ((m + 1 : Nat) : Int) := by omega
    obtain ⟨l0, l1⟩ := l
    simp only at hA p1
    by_cases hlt : x0 ≤ l1
    case pos =>
      rw [if_pos hlt] at hA
      have FINX := Lib.hid (show ∀ q, Laid w (((w.alloc (.cells #[.int .i64 x0, .int .i64 x1] 96)).drewN q).setCell ⟨p, m * 2 + 1, none⟩ (.int .i64 (max l1 x1))) B b (o + 2) (.slice (some ⟨p, 0, none⟩) (m + 1) sc') (addS S (x0, x1)) from fun q => by
        refine ⟨_, .slice (some ⟨p, 0, none⟩) (m + 1) sc', .inr ⟨rfl, rfl⟩, ?_, ?_, .inl rfl⟩
        · have g := (HWA.out q).2.2.2.2.1
          refine gb_trans g ⟨rfl, rfl, rfl, by simp, fun k hk hne => heap_setCell_other _ _ _ _ (by intro e; exact hne (by rw [e]; rfl))⟩
        · have o2 := (HWA.out q).2.2.2.2.2.1
          rw [hA, show (T ++ [(l0, max l1 x1)]).length = m + 1 by rw [List.length_append, hm]; rfl, ← scs_set T (l0, l1) (max l1 x1), ← hm, ← hST]
          exact (o2.stored (m * 2 + 1) _).1)
      have hmx : ∀ (ty : TypeId) (y : World), (Builtin.max_ #[2, 2] ty #[.int .i64 l1, .int .i64 x1]).run Try.prog y = .ok (.int .i64 (max l1 x1)) y := by
        intro ty y
        rw [run_max_int2]
        have e : (if x1 > l1 then x1 else l1) = max l1 x1 := by omega
        rw [e]
      clear hA HWA ho ha bA hS hST z0 c0 gl hne hm
      go_enter Try.func48, Try.ntmps48
      go_wp2_with fail
      go_quiet (fail)
      go_upto_region 3 with (fail)
      go_region
      all_goals
        go_wp2_with fail
        refine bodyPost_ret (v := .tuple #[]) (by simp [results, Try.results48, go_sem]) rfl ⟨rfl, FINX.out _⟩
    rw [if_neg hlt] at hA
    by_cases hx : x0 ≤ x1
    case neg =>
      rw [if_neg hx] at hA
      have FINX := Lib.hid (show ∀ q, Laid w ((w.alloc (.cells #[.int .i64 x0, .int .i64 x1] 96)).drewN q) B b (o + 2) (.slice (some ⟨p, 0, none⟩) (m + 1) sc') (addS S (x0, x1)) from fun q => ⟨_, .slice (some ⟨p, 0, none⟩) (m + 1) sc', .inr ⟨rfl, rfl⟩, (HWA.out q).2.2.2.2.1, by rw [hA, hS]; exact (HWA.out q).2.2.2.2.2.1, .inl rfl⟩)
      clear hA HWA ho ha bA hS hST z0 c0 gl pz hne hm
      go_enter Try.func48, Try.ntmps48
      go_wp2_with fail
      go_quiet (fail)
      go_wp2_with fail
      refine bodyPost_end (v := .tuple #[]) (by simp [results, Try.results48, go_sem]) rfl ⟨rfl, FINX.out _⟩
    rw [if_pos hx] at hA
    have HA := Lib.hid hA
    clear hA ho ha bA hS z0 c0 gl pz hST hne hm
    go_enter Try.func48, Try.ntmps48
    go_wp2_with fail
    go_quiet (fail)
    go_upto_region 5 with (fail)
    clear c1 z1 y0 y1 p1
    obtain ⟨W, hW⟩ : ∃ W, W = (w.alloc (.cells #[.int .i64 x0, .int .i64 x1] 96)).drewN nq := ⟨_, rfl⟩
    have HW := Lib.hid (HWA.out nq)
    rw [← hW] at HW ⊢
    clear hW HWA
    have ha2 := heap_alloc_new W.drew (.cells #[.int .i64 x0, .int .i64 x1] 96)
    have bA2 := (Below.refl W.heap.size W).drew.alloc (Nat.le_refl _) (.cells #[.int .i64 x0, .int .i64 x1] 96)
    have NEWC : ∀ j u, (sc (x0, x1))[j]? = some u → (W.drew.alloc (.cells #[.int .i64 x0, .int .i64 x1] 96)).cell? ((⟨W.heap.size, 0, none⟩ : Addr).add j) = some u := fun j u hj => by
      match j, hj with
      | 0, hj => cases hj; exact cell_at ha2 0
      | 1, hj => cases hj; exact cell_at ha2 1
    have OWN : (W.drew.alloc (.cells #[.int .i64 x0, .int .i64 x1] 96)).ownsRow B 96 2 (.slice (some ⟨p, 0, none⟩) (m + 1) sc') (m + 1) (scs S) := (HW.out.2.2.2.2.2.1.drew).alloc _
    have XB := Lib.hid (show ∀ v' w6, w6.ownsRow B 96 2 v' ((m + 1) + 1) (scs S ++ sc (x0, x1)) → (W.drew.alloc (.cells #[.int .i64 x0, .int .i64 x1] 96)).grownBy w6 (Value.slice (some ⟨p, 0, none⟩) (m + 1) sc').ownBlock → (v'.ownBlock = (Value.slice (some ⟨p, 0, none⟩) (m + 1) sc').ownBlock ∨ v'.ownBlock = some (W.drew.alloc (.cells #[.int .i64 x0, .int .i64 x1] 96)).heap.size) → (w6.cell? ⟨b, o + 2, none⟩ = some (.slice (some ⟨p, 0, none⟩) (m + 1) sc') ∧ w6.frozen? ⟨b, o + 2, none⟩ = false) ∧ Laid w (w6.setCell ⟨b, o + 2, none⟩ v') B b (o + 2) (.slice (some ⟨p, 0, none⟩) (m + 1) sc') (S ++ [(x0, x1)]) from fun v' w6 ho hg hat => by
      have hbk := hg.block b (by simp; exact Nat.lt_succ_of_lt (Nat.lt_of_lt_of_le HW.out.2.2.2.2.2.2.1 HW.out.2.2.2.2.1.size)) (fun e => HW.out.2.2.2.2.2.2.2.1 e.symm)
      have hbk2 := (bA2.block b (Nat.lt_of_lt_of_le HW.out.2.2.2.2.2.2.1 HW.out.2.2.2.2.1.size))
      refine ⟨⟨(World.cell?_of_block (hbk.trans hbk2)).trans HW.out.1, (World.frozen?_of_block (a := ⟨b, o + 2, none⟩) (hbk.trans hbk2)).trans HW.out.2.1⟩, w6, v', .inl rfl, ?_, ?_, ?_⟩
      · exact gb_trans (gb_trans HW.out.2.2.2.2.1 (gb_trans (gb_drew (World.grownBy.refl _ _)) (World.grownBy_alloc _ _ _))) hg
      · rw [scs_snoc, List.length_append, show S.length = (m + 1) from HW.out.2.2.2.2.2.2.2.2.1]; exact ho
      · rcases hat with h | h
        · exact .inl h
        · exact .inr ⟨_, h, by have := HW.out.2.2.2.2.1.size; simp; omega⟩)
    have BW : B ≤ W.heap.size + 1 := by have := HW.out.2.2.2.2.1.size; have := HW.out.2.2.2.2.2.2.2.2.2; omega
    have cA : (W.alloc (.cells #[.int .i64 x0, .int .i64 x1] 96)).cell? ⟨b, o + 2, none⟩ = some (.slice (some ⟨p, 0, none⟩) (m + 1) sc') := (World.cell?_of_block (bA2.block b (Nat.lt_of_lt_of_le HW.out.2.2.2.2.2.2.1 HW.out.2.2.2.2.1.size))).trans HW.out.1
    obtain ⟨c1, z1, y0, y1, -⟩ := HW.out
    clear ha2 bA2
    go_region_law (first | (refine step_append_at rfl (.tmp 53) (.tmp 55) 91 rfl B 96 i0 _ 2 16 Try.underlying91 hi hz0 hz1 hz2 rfl (by decide) (.slice (some ⟨p, 0, none⟩) (m + 1) sc') (m + 1) (scs S) (by simp [Act.eval]) OWN ⟨W.heap.size, 0, none⟩ 1 1 (sc (x0, x1)) (by simp [Act.eval]) rfl NEWC (sc_one _) (by unfold maxLen; omega) (by omega) (by simpa using BW) ?_; intro v' w6 hown6 hgrow hat; obtain ⟨⟨c6, z6⟩, fin⟩ := XB.out v' w6 hown6 hgrow hat; obtain ⟨ra, rn, rc, rfl⟩ := Gt.own_formsN hown6; have FIN := Lib.hid fin; clear hown6 hgrow hat fin))
    all_goals
      go_wp2_with fail
      refine bodyPost_end (v := .tuple #[]) (by simp [results, Try.results48, go_sem]) rfl ⟨rfl, ?_⟩
      rw [HA.out]
      exact FIN.out
end Hb
end Go.Proofs.Ytmlbmiegfeadjaa
