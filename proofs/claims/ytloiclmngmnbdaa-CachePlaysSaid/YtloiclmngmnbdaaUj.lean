/- The document's cache: New, Delete, Clear; columns compared. A call on both caches. -/
import Derived.Test.YtloiclmngmnbdaaUi
import Derived.Test.YtloiclmngmnbdaaSf
import Derived.Test.YtloiclmngmnbdaaRf
namespace Go.Proofs.Ytloiclmngmnbdaa
open Go.RowKit Go.Maps Go.ChangeMaps Go.MapKept
namespace Uj
open Jb Ca Ck Ct Cd Cz Ln Cq Ce Dh Tb Ua Ub Uc Ud Ue Uf Ug Uh Ui Li Sf

set_option maxRecDepth 100000
theorem refnew10 (w : World) (n : Int) (hn : -9223372036854775808 ≤ n ∧ n ≤ 9223372036854775807) :
    Calls Try.prog 10 #[.int .i64 n] w fun e w' => e = .returned (.pointer (some ⟨w.heap.size, 0, none⟩)) ∧ Dt w' (fun k => w.heap.size ≤ k ∧ k < w'.heap.size) w.heap.size n.toNat [] ∧ Below w.heap.size w w' := by
  obtain ⟨m, hme⟩ : ∃ m, m = n.toNat := ⟨_, rfl⟩
  have hm : ∀ (ty : TypeId) (y : World), (Builtin.max_ #[3, 3] ty #[.int .i64 n, .int .i64 0]).run Try.prog y = .ok (.int .i64 (m : Nat)) y := by
    intro ty y
    rw [run_max_int2]
    have e : (if (0 : Int) > n then 0 else n) = (m : Nat) := by split <;> omega
    rw [e]
  rw [← hme]
  have HMB := Lib.hid (show m ≤ 9223372036854775807 by omega)
  clear hme hn
  go_enter Try.func10, Try.ntmps10
  go_wp2_with fail
  go_ret
  refine ⟨rfl, ⟨.slice none 0 0, [], rfl, new_cell _ _ _ 0 _ rfl, new_cell _ _ _ 1 _ rfl, fun i => frozen_of_row _ _ _ _ _ (heap_alloc_new _ _), ⟨World.ownsRow_nil _ _ _ _, (fun k hk => by cases hk), (fun c hc => by cases hc)⟩, (fun e => by cases e), (fun c hc => by cases hc), (fun c hc => by cases hc), ⟨Nat.le_refl _, by simp⟩, fun k hk => hk.2, HMB.out⟩, (Below.refl _ w).alloc (Nat.le_refl _) _⟩
theorem delete23 (w : World) (S : Nat → Prop) (h : Nat) (V : Vw) (T : Tab) (H : Dt w S h V.most T) (O : Of V T) (hs : V.size ≤ 1000000) (k : Ky) (a b : Int) :
    Calls Try.prog 23 #[.pointer (some ⟨h, 0, none⟩), .string k.1, .string k.2, .int .i64 a, .int .i64 b] w fun e w' => e = .returned (.int .i64 ((rng a b (V.P k)).length : Nat)) ∧ Dt w' (New S w w') h V.most (tset T k (cut a b (V.P k))) ∧ Chg w w' S := by
  obtain ⟨v, R, hT, r⟩ := H
  have hRn : R.length ≤ 1000000 := by have h1 := len_le O.ne; have h2 := O.sum; rw [← hT, tab_len] at h1; rw [← hT] at h2; omega
  obtain ⟨t1, t2⟩ := tk_eq O.srt O.ne k a b
  have TK := Lib.hid (take41 w S h V.most v R r k a b hRn (by rw [hT, ← O.sum]; exact hs) (ne_R hT O.ne))
  rw [hT, t2, ← O.get] at TK
  have FIN := Lib.hid (show ∀ w', (∃ v' R', tab R' = Ua.tk T k a b ∧ Rt w' (New S w w') h V.most v' R' ∧ Chg w w' S) → Dt w' (New S w w') h V.most (tset T k (cut a b (V.P k))) ∧ Chg w w' S from fun w' ⟨v', R', e, r', c⟩ => ⟨⟨v', R', by rw [e, t1, O.get], r'⟩, c⟩)
  clear r t1 t2 hT O hRn hs
  go_enter Try.func23, Try.ntmps23
  go_wp2_with fail
  refine TK.out.mono ?_
  rintro e w' ⟨rfl, hx⟩
  have HX := Lib.hid (FIN.out w' hx)
  clear hx
  go_wp2_with fail
  go_ret
  exact ⟨rfl, HX.out⟩
theorem clear24 (w : World) (S : Nat → Prop) (h m : Nat) (T : Tab) (H : Dt w S h m T) : Calls Try.prog 24 #[.pointer (some ⟨h, 0, none⟩)] w fun e w' => e = .returned (.tuple #[]) ∧ Dt w' S h m [] ∧ Chg w w' S := by
  obtain ⟨v, R, hT, r⟩ := H
  have c0 := r.c0
  have z0 := r.z 0
  have FIN := Lib.hid (show Dt (w.setCell ⟨h, 0, none⟩ (.slice none 0 0)) S h m [] ∧ Chg w (w.setCell ⟨h, 0, none⟩ (.slice none 0 0)) S from ⟨⟨.slice none 0 0, [], rfl, cell_same c0, (cell_other (by simp)).trans r.c1, fun i => by simpa using r.z i, ⟨World.ownsRow_nil _ _ _ _, (fun k hk => by cases hk), (fun c hc => by cases hc)⟩, (fun e => by cases e), (fun c hc => by cases hc), (fun c hc => by cases hc), r.sh, fun k hk => by simpa using r.lt k hk, r.m9⟩, (Chg.refl w S).setCell r.sh _⟩)
  obtain ⟨a, n, c, rfl⟩ := own_formsN r.tm.own
  clear r hT
  go_enter Try.func24, Try.ntmps24
  go_wp2_with fail
  refine bodyPost_end (v := .tuple #[]) (by simp [results, Try.results24, go_sem]) rfl ⟨rfl, FIN.out⟩
theorem size13D (w : World) (S : Nat → Prop) (h : Nat) (V : Vw) (T : Tab) (H : Dt w S h V.most T) (O : Of V T) (hs : V.size ≤ 1000000) : Calls Try.prog 13 #[.pointer (some ⟨h, 0, none⟩)] w fun e w' => e = .returned (.int .i64 (V.size : Nat)) ∧ w' = w := by
  obtain ⟨v, R, hT, r⟩ := H
  have hRn : R.length ≤ 1000000 := by have h1 := len_le O.ne; have h2 := O.sum; rw [← hT, tab_len] at h1; rw [← hT] at h2; omega
  have := size13 w S h V.most v R r (by rw [hT, ← O.sum]; exact hs) hRn
  rwa [hT, ← O.sum] at this
theorem get16D (w : World) (S : Nat → Prop) (h : Nat) (V : Vw) (T : Tab) (H : Dt w S h V.most T) (O : Of V T) (hs : V.size ≤ 1000000) (k : Ky) (a b : Int) : Calls Try.prog 16 #[.pointer (some ⟨h, 0, none⟩), .string k.1, .string k.2, .int .i64 a, .int .i64 b] w fun e w' => ∃ r, e = .returned r ∧ w'.ownsRow w.heap.size 32 4 r (rng a b (V.P k)).length (pcs (rng a b (V.P k))) ∧ Below w.heap.size w w' := by
  obtain ⟨v, R, hT, r⟩ := H
  have hRn : R.length ≤ 1000000 := by have h1 := len_le O.ne; have h2 := O.sum; rw [← hT, tab_len] at h1; rw [← hT] at h2; omega
  have := get16 w S h V.most v R r k a b hRn (by rw [hT]; exact O.srt) (Nat.le_trans (tget_le k) (by rw [hT, ← O.sum]; exact hs))
  rwa [hT, ← O.get] at this
set_option maxHeartbeats 2000000 in
/-- The same columns. -/
theorem same17 (w : World) (B : Nat) (v : Value) (ys : List Ky) (P : Ky → List Pnt) (C : Cl w B v ys P) (_ : B ≤ w.heap.size) (S : Nat → Prop) (u : Value) (R : List Col) (H : Tm w S u R) (hwp : ∀ c ∈ R, ∀ x ∈ c.2.1, Wp x) (hys : ys = R.map (·.1)) (hP : ∀ c ∈ R, P c.1 = c.2.1) (hl : ∀ c ∈ R, c.2.1.length ≤ 1000000) (hn : R.length ≤ 1000000) :
    Calls Try.prog 17 #[v, u] w fun e w' => e = .returned (.bool true) ∧ Below w.heap.size w w' := by
  obtain ⟨rs, hrs, o, hi⟩ := C
  obtain ⟨n, hN⟩ : ∃ n, n = R.length := ⟨_, rfl⟩
  have hyl : ys.length = n := by rw [hys, List.length_map, hN]
  obtain ⟨va, vc, hv⟩ := own_forms o
  obtain ⟨ua, uc, hu⟩ := own_forms H.own
  rw [hyl] at hv
  rw [← hN] at hu hn
  have AT := Lib.hid (show ∀ q, q < n → ∃ tb s f r ob r' L, ua = some ⟨tb, 0, none⟩ ∧ n ≤ uc ∧ va = some ⟨ob, 0, none⟩ ∧ n ≤ vc ∧ (∀ y, Below w.heap.size w y → (y.cell? ⟨tb, q * 3, none⟩ = some (.string s) ∧ y.cell? ⟨tb, q * 3 + 1, none⟩ = some (.string f) ∧ y.cell? ⟨tb, q * 3 + 2, none⟩ = some r) ∧ (y.cell? ⟨ob, q * 3, none⟩ = some (.string s) ∧ y.cell? ⟨ob, q * 3 + 1, none⟩ = some (.string f) ∧ y.cell? ⟨ob, q * 3 + 2, none⟩ = some r') ∧ Pi y r L ∧ Pi y r' L) ∧ List.length L ≤ 1000000 from fun q hq => by
    obtain ⟨b, c', e, h1, h2, h3, h4, h5, h6⟩ := H.at (i := q) (by omega)
    rw [hu, ← hN] at e
    cases e
    have hm := getD_in (R := R) (i := q) (by omega)
    have hyq : ys.getD q Sf.k0 = (R.getD q cz).1 := by
      rw [hys, List.getD_eq_getElem?_getD, List.getElem?_map, List.getD_eq_getElem?_getD, List.getElem?_eq_getElem (by omega)]
      rfl
    obtain ⟨r', hr1, hr2⟩ := hi q (by omega)
    rw [hyq, hP _ hm] at hr2
    have o2 := o
    rw [hyl] at o2
    obtain ⟨ob, oc, hq2⟩ := Go.Joins.ownsRow_form o2 (by omega)
    rw [hq2] at hv o2
    cases hv
    have hoc : n ≤ vc := by
      rcases o2.2 with ⟨e, _⟩ | ⟨_, _, _, e, _, _, hc, _⟩
      · cases e
      · cases e; exact hc
    have hcc : ∀ j, j < 3 → (ccs ys rs)[q * 3 + j]? = [Value.string (R.getD q cz).1.1, .string (R.getD q cz).1.2, r'][j]? := by
      intro j hj
      have key : ∀ (a : List Ky) (b : List Value) (q : Nat), a.length = b.length → q < a.length → (ccs a b)[q * 3 + j]? = [Value.string (a.getD q Sf.k0).1, .string (a.getD q Sf.k0).2, b.getD q (.slice none 0 0)][j]? := by
        intro a
        induction a with
        | nil => intro b q _ hq; simp at hq
        | cons x t ih =>
          intro b q hab hq
          cases b with
          | nil => simp at hab
          | cons y t' =>
            have e : ccs (x :: t) (y :: t') = [Value.string x.1, .string x.2, y] ++ ccs t t' := rfl
            rw [e]
            cases q with
            | zero => rw [List.getElem?_append_left (by simp; omega)]; simp
            | succ q =>
              rw [List.getElem?_append_right (by simp; omega)]
              have := ih t' q (by simpa using hab) (by simpa using hq)
              simp only [List.length_cons, List.length_nil]
              rw [show (q + 1) * 3 + j - (0 + 1 + 1 + 1) = q * 3 + j by omega, this]
              simp
      rw [key ys rs q hrs.symm (by omega), hyq]
      have : rs.getD q (.slice none 0 0) = r' := by rw [List.getD_eq_getElem?_getD, hr1]; rfl
      rw [this]
    have y0 := (o2.cellAt (q * 3) (by omega)).trans (hcc 0 (by omega))
    have y1 := (o2.cellAt (q * 3 + 1) (by omega)).trans (hcc 1 (by omega))
    have y2 := (o2.cellAt (q * 3 + 2) (by omega)).trans (hcc 2 (by omega))
    have hob := (own_lt o2 rfl).2
    refine ⟨b, _, _, _, ob, r', _, rfl, by omega, rfl, hoc, fun y hy => ⟨⟨(World.cell?_of_block (hy.block b h3)).trans h4, (World.cell?_of_block (hy.block b h3)).trans h5, (World.cell?_of_block (hy.block b h3)).trans h6⟩, ⟨(World.cell?_of_block (hy.block ob hob)).trans y0, (World.cell?_of_block (hy.block ob hob)).trans y1, (World.cell?_of_block (hy.block ob hob)).trans y2⟩, (pi_own (H.rows _ hm).1 (hwp _ hm)).below hy, (pi_own hr2 (hwp _ hm)).below hy⟩, hl _ hm⟩)
  rw [hv, hu]
  clear o hi H hwp hys hP hl hN hyl hv hu hrs
  go_enter Try.func17, Try.ntmps17
  go_wp2_with fail
  go_loopw [13] (fun ct wr => ∃ q, q ≤ n ∧ ct = .int .i64 (q : Nat) ∧ Hid (Below w.heap.size w wr)) (fun ct _ => n - (intOf ct).toNat)
  case atStart => exact ⟨0, Nat.zero_le _, rfl, Lib.hid (Below.refl _ _)⟩
  case round =>
    obtain ⟨q, hq, rfl, HB⟩ := hrel
    by_cases hqn : q < n
    case neg =>
      obtain rfl : q = n := by omega
      go_wp2_with fail
      go_ret
      exact ⟨rfl, HB.out⟩
    obtain ⟨tb, s, f, r, ob, r', L, rfl, hnc, rfl, hoc, CE, hL⟩ := AT.out q hqn
    obtain ⟨ra, rc, hr⟩ := (CE w (Below.refl _ _)).2.2.1.forms
    obtain ⟨ra', rc', hr'⟩ := (CE w (Below.refl _ _)).2.2.2.forms
    have SA := Lib.hid (show ∀ y, Below w.heap.size w y → Calls Try.prog 14 #[r', r] y fun e w' => e = .returned (.bool true) ∧ Below y.heap.size y w' from fun y hy => by
      have := same18 y r' r L L (CE y hy).2.2.2 (CE y hy).2.2.1 (by omega)
      rwa [decide_eq_true rfl] at this)
    have CX := Lib.hid (show ∀ y, Below w.heap.size w y → (y.cell? ⟨tb, q * 3, none⟩ = some (.string s) ∧ y.cell? ⟨tb, q * 3 + 1, none⟩ = some (.string f) ∧ y.cell? ⟨tb, q * 3 + 2, none⟩ = some r) ∧ (y.cell? ⟨ob, q * 3, none⟩ = some (.string s) ∧ y.cell? ⟨ob, q * 3 + 1, none⟩ = some (.string f) ∧ y.cell? ⟨ob, q * 3 + 2, none⟩ = some r') from fun y hy => ⟨(CE y hy).1, (CE y hy).2.1⟩)
    rw [hr, hr'] at SA CX
    generalize L.length = l at *
    have zb := HB.out.size
    have kX := CX.out wr.drew HB.out.drew
    have q1 : (s.toList != s.toList) = false := by simp
    have q2 : (f.toList != f.toList) = false := by simp
    have S1 := Lib.hid (SA.out wr.drew HB.out.drew)
    clear CE hr hr' AT hL SA
    go_wp2_with fail
    go_region_held (fun y => (y.cell? ⟨tb, q * 3, none⟩ = some (.string s) ∧ y.cell? ⟨tb, q * 3 + 1, none⟩ = some (.string f) ∧ y.cell? ⟨tb, q * 3 + 2, none⟩ = some (.slice ra l rc)) ∧ (y.cell? ⟨ob, q * 3, none⟩ = some (.string s) ∧ y.cell? ⟨ob, q * 3 + 1, none⟩ = some (.string f) ∧ y.cell? ⟨ob, q * 3 + 2, none⟩ = some (.slice ra' l rc')))
      (first | exact kX | exact kY)
      (first | (go_at_call 14; refine S1.out.mono ?_; rintro e w3 ⟨rfl, b3⟩; have B3 := Lib.hid (HB.out.drew.trans (b3.mono zb)); have kY := CX.out w3 B3.out; clear b3))
    all_goals
      go_wp2_with fail
      go_roundw
    case rel => exact ⟨q + 1, by omega, by go_num, B3⟩
    case measure => simp [intOf]; omega
end Uj
end Go.Proofs.Ytloiclmngmnbdaa

namespace Go.Proofs.Ytloiclmngmnbdaa
open Go.RowKit Go.Maps Go.ChangeMaps Go.MapKept
namespace Uk
open Jb Ca Ck Ct Cd Cz Ln Cq Ce Dh Tb Ua Ub Uc Ud Ue Uf Ug Uh Uj Li Sf Rd Re Rf
open Ui (Dt)

/-- Both caches, of one table. -/
structure Two (w : World) (S S2 : Nat → Prop) (g h N : Nat) (V : Vw) (T : Tab) : Prop where
  dv : DV w S g N V
  dt : Dt w S2 h V.most T
  of : Of V T
  ap : ∀ k, S k → ¬ S2 k
/-- What a call leaves. -/
def Left (w w' : World) (S S2 : Nat → Prop) (g h N : Nat) (V : Vw) : Prop := ∃ S' S2' T', Two w' S' S2' g h N V T' ∧ (∀ k, S' k → S k ∨ w.heap.size ≤ k) ∧ (∀ k, S2' k → S2 k ∨ w.heap.size ≤ k) ∧ Chg w w' (fun k => S k ∨ S2 k)
theorem Two.next {w wA w1 w2 : World} {S S2 S1 : Nat → Prop} {g h N N1 : Nat} {V V1 : Vw} {T T1 : Tab} (K : Two w S S2 g h N V T) (bA : Below w.heap.size w wA) (hS1 : ∀ k, S1 k → S k ∨ (wA.heap.size ≤ k ∧ k < w1.heap.size)) (d1 : DV w1 S1 g N1 V1) (c1 : Chg wA w1 S) {S3 : Nat → Prop} (hS3 : ∀ k, S3 k → S2 k ∨ (w1.heap.size ≤ k ∧ k < w2.heap.size)) (d2 : Dt w2 S3 h V1.most T1) (c2 : Chg w1 w2 S2) (o : Of V1 T1) : Left w w2 S S2 g h N1 V1 := by
  have a1 := bA.size
  have a2 := c1.size
  have a3 := c2.size
  have h2 := K.dt.lt
  have h1 := K.dv.lt
  refine ⟨S1, S3, T1, ⟨(d1.chg c2 fun k hk e => ?_).set (fun k hk => hk) (fun k hk => ?_), d2, o, fun k hk hk3 => ?_⟩, fun k hk => ?_, fun k hk => ?_, ?_⟩
  · rcases hS1 k hk with x | x
    · exact K.ap k x e
    · have := h2 k e; omega
  · have := d1.lt k hk; omega
  · rcases hS1 k hk with x | x
    · rcases hS3 k hk3 with y | y
      · exact K.ap k x y
      · have := h1 k x; omega
    · rcases hS3 k hk3 with y | y
      · have := h2 k y; omega
      · omega
  · rcases hS1 k hk with x | x
    · exact .inl x
    · exact .inr (by omega)
  · rcases hS3 k hk with x | x
    · exact .inl x
    · exact .inr (by omega)
  · exact ((Chg.of_below bA (Nat.le_refl _) _).trans c1 (fun k hk _ => .inl hk)).trans c2 (fun k hk _ => .inr hk)
set_option maxRecDepth 100000
set_option maxHeartbeats 2000000 in
theorem playT_1 (w : World) (S S2 : Nat → Prop) (g h N : Nat) (V : Vw) (T : Tab) (K : Two w S S2 g h N V T) (o : Oc) (hk : o.kind = 1) (hs : ok o.s) (hp : Wp o.p) (hz : V.size ≤ 511) (hN : N ≤ 140737488353000) :
    Calls Try.prog 11 #[.pointer (some ⟨g, 0, none⟩), .pointer (some ⟨h, 0, none⟩), opa o] w fun e w' => e = .returned (.bool true) ∧ Left w w' S S2 g h (N + 1) (stp V o) := by
  have HS : Hid (stp V o = putV V o.s o.p) := Lib.hid (by unfold stp; rw [if_pos hk])
  have hlt := K.dv.lt
  have hlt2 := K.dt.lt
  have b0 := (Below.refl _ w).alloc (Nat.le_refl _) (opO o)
  have hl := K.of.le o.s
  have PU := Lib.hid (putD (w.alloc (opO o)).drew S g N V (K.dv.below b0.drew) o.s hs o.p hp (by omega) hN)
  have RP := Lib.hid (show ∀ w1, Chg (w.alloc (opO o)) w1 S → _ from fun w1 c => Ui.put22 w1 S2 h V T ((K.dt.below b0).chg c (fun k hk e => K.ap k e hk)) K.of o.s (K.dv.rise o.s) (by omega) o.p hp)
  have CX := Lib.hid (fun y (c : Chg (w.alloc (opO o)) y S) => op_cells hlt c)
  have CX2 := Lib.hid (fun y (c : Chg (w.alloc (opO o)) y (fun k => S k ∨ S2 k)) => op_cells (fun k hk => hk.elim (hlt k) (hlt2 k)) c)
  have kX := CX.out (w.alloc (opO o)).drew (Chg.refl _ S).drew
  have FIN := Lib.hid (show ∀ w1 w2, DV w1 (New S (w.alloc (opO o)).drew w1) g (N + 1) (putV V o.s o.p) → Chg (w.alloc (opO o)) w1 S → Dt w2 (New S2 w1 w2) h V.most (if putE V o.s o.p = 0 then tset T o.s (ins o.p (V.P o.s)) else T) → Chg w1 w2 S2 → Left w w2 S S2 g h (N + 1) (putV V o.s o.p) from fun w1 w2 d1 c1 d2 c2 =>
    K.next b0 (fun k hk => hk) d1 c1 (fun k hk => hk) (by rw [show (putV V o.s o.p).most = V.most by unfold putV; split <;> rfl]; exact d2) c2 (K.of.put o.s o.p (K.dv.rise o.s)))
  obtain ⟨E, hE⟩ : ∃ E, E = putE V o.s o.p := ⟨_, rfl⟩
  rw [← hE] at PU RP
  rw [HS.out]
  obtain ⟨V1, hV1⟩ : ∃ V1, V1 = putV V o.s o.p := ⟨_, rfl⟩
  rw [← hE, ← hV1] at FIN
  rw [← hV1] at PU ⊢
  obtain ⟨T1, hT1⟩ : ∃ T1, T1 = (if E = 0 then tset T o.s (ins o.p (V.P o.s)) else T) := ⟨_, rfl⟩
  rw [← hT1] at FIN RP
  clear hE hV1 hT1 HS K hlt hlt2 b0 hl
  obtain ⟨kd, s, p, a, b⟩ := o
  simp only at hk PU RP CX CX2 kX FIN
  subst hk
  unfold opa
  unfold opO at PU RP CX CX2 kX FIN
  unfold pa at PU RP
  simp only at PU RP CX CX2 kX FIN ⊢
  clear hp hs
  go_enter Try.func11, Try.ntmps11
  go_wp2_with fail
  go_region_held (fun y => y.cell? ⟨w.heap.size, 1, none⟩ = some (.string s.1) ∧ y.cell? ⟨w.heap.size, 2, none⟩ = some (.string s.2) ∧ (y.cell? ⟨w.heap.size, 3, none⟩ = some (.int .i64 p.1) ∧ y.cell? ⟨w.heap.size, 4, none⟩ = some (.int .i64 p.2.1) ∧ y.cell? ⟨w.heap.size, 5, none⟩ = some (.int .u64 (p.2.2.1 : Nat)) ∧ y.cell? ⟨w.heap.size, 6, none⟩ = some (.string (str p.2.2.2))) ∧ y.cell? ⟨w.heap.size, 7, none⟩ = some (.int .i64 a) ∧ y.cell? ⟨w.heap.size, 8, none⟩ = some (.int .i64 b))
    (first | exact kX | exact kY | exact kZ)
    (first | (go_at_call 19; refine PU.out.mono ?_; rintro e w1 ⟨rfl, d1, c1⟩; replace c1 := undC c1; have RR := Lib.hid (RP.out w1 c1); have kY := CX.out w1 c1; have D1 := Lib.hid d1; have C1 := Lib.hid c1; clear d1 c1) | (go_at_call 22; refine RR.out.mono ?_; rintro e w2 ⟨rfl, d2, c2⟩; have kZ := CX2.out w2 ((C1.out.imp (S' := fun k => S k ∨ S2 k) (fun k hk _ => .inl hk)).trans c2 (fun k hk _ => .inr hk)); have D2 := Lib.hid d2; have C2 := Lib.hid c2; clear d2 c2))
  go_wp2_with fail
  go_ret
  exact ⟨by simp, FIN.out w1 w2 D1.out C1.out D2.out C2.out⟩
set_option maxHeartbeats 2000000 in
theorem playT_2 (w : World) (S S2 : Nat → Prop) (g h N : Nat) (V : Vw) (T : Tab) (K : Two w S S2 g h N V T) (o : Oc) (hk : o.kind = 2) (hs : ok o.s) (hz : V.size ≤ 511) :
    Calls Try.prog 11 #[.pointer (some ⟨g, 0, none⟩), .pointer (some ⟨h, 0, none⟩), opa o] w fun e w' => e = .returned (.bool true) ∧ Left w w' S S2 g h N (stp V o) := by
  have HS : Hid (stp V o = delV V o.s o.a o.b) := Lib.hid (by unfold stp; rw [if_neg (by omega), if_pos hk])
  have hlt := K.dv.lt
  have hlt2 := K.dt.lt
  have b0 := (Below.refl _ w).alloc (Nat.le_refl _) (opO o)
  have hl := K.of.le o.s
  have PU := Lib.hid (deleteD (w.alloc (opO o)).drew S g N V (K.dv.below b0.drew) o.s hs o.a o.b (by omega) hl)
  have RP := Lib.hid (show ∀ w1, Chg (w.alloc (opO o)) w1 S → _ from fun w1 c => Uj.delete23 w1 S2 h V T ((K.dt.below b0).chg c (fun k hk e => K.ap k e hk)) K.of (by omega) o.s o.a o.b)
  have CX := Lib.hid (fun y (c : Chg (w.alloc (opO o)) y S) => op_cells hlt c)
  have CX2 := Lib.hid (fun y (c : Chg (w.alloc (opO o)) y (fun k => S k ∨ S2 k)) => op_cells (fun k hk => hk.elim (hlt k) (hlt2 k)) c)
  have kX := CX.out (w.alloc (opO o)).drew (Chg.refl _ S).drew
  have FIN := Lib.hid (show ∀ w1 w2, DV w1 (New S (w.alloc (opO o)).drew w1) g N (delV V o.s o.a o.b) → Chg (w.alloc (opO o)) w1 S → Dt w2 (New S2 w1 w2) h V.most (tset T o.s (cut o.a o.b (V.P o.s))) → Chg w1 w2 S2 → Left w w2 S S2 g h N (delV V o.s o.a o.b) from fun w1 w2 d1 c1 d2 c2 =>
    K.next b0 (fun k hk => hk) d1 c1 (fun k hk => hk) d2 c2 (K.of.del o.s o.a o.b))
  obtain ⟨E, hE⟩ : ∃ E, E = (rng o.a o.b (V.P o.s)).length := ⟨_, rfl⟩
  rw [← hE] at PU RP
  rw [HS.out]
  obtain ⟨V1, hV1⟩ : ∃ V1, V1 = delV V o.s o.a o.b := ⟨_, rfl⟩
  rw [← hV1] at FIN PU ⊢
  obtain ⟨T1, hT1⟩ : ∃ T1, T1 = tset T o.s (cut o.a o.b (V.P o.s)) := ⟨_, rfl⟩
  rw [← hT1] at FIN RP
  clear hE hV1 hT1 HS K hlt hlt2 b0 hl
  obtain ⟨kd, s, p, a, b⟩ := o
  simp only at hk PU RP CX CX2 kX FIN
  subst hk
  unfold opa
  unfold opO at PU RP CX CX2 kX FIN
  simp only at PU RP CX CX2 kX FIN ⊢
  clear hs
  go_enter Try.func11, Try.ntmps11
  go_wp2_with fail
  go_region_held (fun y => y.cell? ⟨w.heap.size, 1, none⟩ = some (.string s.1) ∧ y.cell? ⟨w.heap.size, 2, none⟩ = some (.string s.2) ∧ (y.cell? ⟨w.heap.size, 3, none⟩ = some (.int .i64 p.1) ∧ y.cell? ⟨w.heap.size, 4, none⟩ = some (.int .i64 p.2.1) ∧ y.cell? ⟨w.heap.size, 5, none⟩ = some (.int .u64 (p.2.2.1 : Nat)) ∧ y.cell? ⟨w.heap.size, 6, none⟩ = some (.string (str p.2.2.2))) ∧ y.cell? ⟨w.heap.size, 7, none⟩ = some (.int .i64 a) ∧ y.cell? ⟨w.heap.size, 8, none⟩ = some (.int .i64 b))
    (first | exact kX | exact kY | exact kZ)
    (first | (go_at_call 21; refine PU.out.mono ?_; rintro e w1 ⟨rfl, d1, c1⟩; replace c1 := undC c1; have RR := Lib.hid (RP.out w1 c1); have kY := CX.out w1 c1; have D1 := Lib.hid d1; have C1 := Lib.hid c1; clear d1 c1) | (go_at_call 23; refine RR.out.mono ?_; rintro e w2 ⟨rfl, d2, c2⟩; have kZ := CX2.out w2 ((C1.out.imp (S' := fun k => S k ∨ S2 k) (fun k hk _ => .inl hk)).trans c2 (fun k hk _ => .inr hk)); have D2 := Lib.hid d2; have C2 := Lib.hid c2; clear d2 c2))
  go_wp2_with fail
  go_ret
  exact ⟨by simp, FIN.out w1 w2 D1.out C1.out D2.out C2.out⟩
theorem playT_3 (w : World) (S S2 : Nat → Prop) (g h N : Nat) (V : Vw) (T : Tab) (K : Two w S S2 g h N V T) (o : Oc) (hk : o.kind = 3) :
    Calls Try.prog 11 #[.pointer (some ⟨g, 0, none⟩), .pointer (some ⟨h, 0, none⟩), opa o] w fun e w' => e = .returned (.bool true) ∧ Left w w' S S2 g h N (stp V o) := by
  have HS : Hid (stp V o = V0 V.most) := Lib.hid (by unfold stp; rw [if_neg (by omega), if_neg (by omega), if_pos hk])
  have b0 := (Below.refl _ w).alloc (Nat.le_refl _) (opO o)
  have CL := Lib.hid (clearD (w.alloc (opO o)) S g N V (K.dv.below b0))
  have RC := Lib.hid (show ∀ w1, Chg (w.alloc (opO o)) w1 S → _ from fun w1 c => Uj.clear24 w1 S2 h V.most T ((K.dt.below b0).chg c (fun k hk e => K.ap k e hk)))
  have FIN := Lib.hid (show ∀ w1 w2, DV w1 S g 0 (V0 V.most) → Chg (w.alloc (opO o)) w1 S → Dt w2 S2 h V.most [] → Chg w1 w2 S2 → Left w w2 S S2 g h N (V0 V.most) from fun w1 w2 d1 c1 d2 c2 =>
    K.next b0 (fun k hk => .inl hk) (d1.more (Nat.zero_le N)) c1 (fun k hk => .inl hk) d2 c2 (Re.Of.zero _))
  rw [HS.out]
  clear HS K b0
  obtain ⟨kd, s, p, a, b⟩ := o
  simp only at hk
  subst hk
  unfold opa
  unfold opO at CL RC FIN
  simp only at CL RC FIN ⊢
  go_enter Try.func11, Try.ntmps11
  go_wp2_with fail
  refine CL.out.mono ?_
  rintro e w1 ⟨rfl, d1, c1⟩
  have RR := Lib.hid (RC.out w1 c1)
  have D1 := Lib.hid d1
  have C1 := Lib.hid c1
  clear d1 c1
  go_wp2_with fail
  refine RR.out.mono ?_
  rintro e w2 ⟨rfl, d2, c2⟩
  have FX := Lib.hid (FIN.out w1 w2 D1.out C1.out d2 c2)
  clear d2 c2
  go_wp2_with fail
  go_ret
  exact ⟨rfl, FX.out⟩
theorem playT_n (w : World) (S S2 : Nat → Prop) (g h N : Nat) (V : Vw) (T : Tab) (K : Two w S S2 g h N V T) (o : Oc) (hk : o.kind ≠ 1) (hk2 : o.kind ≠ 2) (hk3 : o.kind ≠ 3) :
    Calls Try.prog 11 #[.pointer (some ⟨g, 0, none⟩), .pointer (some ⟨h, 0, none⟩), opa o] w fun e w' => e = .returned (.bool true) ∧ Left w w' S S2 g h N (stp V o) := by
  have HS : Hid (stp V o = V) := Lib.hid (by unfold stp; rw [if_neg hk, if_neg hk2, if_neg hk3])
  have b0 := (Below.refl _ w).alloc (Nat.le_refl _) (opO o)
  have FIN := Lib.hid (show Left w (w.alloc (opO o)) S S2 g h N (stp V o) from by
    rw [HS.out]
    exact K.next b0 (fun k hk => .inl hk) (K.dv.below b0) (Chg.refl _ _) (fun k hk => .inl hk) (K.dt.below b0) (Chg.refl _ _) K.of)
  clear K HS b0
  obtain ⟨kd, s, p, a, b⟩ := o
  simp only at hk hk2 hk3
  unfold opa
  unfold opO at FIN
  simp only at FIN ⊢
  have q1 : (kd == 1) = false := by simpa using hk
  have q2 : (kd == 2) = false := by simpa using hk2
  have q3 : (kd == 3) = false := by simpa using hk3
  clear hk hk2 hk3
  go_enter Try.func11, Try.ntmps11
  go_wp2_with fail
  go_ret
  exact ⟨rfl, FIN.out⟩
theorem Left.more {w w' : World} {S S2 : Nat → Prop} {g h N N' : Nat} {V : Vw} (H : Left w w' S S2 g h N V) (hn : N ≤ N') : Left w w' S S2 g h N' V := by
  obtain ⟨S', S2', T', k, a, b, c⟩ := H
  exact ⟨S', S2', T', ⟨k.dv.more hn, k.dt, k.of, k.ap⟩, a, b, c⟩
theorem playT (w : World) (S S2 : Nat → Prop) (g h N : Nat) (V : Vw) (T : Tab) (K : Two w S S2 g h N V T) (o : Oc) (hs : ok o.s) (hp : Wp o.p) (hz : V.size ≤ 511) (hN : N ≤ 140737488353000) :
    Calls Try.prog 11 #[.pointer (some ⟨g, 0, none⟩), .pointer (some ⟨h, 0, none⟩), opa o] w fun e w' => e = .returned (.bool true) ∧ Left w w' S S2 g h (N + 1) (stp V o) := by
  by_cases h1 : o.kind = 1
  · exact playT_1 w S S2 g h N V T K o h1 hs hp hz hN
  by_cases h2 : o.kind = 2
  · exact (playT_2 w S S2 g h N V T K o h2 hs hz).mono fun _ _ ⟨a, b⟩ => ⟨a, b.more (Nat.le_succ _)⟩
  by_cases h3 : o.kind = 3
  · exact (playT_3 w S S2 g h N V T K o h3).mono fun _ _ ⟨a, b⟩ => ⟨a, b.more (Nat.le_succ _)⟩
  · exact (playT_n w S S2 g h N V T K o h1 h2 h3).mono fun _ _ ⟨a, b⟩ => ⟨a, b.more (Nat.le_succ _)⟩
theorem stp_size {V : Vw} (o : Oc) : (stp V o).size ≤ V.size + 1 := by
  unfold stp
  split
  · unfold putV
    split
    · dsimp only; split <;> omega
    · omega
  · split
    · unfold delV; dsimp only; omega
    · split
      · exact Nat.zero_le _
      · omega
end Uk
end Go.Proofs.Ytloiclmngmnbdaa
