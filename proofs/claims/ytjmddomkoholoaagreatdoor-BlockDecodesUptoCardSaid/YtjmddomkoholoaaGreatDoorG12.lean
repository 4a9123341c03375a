import Derived.Test.YtjmddomkoholoaaGreatDoorG11
import Derived.Test.YtjmddomkoholoaaGreatDoorG09
import Derived.Test.YtjmddomkoholoaaGreatDoorG05

/- floatBytes. -/
namespace Go.Proofs.YtjmddomkoholoaaGreatDoor
open Go.RowKit
namespace Fl
open Cm Wr Bm Pk Zs Wl Vs Fo Cv

def X (T : List Vl) (k : Nat) : Nat := (T.getD k z0).2.1
theorem ns_take (T : List Vl) (k : Nat) (h : k < T.length) : (ns T).take (k + 1) = (ns T).take k ++ [X T k] := by
  have hl : k < (ns T).length := by simpa [ns] using h
  rw [List.take_add_one, List.getElem?_eq_getElem hl]
  congr 1
  simp [X, ns, List.getD_eq_getElem?_getD, h]
def fl (T : List Vl) (k : Nat) : List Bool := fbits ((ns T).take (k + 1))
theorem fl_zero {T : List Vl} (h : 0 < T.length) : fl T 0 = bv (X T 0) 64 := by
  unfold fl
  rw [ns_take T 0 h]
  simp [fbits, fb]
theorem fbits_snoc (l : List Nat) (x y : Nat) : fbits (l ++ [x] ++ [y]) = fbits (l ++ [x]) ++ ub (y ^^^ x) := by
  cases l with
  | nil => simp [fbits, fb]
  | cons a r => simp only [List.cons_append, fbits]; rw [fb_snoc, List.append_assoc]
theorem fl_succ {T : List Vl} {k : Nat} (h : k + 1 < T.length) : fl T (k + 1) = fl T k ++ ub (X T (k + 1) ^^^ X T k) := by
  unfold fl
  rw [ns_take T (k + 1) h, ns_take T k (by omega), fbits_snoc]
theorem fl_end {T : List Vl} {k : Nat} (h : k + 1 = T.length) : fl T k = fbits (ns T) := by
  unfold fl
  rw [List.take_of_length_le (by simp [ns]; omega)]
theorem _root_.Go.Proofs.YtjmddomkoholoaaGreatDoor.Wl.Wp.of_new {w w' : World} {g : Nat} {s : Value} {L L' : List Bool} {o : Obj} (h : Wp (w.alloc o) g s w' L') (h0 : Wl w g s L) : w'.heap[w.heap.size]? = (w.alloc o).heap[w.heap.size]? := by
  obtain ⟨s', _, m, _⟩ := h
  refine m.block _ (by simp) (by have := h0.lt; omega) fun e => ?_
  have := (h0.own _ e).2
  omega
theorem new_cell (w : World) (vs : Array Value) (t : TypeId) (i : Nat) (v : Value) (h : vs[i]? = some v) : (w.alloc (.cells vs t)).cell? ⟨w.heap.size, i, none⟩ = some v := by
  rw [cell_of_row _ _ _ _ _ _ (heap_alloc_new _ _)]
  exact h
theorem _root_.Go.Proofs.YtjmddomkoholoaaGreatDoor.Wl.Wp.new_cell {w w' : World} {g : Nat} {s : Value} {L L' : List Bool} {vs : Array Value} {t : TypeId} (h : Wp (w.alloc (.cells vs t)) g s w' L') (h0 : Wl w g s L) (i : Nat) (v : Value) (hv : vs[i]? = some v) : w'.cell? ⟨w.heap.size, i, none⟩ = some v :=
  (World.cell?_of_block (h.of_new h0)).trans (Fl.new_cell w vs t i v hv)
theorem X_lt {T : List Vl} (h : ∀ v ∈ T, Wv v) (k : Nat) : X T k < 18446744073709551616 := (getD_wv h k).2.2.1
theorem fl_len {T : List Vl} (hw : ∀ v ∈ T, Wv v) : ∀ {k : Nat}, k < T.length → (fl T k).length ≤ 77 * (k + 1) := by
  intro k
  induction k with
  | zero => intro h; rw [fl_zero h, bv_len]; omega
  | succ k ih =>
    intro h
    rw [fl_succ h, List.length_append]
    have := ih (by omega)
    have := ub_len (X T (k + 1) ^^^ X T k) (Nat.xor_lt_two_pow (X_lt hw _) (X_lt hw _))
    omega
theorem xor_u64 (a b : Nat) (ha : a < 18446744073709551616) (hb : b < 18446744073709551616) : bits .xor .u64 (a : Int) (b : Int) = ((a ^^^ b : Nat) : Int) := by
  show IntKind.u64.wrap ((BitVec.ofInt 64 (a : Int) ^^^ BitVec.ofInt 64 (b : Int)).toNat : Int) = _
  rw [BitVec.toNat_xor, ofInt_u64 a ha, ofInt_u64 b hb, IntKind.wrap_u64]
  have := Nat.xor_lt_two_pow (n := 64) ha hb
  omega

set_option maxRecDepth 100000 in
set_option maxHeartbeats 2000000 in
theorem floats23 (w : World) (v : Value) (T : List Vl) (h : Vi w v T) (h0 : 0 < T.length) (hl : T.length ≤ 1000) (hT : Dt w) :
    Calls Tryz.prog 88 #[v] w fun e w' => ∃ r, e = .returned r ∧ w'.ownsRow w.heap.size 5 1 r (pk (fbits (ns T))).length (u8s (pk (fbits (ns T)))) ∧ Below w.heap.size w w' := by
  have HW := Lib.hid h.1
  rcases h.cases with ⟨a, c, rfl, rfl⟩ | ⟨hL0, b, off, c, rfl, hc1, hc2, hc3⟩
  · simp at h0
  obtain ⟨n, hn⟩ : ∃ n, n + 1 = T.length := ⟨T.length - 1, by omega⟩
  have HE := Lib.hid (fl_end hn)
  rw [← hn] at hc1 hc3 hl ⊢
  have HC := Lib.hid hc3
  have HN := Lib.hid hn
  have HT := Lib.hid hT
  have FB := Lib.hid (fun (y : World) (g : Nat) (s : Value) (h1 : Wl y g s (fl T n)) => bytes_wl y g s (fl T n) h1 (by have := fl_len HW.out (k := n) (by omega); omega))
  rw [HE.out] at FB
  have FP := Lib.hid (fun (y : World) (g : Nat) (s : Value) (h1 : Wl y g s []) => put_wl y g s [] (X T 0) 64 h1 (X_lt HW.out 0) (by decide) (by simp))
  rw [List.nil_append, ← fl_zero (by omega)] at FP
  have FU := Lib.hid (fun (y : World) (g : Nat) (s : Value) (k : Nat) (hk : k < n) (h1 : Wl y g s (fl T k)) (h2 : Dt y) => unlike43 y g s (fl T k) (X T (k + 1) ^^^ X T k) h1 (Nat.xor_lt_two_pow (n := 64) (X_lt HW.out _) (X_lt HW.out _)) h2 (by have := fl_len HW.out (k := k) (by omega); omega))
  have a0 := (hc3 0 (by omega)).2.1
  rw [Nat.zero_mul, Nat.add_zero] at a0
  change w.cell? ⟨b, off + 1, none⟩ = some (.int .u64 (X T 0 : Nat)) at a0
  have HL := Lib.hid hl
  have b64 : ∀ y, Below w.heap.size w y → y.cell? ⟨b, off + 1, none⟩ = some (.int .u64 (X T 0 : Nat)) := fun y hy => (hy.cell (p := ⟨b, off + 1, none⟩) hc2).trans a0
  have HB64 := Lib.hid b64
  clear h hc3 hn h0 hT a0 b64 hL0
  by_cases hc : c = 1
  · obtain rfl : n = 0 := by omega
    subst hc
    go_enter Tryz.func88, Tryz.ntmps88
    go_wp2_with (go_at_call 92; refine (new_wl _).mono ?_; rintro e w1 ⟨rfl, ⟨s1, h1⟩, b1⟩; have e1 := HB64.out _ b1; have H1 := Lib.hid h1; have B1 := Lib.hid b1; clear h1 b1)
    refine (FP.out _ _ _ H1.out).mono ?_
    rintro e w2 ⟨rfl, p2⟩
    have B2 := Lib.hid (B1.out.trans (p2.below H1.out (Nat.le_refl _)))
    obtain ⟨s2, h2, _, _⟩ := p2
    have H2 := Lib.hid h2
    obtain ⟨g, hg⟩ : ∃ g, g = w.heap.size := ⟨_, rfl⟩
    rw [← hg] at H2 ⊢
    have HG := Lib.hid hg
    clear h2 hg e1
    go_wp2_with fail
    refine wp_loop_rounds 1 ?_
    rw [rounds_succ]
    go_wp2_with fail
    refine (FB.out _ _ _ (by rw [← HE.out]; exact H2.out)).mono ?_
    rintro e w3 ⟨r, rfl, ho, b3⟩
    have O3 := Lib.hid ho
    have B3 := Lib.hid b3
    clear ho b3
    go_wp2_with fail
    go_ret
    exact ⟨_, rfl, Go.Joins.ownsRow_le O3.out B2.out.size, B2.out.trans (B3.out.mono B2.out.size)⟩
  · have hc2' : 1 < c := by omega
    go_enter Tryz.func88, Tryz.ntmps88
    go_wp2_with (go_at_call 92; refine (new_wl _).mono ?_; rintro e w1 ⟨rfl, ⟨s1, h1⟩, b1⟩; have e1 := HB64.out _ b1; have H1 := Lib.hid h1; have B1 := Lib.hid b1; clear h1 b1)
    refine (FP.out _ _ _ H1.out).mono ?_
    rintro e w2 ⟨rfl, p2⟩
    have B2 := Lib.hid (B1.out.trans (p2.below H1.out (Nat.le_refl _)))
    obtain ⟨s2, h2, _, _⟩ := p2
    have H2 := Lib.hid h2
    obtain ⟨g, hg⟩ : ∃ g, g = w.heap.size := ⟨_, rfl⟩
    rw [← hg] at H2 ⊢
    have HG := Lib.hid hg
    clear h2 hg e1
    go_wp2_with fail
    go_loopw [4, 18] (fun x i wr => ∃ k, k ≤ n ∧ i = .int .i64 (k : Nat) ∧ x = .int .u64 (X T k : Nat) ∧ (∃ s, Wl wr g s (fl T k)) ∧ Below w.heap.size w wr) (fun _ i _ => n - (intOf i).toNat)
    case atStart => exact ⟨0, Nat.zero_le _, rfl, rfl, ⟨s2, H2.out⟩, B2.out⟩
    case round =>
      obtain ⟨k, hk, rfl, rfl, ⟨s, hs⟩, hb⟩ := hrel
      by_cases hkn : k < n
      · obtain ⟨e1, e2, e3⟩ := (HC.out (k + 1) (by omega)).of_block (hb.block b hc2)
        have hX : (T.getD (k + 1) z0).2.1 = X T (k + 1) := rfl
        rw [hX] at e2
        have F43 := Lib.hid (fun (y : World) (hy : Below wr.heap.size wr y) => FU.out y g s k hkn (hs.below hy) (HT.out.below (hb.trans (hy.mono hb.size)) (by have := HT.out.1; omega)))
        have hxor := xor_u64 (X T (k + 1)) (X T k) (X_lt HW.out _) (X_lt HW.out _)
        have HST := Lib.hid (fl_succ (T := T) (k := k) (by rw [← HN.out]; omega))
        obtain ⟨A, hA⟩ : ∃ A, A = X T (k + 1) := ⟨_, rfl⟩
        obtain ⟨D, hD⟩ : ∃ D, D = X T k := ⟨_, rfl⟩
        rw [← hA] at e2 hxor F43 HST
        rw [← hD] at hxor F43 HST ⊢
        obtain ⟨K1, hK1⟩ : ∃ K1, K1 = (T.getD (k + 1) z0).1 := ⟨_, rfl⟩
        obtain ⟨S1, hS1⟩ : ∃ S1, S1 = str (T.getD (k + 1) z0).2.2 := ⟨_, rfl⟩
        rw [← hK1] at e1
        rw [← hS1] at e3
        rw [show off + (k + 1) * 3 = off + 3 + k * 3 from by omega] at e1 e2 e3
        have HS := Lib.hid hs
        have HB := Lib.hid hb
        have HA := Lib.hid hA
        clear hs hb hA hD hK1 hS1
        go_wp2_with (go_at_call 135; refine (F43.out _ ((Below.refl _ _).alloc (Nat.le_refl _) _)).mono ?_; rintro e w5 ⟨rfl, p5⟩; have c5 := p5.new_cell HS.out 1 _ rfl; have P5 := Lib.hid p5; clear p5)
        go_roundw
        case rel =>
          obtain ⟨s5, h5, m5, o5⟩ := P5.out
          refine ⟨k + 1, by omega, by go_num, by rw [HA.out], ⟨s5, ?_⟩, ?_⟩
          · rw [HST.out]; exact h5
          · exact (HB.out.alloc HB.out.size _).trans (P5.out.below (HS.out.below ((Below.refl _ _).alloc (Nat.le_refl _) _)) (by rw [HG.out]; exact Nat.le_refl _))
        case measure => simp [intOf]; omega
      · obtain rfl : k = n := by omega
        go_wp2_with fail
        refine (FB.out _ _ _ (by rw [← HE.out]; exact hs)).mono ?_
        rintro e w3 ⟨r, rfl, ho, b3⟩
        have O3 := Lib.hid ho
        have B3 := Lib.hid b3
        clear ho b3
        go_wp2_with fail
        go_ret
        exact ⟨_, rfl, Go.Joins.ownsRow_le O3.out hb.size, hb.trans (B3.out.mono hb.size)⟩
end Fl
end Go.Proofs.YtjmddomkoholoaaGreatDoor

/- stepsOf. -/
namespace Go.Proofs.YtjmddomkoholoaaGreatDoor
open Go.RowKit
namespace Is
open Cm Wr Bm Pk Zs Vs Fo Cv Fl Rx Sz

def P (T : List Vl) : Nat → Nat
  | 0 => 0
  | k + 1 => X T k
def sl (T : List Vl) (k : Nat) : List Nat := sts 0 ((ns T).take k)
theorem sts_one (l : List Nat) (x : Nat) : ∀ p, sts p (l ++ [x]) = sts p l ++ [Cm.step (l.getLastD p) x] := by
  induction l with
  | nil => intro p; simp [sts]
  | cons a r ih =>
    intro p
    simp only [List.cons_append, sts]
    rw [ih]
    cases r with
    | nil => rfl
    | cons b r => rfl
theorem sl_zero (T : List Vl) : sl T 0 = [] := by simp [sl, sts]
theorem sl_succ {T : List Vl} {k : Nat} (h : k < T.length) : sl T (k + 1) = sl T k ++ [Cm.step (P T k) (X T k)] := by
  unfold sl
  rw [ns_take T k h, sts_one]
  congr 3
  cases k with
  | zero => simp [P]
  | succ k => rw [ns_take T k (by omega)]; simp [P]
theorem sl_end {T : List Vl} {k : Nat} (h : k = T.length) : sl T k = sts 0 (ns T) := by
  unfold sl
  rw [List.take_of_length_le (by simp [ns]; omega)]
theorem sl_len {T : List Vl} {k : Nat} (h : k ≤ T.length) : (sl T k).length = k := by
  unfold sl
  rw [sts_len, List.length_take]
  simp [ns]
  omega
theorem P_lt {T : List Vl} (h : ∀ v ∈ T, Wv v) (k : Nat) : P T k < 18446744073709551616 := by
  cases k with
  | zero => show 0 < 18446744073709551616; decide
  | succ k => exact X_lt h k
theorem zig_at (w : World) (p x : Nat) (_hp : p < 18446744073709551616) (_hx : x < 18446744073709551616) :
    Calls Tryz.prog 134 #[.int .i64 (wrap64 (IntKind.u64.wrap ((x : Int) - (p : Int))))] w fun e w' => e = .returned (.int .u64 (Cm.step p x : Nat)) ∧ w' = w := by
  have e : wrap64 (IntKind.u64.wrap ((x : Int) - (p : Int))) = wrap64 ((x : Int) - (p : Int)) := by rw [IntKind.wrap_u64]; unfold wrap64; omega
  rw [e, (step_of p x).1]
  obtain ⟨h1, h2⟩ := wrap_in ((x : Int) - (p : Int))
  exact zig22 _ h1 h2 w

set_option maxRecDepth 100000 in
set_option maxHeartbeats 2000000 in
theorem steps46 (w : World) (v : Value) (T : List Vl) (h : Vi w v T) (hl : T.length ≤ 1000000) :
    Calls Tryz.prog 136 #[v] w fun e w' => ∃ r, e = .returned r ∧ w'.ownsRow w.heap.size 33 1 r (sts 0 (ns T)).length (u64s (sts 0 (ns T))) ∧ Below w.heap.size w w' := by
  obtain ⟨i0, hi, hz0, hz1, hz2⟩ := info_parts info34
  have HW := Lib.hid h.1
  rcases h.cases with ⟨a, c, rfl, rfl⟩ | ⟨hL0, b, off, c, rfl, hc1, hc2, hc3⟩
  · clear h
    go_enter Tryz.func136, Tryz.ntmps136
    go_wp2_with fail
    refine wp_loop_rounds 1 ?_
    rw [rounds_succ]
    go_wp2_with fail
    go_ret
    exact ⟨_, rfl, World.ownsRow_nil _ _ _ _, Below.refl _ _⟩
  obtain ⟨n, hn⟩ : ∃ n, n = T.length := ⟨_, rfl⟩
  have HE := Lib.hid (sl_end hn)
  rw [← hn] at hc1 hc3 hl ⊢
  have HC := Lib.hid hc3
  have HN := Lib.hid hn
  clear h hc3 hn hL0
  go_enter Tryz.func136, Tryz.ntmps136
  go_wp2_with fail
  go_loopw [3, 4, 9] (fun s x i wr => ∃ k, k ≤ n ∧ i = .int .i64 (k : Nat) ∧ x = .int .u64 (P T k : Nat) ∧ wr.ownsRow w.heap.size 33 1 s k (u64s (sl T k)) ∧ Below w.heap.size w wr) (fun _ _ i _ => n - (intOf i).toNat)
  case atStart => exact ⟨0, Nat.zero_le _, rfl, rfl, by rw [sl_zero]; exact World.ownsRow_nil _ _ _ _, Below.refl _ _⟩
  case round =>
    obtain ⟨k, hk, rfl, rfl, ho, hb⟩ := hrel
    by_cases hkn : k < n
    · obtain ⟨e1, e2, e3⟩ := (HC.out k hkn).of_block (hb.block b hc2)
      have hX : (T.getD k z0).2.1 = X T k := rfl
      rw [hX] at e2
      have F68 := Lib.hid (fun y => zig_at y (P T k) (X T k) (P_lt HW.out k) (X_lt HW.out k))
      have HST := Lib.hid (sl_succ (T := T) (k := k) (by rw [← HN.out]; omega))
      have HSL := Lib.hid (sl_len (T := T) (k := k) (by rw [← HN.out]; omega))
      obtain ⟨A, hA⟩ : ∃ A, A = X T k := ⟨_, rfl⟩
      obtain ⟨D, hD⟩ : ∃ D, D = P T k := ⟨_, rfl⟩
      rw [← hA, ← hD] at F68 HST
      rw [← hA] at e2
      rw [← hD]
      obtain ⟨Z, hZ⟩ : ∃ Z, Z = Cm.step D A := ⟨_, rfl⟩
      rw [← hZ] at F68 HST
      obtain ⟨K1, hK1⟩ : ∃ K1, K1 = (T.getD k z0).1 := ⟨_, rfl⟩
      obtain ⟨S1, hS1⟩ : ∃ S1, S1 = str (T.getD k z0).2.2 := ⟨_, rfl⟩
      rw [← hK1] at e1
      rw [← hS1] at e3
      have HO := Lib.hid ho
      have HB := Lib.hid hb
      have HA := Lib.hid hA
      clear ho hb hA hD hK1 hS1 hZ
      go_wp2_with (first | (go_at_call 134; refine (F68.out _).mono ?_; rintro e w5 ⟨rfl, rfl⟩) | (at_builtin; refine wpList_append_own _ rfl (.tmp 13) (.tmp 20) 123 rfl w.heap.size 33 i0 (.int .u64 0) 1 8 Tryz.underlying123 hi hz0 hz1 hz2 rfl (by decide) _ _ _ rfl ((HO.out.alloc _).alloc _) ⟨wr.heap.size + 1, 0, none⟩ 1 1 [.int .u64 (Z : Nat)] rfl rfl ?c1 ?c2 ?c3 ?c4 ?c5 ?_))
      case c1 =>
        intro j u hj
        match j, hj with
        | 0, hj => simp at hj; subst hj; simp [Addr.add]
      case c2 => intro u hu; simp at hu; subst hu; rfl
      case c3 => unfold maxLen; omega
      case c4 => omega
      case c5 => have := HB.out.size; simp; omega
      intro v' w2 ho' hg' _
      have hb2 := ((HB.out.alloc HB.out.size _).alloc (by have := HB.out.size; simp; omega) _).grown hg' (by have := HB.out.size; simp; omega) (fun r hr => (HO.out.lt r hr).1)
      have e4 : w2.cell? ⟨wr.heap.size, 1, none⟩ = some (.int .u64 (A : Nat)) := by
        refine hg'.cell ?_ (fun e => by have h9 := (HO.out.lt wr.heap.size e.symm).2; omega)
        rw [World.cell?_alloc_past _ _ _ (by simp)]
        exact new_cell _ _ _ 1 _ rfl
      have O2 := Lib.hid ho'
      have B2 := Lib.hid hb2
      clear ho' hg' hb2
      go_wp2_with fail
      go_roundw
      case rel => exact ⟨k + 1, by omega, by go_num, by rw [HA.out]; rfl, by rw [HST.out]; unfold u64s; rw [List.map_append]; exact O2.out, B2.out⟩
      case measure => simp [intOf]; omega
    · obtain rfl : k = n := by omega
      go_wp2_with fail
      go_ret
      refine ⟨_, rfl, ?_, hb⟩
      rw [HE.out] at ho
      have := sts_len (ns T) 0
      rw [show (sts 0 (ns T)).length = k from by rw [this]; simp [ns]; exact HN.out.symm]
      exact ho
end Is
end Go.Proofs.YtjmddomkoholoaaGreatDoor

/- plainIntegers, booleanBytes. -/
namespace Go.Proofs.YtjmddomkoholoaaGreatDoor
open Go.RowKit
namespace Ib
open Cm Wr Bm Pk Zs Wl Vs Fo Cv Fl

/-- The first k numbers, N bits each. -/
def bl (N : Nat) (T : List Vl) (k : Nat) : List Bool := ((ns T).take k).flatMap fun x => bv x N
theorem bl_zero (N : Nat) (T : List Vl) : bl N T 0 = [] := by simp [bl]
theorem bl_succ {N : Nat} {T : List Vl} {k : Nat} (h : k < T.length) : bl N T (k + 1) = bl N T k ++ bv (X T k) N := by
  unfold bl
  rw [ns_take T k h, List.flatMap_append]
  simp
theorem bl_end {N : Nat} {T : List Vl} {k : Nat} (h : k = T.length) : bl N T k = (ns T).flatMap fun x => bv x N := by
  unfold bl
  rw [List.take_of_length_le (by simp [ns]; omega)]
theorem bl_len {N : Nat} {T : List Vl} : ∀ {k : Nat}, k ≤ T.length → (bl N T k).length ≤ N * k := by
  intro k
  induction k with
  | zero => intro _; rw [bl_zero]; simp
  | succ k ih => intro h; rw [bl_succ (by omega), List.length_append, bv_len, Nat.mul_add]; have := ih (by omega); omega
theorem bits_bools (l : List Nat) : (l.flatMap fun x => bv x 1) = bbits l := by
  induction l with
  | nil => rfl
  | cons x r ih => rw [List.flatMap_cons, ih]; simp [bbits, bv, List.range_succ]
theorem ofL_words : ∀ (l : List Nat) (i : Nat), i < 64 * l.length → ofL (l.flatMap fun x => bv x 64) i = Mt.wb l i := by
  intro l
  induction l with
  | nil => intro i h; simp at h
  | cons x r ih =>
    intro i h
    rw [List.flatMap_cons]
    by_cases hi : i < 64
    · rw [ofL_left (by rw [bv_len]; exact hi)]
      unfold ofL Mt.wb
      rw [bv_get _ _ _ hi, show i / 64 = 0 from by omega, show i % 64 = i from by omega]
      rfl
    · obtain ⟨j, rfl⟩ : ∃ j, i = 64 + j := ⟨i - 64, by omega⟩
      have e := ofL_right (A := bv x 64) (B := r.flatMap fun x => bv x 64) j
      rw [bv_len] at e
      rw [e, ih j (by simp at h; omega)]
      unfold Mt.wb
      rw [show (64 + j) / 64 = j / 64 + 1 from by omega, show (64 + j) % 64 = j % 64 from by omega]
      rfl
theorem words_len (l : List Nat) : (l.flatMap fun x => bv x 64).length = 64 * l.length := by
  induction l with
  | nil => rfl
  | cons x r ih => rw [List.flatMap_cons, List.length_append, ih, bv_len, List.length_cons]; omega
theorem pk_words (l : List Nat) : pk (l.flatMap fun x => bv x 64) = Mt.flat l := by
  have h := (pk_has (l.flatMap fun x => bv x 64)).congr (γ := Mt.wb l) (fun i hi => ofL_words l i (by rw [pk_len, words_len] at hi; omega))
  exact h.unique (Mt.flat_has l) (by rw [pk_len, words_len, Mt.flat_len]; omega)

set_option maxRecDepth 100000 in
set_option maxHeartbeats 2000000 in
theorem bools25 (w : World) (v : Value) (T : List Vl) (h : Vi w v T) (h0 : 0 < T.length) (hl : T.length ≤ 1000) :
    Calls Tryz.prog 90 #[v] w fun e w' => ∃ r, e = .returned r ∧ w'.ownsRow w.heap.size 5 1 r (pk (bbits (ns T))).length (u8s (pk (bbits (ns T)))) ∧ Below w.heap.size w w' := by
  obtain ⟨i0, hi, hz0, hz1, hz2⟩ := info_parts info5
  have HW := Lib.hid h.1
  rcases h.cases with ⟨a, c, rfl, rfl⟩ | ⟨hL0, b, off, c, rfl, hc1, hc2, hc3⟩
  · simp at h0
  obtain ⟨n, hn⟩ : ∃ n, n = T.length := ⟨_, rfl⟩
  have HE := Lib.hid (bl_end (N := 1) hn)
  rw [← hn] at hc1 hc3 hl h0 ⊢
  have HC := Lib.hid hc3
  have HN := Lib.hid hn
  have FB := Lib.hid (fun (y : World) (g : Nat) (s : Value) (h1 : Wl y g s (bl 1 T n)) => bytes_wl y g s (bl 1 T n) h1 (by have := bl_len (N := 1) (T := T) (k := n) (by omega); omega))
  have FU := Lib.hid (fun (y : World) (g : Nat) (s : Value) (k : Nat) (hk : k < n) (h1 : Wl y g s (bl 1 T k)) => put_wl y g s (bl 1 T k) (X T k) 1 h1 (X_lt HW.out _) (by decide) (by have := bl_len (N := 1) (T := T) (k := k) (by omega); omega))
  clear h hc3 hn
  go_enter Tryz.func90, Tryz.ntmps90
  go_wp2_with (go_at_call 92; refine (new_wl _).mono ?_; rintro e w1 ⟨rfl, ⟨s1, h1⟩, b1⟩)
  obtain ⟨g, hg⟩ : ∃ g, g = w.heap.size := ⟨_, rfl⟩
  rw [← hg] at h1 ⊢
  have HG := Lib.hid hg
  have H1 := Lib.hid h1
  have B1 := Lib.hid b1
  clear h1 b1 hg
  go_loopw [9] (fun i wr => ∃ k, k ≤ n ∧ i = .int .i64 (k : Nat) ∧ (∃ s, Wl wr g s (bl 1 T k)) ∧ Below w.heap.size w wr) (fun i _ => n - (intOf i).toNat)
  case atStart => exact ⟨0, Nat.zero_le _, rfl, ⟨s1, by rw [bl_zero]; exact H1.out⟩, B1.out⟩
  case round =>
    obtain ⟨k, hk, rfl, ⟨s, hs⟩, hb⟩ := hrel
    by_cases hkn : k < n
    · obtain ⟨e1, e2, e3⟩ := (HC.out k hkn).of_block (hb.block b hc2)
      have hX : (T.getD k z0).2.1 = X T k := rfl
      rw [hX] at e2
      have F42 := Lib.hid (fun (y : World) (hy : Below wr.heap.size wr y) => FU.out y g s k hkn (hs.below hy))
      have HST := Lib.hid (bl_succ (N := 1) (T := T) (k := k) (by rw [← HN.out]; omega))
      obtain ⟨A, hA⟩ : ∃ A, A = X T k := ⟨_, rfl⟩
      rw [← hA] at e2 F42 HST
      obtain ⟨K1, hK1⟩ : ∃ K1, K1 = (T.getD k z0).1 := ⟨_, rfl⟩
      obtain ⟨S1, hS1⟩ : ∃ S1, S1 = str (T.getD k z0).2.2 := ⟨_, rfl⟩
      rw [← hK1] at e1
      rw [← hS1] at e3
      have HS := Lib.hid hs
      have HB := Lib.hid hb
      clear hs hb hA hK1 hS1
      go_wp2_with (go_at_call 93; refine (F42.out _ ((Below.refl _ _).alloc (Nat.le_refl _) _)).mono ?_; rintro e w5 ⟨rfl, p5⟩; have P5 := Lib.hid p5; clear p5)
      go_roundw
      case rel =>
        obtain ⟨s5, h5, m5, o5⟩ := P5.out
        refine ⟨k + 1, by omega, by go_num, ⟨s5, ?_⟩, ?_⟩
        · rw [HST.out]; exact h5
        · exact (HB.out.alloc HB.out.size _).trans (P5.out.below (HS.out.below ((Below.refl _ _).alloc (Nat.le_refl _) _)) (by rw [HG.out]; exact Nat.le_refl _))
      case measure => simp [intOf]; omega
    · obtain rfl : k = n := by omega
      go_wp2_with fail
      refine (FB.out _ _ _ hs).mono ?_
      rintro e w3 ⟨r, rfl, ho, b3⟩
      rw [HE.out, bits_bools] at ho
      have O3 := Lib.hid ho
      have B3 := Lib.hid b3
      clear ho b3
      go_wp2_with fail
      go_ret
      exact ⟨_, rfl, Go.Joins.ownsRow_le O3.out hb.size, hb.trans (B3.out.mono hb.size)⟩

set_option maxRecDepth 100000 in
set_option maxHeartbeats 2000000 in
theorem plain47 (w : World) (v : Value) (T : List Vl) (h : Vi w v T) (h0 : 0 < T.length) (hl : T.length ≤ 1000) :
    Calls Tryz.prog 137 #[v] w fun e w' => ∃ r, e = .returned r ∧ w'.ownsRow w.heap.size 5 1 r (0 :: Mt.flat (ns T)).length (u8s (0 :: Mt.flat (ns T))) ∧ Below w.heap.size w w' := by
  obtain ⟨i0, hi, hz0, hz1, hz2⟩ := info_parts info5
  have HW := Lib.hid h.1
  rcases h.cases with ⟨a, c, rfl, rfl⟩ | ⟨hL0, b, off, c, rfl, hc1, hc2, hc3⟩
  · simp at h0
  obtain ⟨n, hn⟩ : ∃ n, n = T.length := ⟨_, rfl⟩
  have HE := Lib.hid (bl_end (N := 64) hn)
  rw [← hn] at hc1 hc3 hl h0 ⊢
  have HC := Lib.hid hc3
  have HN := Lib.hid hn
  have FB := Lib.hid (fun (y : World) (g : Nat) (s : Value) (h1 : Wl y g s (bl 64 T n)) => bytes_wl y g s (bl 64 T n) h1 (by have := bl_len (N := 64) (T := T) (k := n) (by omega); omega))
  have FU := Lib.hid (fun (y : World) (g : Nat) (s : Value) (k : Nat) (hk : k < n) (h1 : Wl y g s (bl 64 T k)) => put_wl y g s (bl 64 T k) (X T k) 64 h1 (X_lt HW.out _) (by decide) (by have := bl_len (N := 64) (T := T) (k := k) (by omega); omega))
  obtain ⟨bs, hbs⟩ : ∃ bs, bs = Mt.flat (ns T) := ⟨_, rfl⟩
  rw [← hbs]
  have HBS := Lib.hid hbs
  clear hbs
  clear h hc3 hn
  go_enter Tryz.func137, Tryz.ntmps137
  go_wp2_with (go_at_call 92; refine (new_wl _).mono ?_; rintro e w1 ⟨rfl, ⟨s1, h1⟩, b1⟩)
  obtain ⟨g, hg⟩ : ∃ g, g = w.heap.size := ⟨_, rfl⟩
  rw [← hg] at h1 ⊢
  have HG := Lib.hid hg
  have H1 := Lib.hid h1
  have B1 := Lib.hid b1
  clear h1 b1 hg
  go_loopw [9] (fun i wr => ∃ k, k ≤ n ∧ i = .int .i64 (k : Nat) ∧ (∃ s, Wl wr g s (bl 64 T k)) ∧ Below w.heap.size w wr) (fun i _ => n - (intOf i).toNat)
  case atStart => exact ⟨0, Nat.zero_le _, rfl, ⟨s1, by rw [bl_zero]; exact H1.out⟩, B1.out⟩
  case round =>
    obtain ⟨k, hk, rfl, ⟨s, hs⟩, hb⟩ := hrel
    by_cases hkn : k < n
    · obtain ⟨e1, e2, e3⟩ := (HC.out k hkn).of_block (hb.block b hc2)
      have hX : (T.getD k z0).2.1 = X T k := rfl
      rw [hX] at e2
      have F42 := Lib.hid (fun (y : World) (hy : Below wr.heap.size wr y) => FU.out y g s k hkn (hs.below hy))
      have HST := Lib.hid (bl_succ (N := 64) (T := T) (k := k) (by rw [← HN.out]; omega))
      obtain ⟨A, hA⟩ : ∃ A, A = X T k := ⟨_, rfl⟩
      rw [← hA] at e2 F42 HST
      obtain ⟨K1, hK1⟩ : ∃ K1, K1 = (T.getD k z0).1 := ⟨_, rfl⟩
      obtain ⟨S1, hS1⟩ : ∃ S1, S1 = str (T.getD k z0).2.2 := ⟨_, rfl⟩
      rw [← hK1] at e1
      rw [← hS1] at e3
      have HS := Lib.hid hs
      have HB := Lib.hid hb
      clear hs hb hA hK1 hS1
      go_wp2_with (go_at_call 93; refine (F42.out _ ((Below.refl _ _).alloc (Nat.le_refl _) _)).mono ?_; rintro e w5 ⟨rfl, p5⟩; have P5 := Lib.hid p5; clear p5)
      go_roundw
      case rel =>
        obtain ⟨s5, h5, m5, o5⟩ := P5.out
        refine ⟨k + 1, by omega, by go_num, ⟨s5, ?_⟩, ?_⟩
        · rw [HST.out]; exact h5
        · exact (HB.out.alloc HB.out.size _).trans (P5.out.below (HS.out.below ((Below.refl _ _).alloc (Nat.le_refl _) _)) (by rw [HG.out]; exact Nat.le_refl _))
      case measure => simp [intOf]; omega
    · obtain rfl : k = n := by omega
      have FBx := Lib.hid (FB.out _ _ _ (hs.below ((Below.refl _ _).alloc (Nat.le_refl _) (.cells #[.int .u8 0] 5))))
      rw [HE.out, pk_words] at FBx
      have HB := Lib.hid hb
      have hmm : 8 ≤ (Mt.flat (ns T)).length := by rw [Mt.flat_len]; have := HN.out; simp [ns]; omega
      have hmx : (Mt.flat (ns T)).length ≤ 100000 := by rw [Mt.flat_len]; have := HN.out; simp [ns]; omega
      have HL := Lib.hid (u8s_len (Mt.flat (ns T)))
      rw [← HBS.out] at FBx hmm hmx HL
      have OL := Lib.hid (World.ownsRow_lit (size := 1) (e := 5) wr #[.int .u8 0] 1 (Nat.le_refl _) (by decide) rfl)
      clear hs hb
      go_wp2_with fail
      refine FBx.out.mono ?_
      rintro e w3 ⟨r, rfl, ho, b3⟩
      obtain ⟨q, cq, rfl⟩ := Go.Joins.ownsRow_form ho (by omega)
      have O3 := Lib.hid ho
      have B3 := Lib.hid b3
      have OL3 := Lib.hid (Rp.own_below OL.out b3)
      clear ho b3
      obtain ⟨m, hm⟩ : ∃ m, m = bs.length := ⟨_, rfl⟩
      rw [← hm] at O3 HL hmm hmx ⊢
      have HM := Lib.hid hm
      clear hm
      go_wp2_with (at_builtin; refine wpList_append_own _ rfl (.tmp 18) (.tmp 20) 22 rfl wr.heap.size 5 i0 (.int .u8 0) 1 1 Tryz.underlying22 hi hz0 hz1 hz2 rfl (by decide) _ _ _ rfl OL3.out ⟨q, 0, none⟩ m cq (u8s bs) rfl (by rw [HL.out]; omega) ?c1 ?c2 ?c3 ?c4 ?c5 ?_)
      case c1 => exact O3.out.cells rfl
      case c2 => intro u hu; simp [u8s] at hu; obtain ⟨x, _, rfl⟩ := hu; rfl
      case c3 => unfold maxLen; omega
      case c4 => omega
      case c5 => have := B3.out.size; simp at this; omega
      intro v' w4 ho4 hg4 _
      have B4 := Lib.hid (((HB.out.alloc HB.out.size _).trans (B3.out.mono (by have := HB.out.size; simp; omega))).grown hg4 (by have := HB.out.size; have := B3.out.size; simp at this; omega) (fun r hr => by have := HB.out.size; simp [Value.ownBlock] at hr; omega))
      have O4 := Lib.hid ho4
      clear ho4 hg4
      go_wp2_with fail
      go_ret
      refine ⟨_, rfl, ?_, B4.out⟩
      have := Go.Joins.ownsRow_le O4.out HB.out.size
      rw [HM.out, Nat.add_comm] at this
      exact this
end Ib
end Go.Proofs.YtjmddomkoholoaaGreatDoor

/- What Pack answers, by cases. -/
namespace Go.Proofs.YtjmddomkoholoaaGreatDoor
open Go.RowKit
namespace La
open Mt Wr Bm Pk Rp

theorem Packed.ok {w w' : World} {l : List Nat} {e : Ending} (h : Packed w l e w') (hS : Small l) : ∃ r, e = .returned (.tuple #[r, .int .i64 0]) ∧ w'.ownsRow w.heap.size 5 1 r (packs l).length (u8s (packs l)) ∧ Below w.heap.size w w' := by
  rcases h with ⟨_, h⟩ | ⟨h, _⟩
  · exact h
  · exact absurd hS h
theorem Packed.bad {w w' : World} {l : List Nat} {e : Ending} (h : Packed w l e w') (hS : ¬ Small l) : e = .returned (.tuple #[.slice none 0 0, .int .i64 3]) ∧ Below w.heap.size w w' := by
  rcases h with ⟨h, _⟩ | ⟨_, h⟩
  · exact absurd h hS
  · exact h
end La
end Go.Proofs.YtjmddomkoholoaaGreatDoor
