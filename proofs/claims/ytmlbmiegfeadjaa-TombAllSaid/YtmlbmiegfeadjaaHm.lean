/- The law TombAll. -/
import Derived.Test.YtmlbmiegfeadjaaHl
namespace Go.Proofs.Ytmlbmiegfeadjaa
open Go.RowKit
namespace Hm
open Jb Ca Cz Ga Gm Gn Gt Gu Gw Gx Gy Gz Hb Hc Hd He Hf Hg Hh Hi Hj Hk Hl

def tA (S : ByteArray) : Tmb := (S, ⟨#[]⟩, -9223372036854775808, 9223372036854775807)
/-- All columns of another series that have points. -/
def wt (S : ByteArray) (C : List Kp) : List Kp := C.filter fun c => decide (c.1.1 ≠ S) && !c.2.isEmpty
theorem wt_take (S : ByteArray) (C : List Kp) {k : Nat} (hk : k < C.length) : wt S (C.take (k + 1)) = wt S (C.take k) ++ (if (C.getD k c0).1.1 ≠ S ∧ (C.getD k c0).2 ≠ [] then [C.getD k c0] else []) := by
  unfold wt
  rw [List.take_add_one, List.getElem?_eq_getElem hk, List.getD_eq_getElem?_getD, List.getElem?_eq_getElem hk, List.filter_append]
  simp only [Option.toList_some, Option.getD_some]
  congr 1
  by_cases h1 : C[k].1.1 = S
  · simp [h1]
  · by_cases h2 : C[k].2 = []
    · simp [h1, h2]
    · have : C[k].2.isEmpty = false := by cases h : C[k].2 with
        | nil => exact absurd h h2
        | cons _ _ => rfl
      simp [h1, h2, this]
theorem keep_all (S : ByteArray) (k : Ky) (P : List Pnt) (h : ∀ x ∈ P, Wp x) : keep (cov [tA S] k) P = if k.1 = S then [] else P := by
  unfold keep
  have key : ∀ p ∈ P, cov [tA S] k p.1 = decide (S = k.1) := fun p hp => by
    obtain ⟨⟨h1, h2⟩, _⟩ := h p hp
    simp [cov, hit, tA, h1, h2]
  by_cases e : k.1 = S
  · rw [if_pos e, List.filter_eq_nil_iff]
    intro p hp
    rw [key p hp]; simp [e]
  · rw [if_neg e, List.filter_eq_self]
    intro p hp
    rw [key p hp]
    have e' : ¬ S = k.1 := fun h => e h.symm
    simp [e']
theorem tA_wt (S : ByteArray) : ∀ x ∈ [tA S], Wt x := fun x hx => by
  obtain rfl : x = tA S := by simpa using hx
  unfold Wt tA
  simp only; omega
theorem apl_all (S : ByteArray) (C : List Kp) (h : ∀ c ∈ C, ∀ x ∈ c.2, Wp x) : apl (cov [tA S]) C = wt S C := by
  unfold apl wt
  induction C with
  | nil => rfl
  | cons c r ih =>
    have h1 := keep_all S c.1 c.2 (h c (by simp))
    have h2 := ih (fun d hd => h d (by simp [hd]))
    simp only [List.map_cons, List.filter_cons]
    rw [h2, h1]
    by_cases e : c.1.1 = S
    · simp [e]
    · simp only [e, if_false, ne_eq, not_false_eq_true, decide_true, Bool.true_and]
theorem ci_wp {w : World} {v : Value} {C : List Kp} (h : Ci w v C) : ∀ c ∈ C, ∀ x ∈ c.2, Wp x := by
  intro c hc
  obtain ⟨i, hi, rfl⟩ := List.getElem_of_mem hc
  obtain ⟨_, _, _, h⟩ := h
  obtain ⟨_, _, _, _, _, _, _, _, _, _, _, hp⟩ := h i hi
  rw [List.getD_eq_getElem?_getD, List.getElem?_eq_getElem hi] at hp
  exact hp.1
/-- Columns of one's own, whose points lie elsewhere. -/
structure Wn (w0 w : World) (B : Nat) (v : Value) (R : List Col) : Prop where
  own : w.ownsRow B 53 3 v R.length (ccl R)
  rows : ∀ c ∈ R, (∃ ra rc, c.2.2 = .slice ra c.2.1.length rc) ∧ Pi w0 c.2.2 c.2.1 ∧ c.2.1.length * 40 ≤ 140737488355328
  bl : Below w0.heap.size w0 w
theorem wn_ci {w0 w : World} {B : Nat} {v : Value} {R : List Col} (H : Wn w0 w B v R) : Ci w v (tab R) := by
  obtain ⟨a, c, hv⟩ := own_forms H.own
  refine ⟨a, c, by rw [tab_len]; exact hv, fun i hi => ?_⟩
  rw [tab_len] at hi
  have o := H.own
  obtain ⟨b, c2, e⟩ := Go.Joins.ownsRow_form o (by omega)
  rw [hv] at e
  cases e
  rw [hv] at o
  have hc : R.length ≤ c := by
    rcases o.2 with ⟨e, _⟩ | ⟨_, _, _, e, _, _, hc, _⟩
    · cases e
    · cases e; exact hc
  obtain ⟨⟨ra, rc, hr⟩, r2, r3⟩ := H.rows _ (col_in hi)
  rw [tab_get, tab_len]
  rw [hr] at r2
  refine ⟨b, 0, ra, rc, rfl, hc, (Gt.own_lt o rfl).2, r3, ?_, ?_, ?_, r2.below H.bl⟩
  · rw [Nat.zero_add]; exact (o.cellAt (i * 3) (by omega)).trans (ccl_get R i 0 (by decide) hi)
  · rw [Nat.zero_add]; exact (o.cellAt (i * 3 + 1) (by omega)).trans (ccl_get R i 1 (by decide) hi)
  · rw [Nat.zero_add, ← hr]; exact (o.cellAt (i * 3 + 2) (by omega)).trans (ccl_get R i 2 (by decide) hi)
theorem Wn.snoc {w0 w w' : World} {B : Nat} {v v' : Value} {R : List Col} (H : Wn w0 w B v R) (c : Col) (hc : (∃ ra rc, c.2.2 = .slice ra c.2.1.length rc) ∧ Pi w0 c.2.2 c.2.1 ∧ c.2.1.length * 40 ≤ 140737488355328)
    (o : w'.ownsRow B 53 3 v' (R.length + 1) (ccl R ++ [.string c.1.1, .string c.1.2, c.2.2])) (b : Below w0.heap.size w0 w') : Wn w0 w' B v' (R ++ [c]) := by
  refine ⟨by rw [List.length_append, ccl_app]; exact o, fun d hd => ?_, b⟩
  rcases List.mem_append.1 hd with hd | hd
  · exact H.rows d hd
  · obtain rfl := List.mem_singleton.1 hd
    exact hc
theorem wt_len (S : ByteArray) (C : List Kp) : (wt S C).length ≤ C.length := List.length_filter_le _ _
set_option maxRecDepth 100000
set_option maxHeartbeats 8000000
theorem all8 (w : World) (cv : Value) (C : List Kp) (s0 : ByteArray) (which : Int) (hC : Ci w cv C) (hc : C.length * 56 ≤ 140737488355328) (_ : -9223372036854775808 ≤ which ∧ which ≤ 9223372036854775807) :
    Calls Try.prog 8 #[cv, .string s0, .int .i64 which] w fun e w' => e = .returned (.bool true) ∧ Below w.heap.size w w' := by
  obtain ⟨i0, hi, hz0, hz1, hz2⟩ := info_parts info53
  have A9 := Lib.hid (awake9 w)
  have WP := ci_wp hC
  have AP := Lib.hid (fun (y : World) (r : Value) (S : ByteArray) (hy : Below w.heap.size w y) (h : y.ownsRow 0 57 4 r 1 (tcs [tA S])) => apply18 y 0 r cv [tA S] C h (tA_wt S) (by simp) (hC.below hy) hc)
  have AW := Lib.hid (fun S => apl_all S C WP)
  have SM := Lib.hid (fun (y : World) v u (S : ByteArray) (h1 : Ci y v (wt S C)) (h2 : Ci y u (wt S C)) => same17 y v u (wt S C) h1 h2 (by have := wt_len S C; omega))
  obtain ⟨ca, cc, rfl, hat⟩ := hC
  obtain ⟨n, hN⟩ : ∃ n, n = C.length := ⟨_, rfl⟩
  have HN := Lib.hid hN
  have AT := Lib.hid (show ∀ i, i < n → ∃ b off ra rc, ca = some ⟨b, off, none⟩ ∧ n ≤ cc ∧ b < w.heap.size ∧ (C.getD i c0).2.length * 40 ≤ 140737488355328 ∧ (∀ y, Below w.heap.size w y → y.cell? ⟨b, off + i * 3, none⟩ = some (.string (C.getD i c0).1.1) ∧ y.cell? ⟨b, off + i * 3 + 1, none⟩ = some (.string (C.getD i c0).1.2) ∧ y.cell? ⟨b, off + i * 3 + 2, none⟩ = some (.slice ra (C.getD i c0).2.length rc)) ∧ Pi w (.slice ra (C.getD i c0).2.length rc) (C.getD i c0).2 from fun i hi => by
    obtain ⟨q, off, ra, rc, e, h1, h2, h3, h4, h5, h6, h7⟩ := hat i (by omega)
    exact ⟨q, off, ra, rc, e, by omega, h2, h3, fun y hy => ⟨(hy.cell h2).trans h4, (hy.cell h2).trans h5, (hy.cell h2).trans h6⟩, h7⟩)
  rw [← hN] at AP hc ⊢
  clear hat hN WP
  go_enter Try.func8, Try.ntmps8
  go_wp2_with fail
  refine A9.out.mono ?_
  rintro e w1 ⟨rfl, b1⟩
  have B1 := Lib.hid b1
  clear b1 A9
  by_cases h0 : n = 0
  · have hd0 : decide ((n : Int) > 0) = false := decide_eq_false (by omega)
    have HZ := Lib.hid h0
    have hd1 : ¬ (0 : Int) < (n : Int) := by omega
    clear h0
    go_upto_region 5 with (fail)
    clear hd0 hd1
    have hp := heap_alloc_new w1 (.cells #[.string s0, .string ⟨#[]⟩, .int .i64 (-9223372036854775808), .int .i64 9223372036854775807] 57)
    have bP := (Below.refl w1.heap.size w1).alloc (Nat.le_refl _) (.cells #[.string s0, .string ⟨#[]⟩, .int .i64 (-9223372036854775808), .int .i64 9223372036854775807] 57)
    have OW : (w1.alloc (.cells #[.string s0, .string ⟨#[]⟩, .int .i64 (-9223372036854775808), .int .i64 9223372036854775807] 57)).ownsRow 0 57 4 (.slice (some ⟨w1.heap.size, 0, none⟩) 1 1) 1 (tcs [tA s0]) := World.ownsRow_lit (size := 4) w1 #[.string s0, .string ⟨#[]⟩, .int .i64 (-9223372036854775808), .int .i64 9223372036854775807] 1 (Nat.zero_le _) (by decide) rfl
    have B1' := Lib.hid (B1.out.trans (bP.mono B1.out.size))
    have A2 := Lib.hid (AP.out (w1.alloc (.cells #[.string s0, .string ⟨#[]⟩, .int .i64 (-9223372036854775808), .int .i64 9223372036854775807] 57)) _ s0 B1'.out OW)
    clear hp bP OW AP
    go_wp2_with fail
    refine A2.out.mono ?_
    rintro e w2 ⟨r2, R2, rfl, t2, e2, b2⟩
    have T2 := Lib.hid t2
    have E2 := Lib.hid (show tab R2 = wt s0 C by rw [e2]; exact AW.out s0)
    have B2 := Lib.hid (B1'.out.trans (b2.mono B1'.out.size))
    clear t2 e2 b2 A2 AW
    go_wp2_with fail
    go_loopw [8, 38] (fun o i wr => ∃ k R, k ≤ n ∧ i = .int .i64 (k : Nat) ∧ Hid (Wn w wr w2.heap.size o R) ∧ Hid (tab R = wt s0 (C.take k)) ∧ Hid (Below w2.heap.size w2 wr)) (fun _ i _ => n - (intOf i).toNat)
    case atStart => exact ⟨0, [], Nat.zero_le _, rfl, Lib.hid ⟨World.ownsRow_nil _ _ _ _, (fun c hc => by cases hc), B2.out⟩, Lib.hid rfl, Lib.hid (Below.refl _ _)⟩
    case round =>
      obtain ⟨k, R, hk, rfl, HO, HT, HB⟩ := hrel
      obtain ⟨wa, rfl⟩ : ∃ wa, wa = wr := ⟨_, rfl⟩
      by_cases hkn : k < n
      case neg =>
        obtain rfl : k = n := by omega
        have S3 := Lib.hid (SM.out wa r2 u8 s0 (by rw [← E2.out]; exact ot_ci (T2.out.below HB.out)) (by
          have h := wn_ci HO.out
          rw [HT.out, List.take_of_length_le (by rw [HN.out]; exact Nat.le_refl _)] at h
          exact h))
        have B3 := Lib.hid (B2.out.trans (HB.out.mono B2.out.size))
        clear SM AT HO HT
        go_wp2_with fail
        refine S3.out.mono ?_
        rintro e w4 ⟨rfl, b4⟩
        have B4 := Lib.hid (B3.out.trans (b4.mono B3.out.size))
        clear b4
        go_wp2_with fail
        go_ret
        exact ⟨rfl, B4.out⟩
      exact absurd hkn (by rw [HZ.out]; omega)
  have hn0 : (0 : Int) < (n : Int) := by omega
  by_cases h2 : which.tmod 2 = 0
  · obtain ⟨I, hI, hIn⟩ : ∃ I : Nat, wrap64 ((IntKind.u64.wrap which).tmod (n : Int)) = (I : Int) ∧ I < n := by
      have e1 : 0 ≤ IntKind.u64.wrap which := by rw [IntKind.wrap_u64]; omega
      have e2 : (IntKind.u64.wrap which).tmod (n : Int) = (IntKind.u64.wrap which) % (n : Int) := Int.tmod_eq_emod_of_nonneg e1
      have e3 := Int.emod_nonneg (IntKind.u64.wrap which) (show (n : Int) ≠ 0 by omega)
      have e4 := Int.emod_lt_of_pos (IntKind.u64.wrap which) hn0
      refine ⟨((IntKind.u64.wrap which) % (n : Int)).toNat, ?_, by omega⟩
      rw [e2]
      unfold wrap64
      omega
    obtain ⟨b, off, ra, rc, hca, hnc, hb, _, hT, _⟩ := AT.out I hIn
    obtain ⟨x0, _, _⟩ := hT w1 B1.out
    subst hca
    generalize (C.getD I c0).1.1 = xs at x0
    clear hT
    go_upto_region 5 with (fail)
    clear x0
    have hp := heap_alloc_new w1 (.cells #[.string xs, .string ⟨#[]⟩, .int .i64 (-9223372036854775808), .int .i64 9223372036854775807] 57)
    have bP := (Below.refl w1.heap.size w1).alloc (Nat.le_refl _) (.cells #[.string xs, .string ⟨#[]⟩, .int .i64 (-9223372036854775808), .int .i64 9223372036854775807] 57)
    have OW : (w1.alloc (.cells #[.string xs, .string ⟨#[]⟩, .int .i64 (-9223372036854775808), .int .i64 9223372036854775807] 57)).ownsRow 0 57 4 (.slice (some ⟨w1.heap.size, 0, none⟩) 1 1) 1 (tcs [tA xs]) := World.ownsRow_lit (size := 4) w1 #[.string xs, .string ⟨#[]⟩, .int .i64 (-9223372036854775808), .int .i64 9223372036854775807] 1 (Nat.zero_le _) (by decide) rfl
    have B1' := Lib.hid (B1.out.trans (bP.mono B1.out.size))
    have A2 := Lib.hid (AP.out (w1.alloc (.cells #[.string xs, .string ⟨#[]⟩, .int .i64 (-9223372036854775808), .int .i64 9223372036854775807] 57)) _ xs B1'.out OW)
    clear hp bP OW AP
    go_wp2_with fail
    refine A2.out.mono ?_
    rintro e w2 ⟨r2, R2, rfl, t2, e2, b2⟩
    have T2 := Lib.hid t2
    have E2 := Lib.hid (show tab R2 = wt xs C by rw [e2]; exact AW.out xs)
    have B2 := Lib.hid (B1'.out.trans (b2.mono B1'.out.size))
    clear t2 e2 b2 A2 AW
    go_wp2_with fail
    go_loopw [8, 38] (fun o i wr => ∃ k R, k ≤ n ∧ i = .int .i64 (k : Nat) ∧ Hid (Wn w wr w2.heap.size o R) ∧ Hid (tab R = wt xs (C.take k)) ∧ Hid (Below w2.heap.size w2 wr)) (fun _ i _ => n - (intOf i).toNat)
    case atStart => exact ⟨0, [], Nat.zero_le _, rfl, Lib.hid ⟨World.ownsRow_nil _ _ _ _, (fun c hc => by cases hc), B2.out⟩, Lib.hid rfl, Lib.hid (Below.refl _ _)⟩
    case round =>
      obtain ⟨k, R, hk, rfl, HO, HT, HB⟩ := hrel
      obtain ⟨wa, rfl⟩ : ∃ wa, wa = wr := ⟨_, rfl⟩
      by_cases hkn : k < n
      case neg =>
        obtain rfl : k = n := by omega
        have S3 := Lib.hid (SM.out wa r2 u8 xs (by rw [← E2.out]; exact ot_ci (T2.out.below HB.out)) (by
          have h := wn_ci HO.out
          rw [HT.out, List.take_of_length_le (by rw [HN.out]; exact Nat.le_refl _)] at h
          exact h))
        have B3 := Lib.hid (B2.out.trans (HB.out.mono B2.out.size))
        clear SM AT HO HT
        go_wp2_with fail
        refine S3.out.mono ?_
        rintro e w4 ⟨rfl, b4⟩
        have B4 := Lib.hid (B3.out.trans (b4.mono B3.out.size))
        clear b4
        go_wp2_with fail
        go_ret
        exact ⟨rfl, B4.out⟩
      obtain ⟨b, off, ra, rc, hca, hnc, hb, hl40, hat, hpi⟩ := AT.out k hkn
      have b0a := B2.out.trans (HB.out.mono B2.out.size)
      obtain ⟨y0, y1, y2⟩ := hat wa b0a
      cases hca
      have KT := Lib.hid (wt_take xs C (k := k) (by rw [← HN.out]; exact hkn))
      have RL := Lib.hid (show R.length ≤ k by
        have h1 : R.length = (wt xs (C.take k)).length := by rw [← HT.out, tab_len]
        rw [h1]
        refine Nat.le_trans (wt_len _ _) ?_
        rw [List.length_take]; omega)
      obtain ⟨oa, oc, rfl⟩ := own_forms HO.out.own
      generalize C.getD k c0 = x at hl40 y0 y1 y2 hpi KT hat
      obtain ⟨⟨s, t⟩, P⟩ := x
      simp only at hl40 y0 y1 y2 hpi
      generalize hpl : P.length = l at hl40 y2 hpi hat
      have HPL := Lib.hid hpl
      have HPI := Lib.hid hpi
      clear hat hpl hpi
      by_cases hs : s = xs
      · have KT2 := Lib.hid (show wt xs (C.take (k + 1)) = wt xs (C.take k) by rw [KT.out, if_neg (fun h => h.1 hs), List.append_nil])
        have q1 : (s.toList == xs.toList) = true := by rw [hs]; simp
        clear KT hs AT
        go_wp2_with fail
        go_roundw
        case rel => exact ⟨k + 1, R, by omega, by go_num, Lib.hid HO.out, by rw [KT2.out]; exact HT, Lib.hid HB.out⟩
        case measure => simp [intOf]; omega
      have q1 : (s.toList == xs.toList) = false := toList_ne hs
      by_cases hP : P = []
      · have KT2 := Lib.hid (show wt xs (C.take (k + 1)) = wt xs (C.take k) by rw [KT.out, if_neg (fun h => h.2 hP), List.append_nil])
        obtain rfl : l = 0 := by rw [← HPL.out, hP]; rfl
        clear KT hs hP AT
        go_wp2_with fail
        go_roundw
        case rel => exact ⟨k + 1, R, by omega, by go_num, Lib.hid HO.out, by rw [KT2.out]; exact HT, Lib.hid HB.out⟩
        case measure => simp [intOf]; omega
      have KT2 := Lib.hid (show wt xs (C.take (k + 1)) = wt xs (C.take k) ++ [((s, t), P)] by rw [KT.out, if_pos ⟨hs, hP⟩])
      have hl0 : (0 : Int) < (l : Int) := by have := List.length_pos_iff.2 hP; have := HPL.out; omega
      have NEWC : ∀ j u, [Value.string s, .string t, .slice ra l rc][j]? = some u → (wa.alloc (.cells #[.string s, .string t, .slice ra l rc] 53)).cell? ((⟨wa.heap.size, 0, none⟩ : Addr).add j) = some u := fun j u hj => by
        have hb := heap_alloc_new wa (.cells #[.string s, .string t, .slice ra l rc] 53)
        match j, hj with
        | 0, hj => cases hj; exact cell_at hb 0
        | 1, hj => cases hj; exact cell_at hb 1
        | 2, hj => cases hj; exact cell_at hb 2
      have zb := HB.out.size
      have OWN := Lib.hid (HO.out.own.alloc (.cells #[.string s, .string t, .slice ra l rc] 53))
      have hbw : w2.heap.size ≤ (wa.alloc (.cells #[.string s, .string t, .slice ra l rc] 53)).heap.size := by simp; omega
      have hR9 := RL.out
      have NX := Lib.hid (show ∀ v' w6, w6.ownsRow w2.heap.size 53 3 v' (R.length + 1) (ccl R ++ [.string s, .string t, .slice ra l rc]) → (wa.alloc (.cells #[.string s, .string t, .slice ra l rc] 53)).grownBy w6 (Value.slice oa R.length oc).ownBlock → Wn w w6 w2.heap.size v' (R ++ [((s, t), P, .slice ra l rc)]) ∧ tab (R ++ [((s, t), P, .slice ra l rc)]) = wt xs (C.take (k + 1)) ∧ Below w2.heap.size w2 w6 from fun v' w6 h1 h2 => by
        have b6 := (HB.out.alloc zb (.cells #[.string s, .string t, .slice ra l rc] 53)).grown h2 hbw (fun j ej => (Gt.own_lt HO.out.own ej).1)
        exact ⟨HO.out.snoc ((s, t), P, .slice ra l rc) ⟨⟨ra, rc, by rw [HPL.out]⟩, HPI.out, by have := HPL.out; simp only; omega⟩ h1 (B2.out.trans (b6.mono B2.out.size)), by rw [tab_snoc, HT.out, KT2.out], b6⟩)
      have hP' : P ≠ [] := hP
      clear KT hs hP AT HO HT
      go_wp2_with (at_builtin; refine wpList_append_own _ rfl (.tmp 57) (.tmp 62) 38 rfl w2.heap.size 53 i0 _ 3 56 Try.underlying38 hi hz0 hz1 hz2 rfl (by decide) (.slice oa R.length oc) R.length (ccl R) (by simp [Act.eval]) OWN.out ⟨wa.heap.size, 0, none⟩ 1 1 [.string s, .string t, .slice ra l rc] rfl rfl NEWC ?c2 ?c3 ?c4 ?c5 ?_)
      case c2 => intro u hu; simp at hu; rcases hu with rfl | rfl | rfl <;> rfl
      case c3 => unfold maxLen; omega
      case c4 => omega
      case c5 => exact hbw
      intro v' w6 hown6 hgrow _
      have FN := Lib.hid (NX.out v' w6 hown6 hgrow)
      clear hown6 hgrow
      go_wp2_with fail
      go_roundw
      case rel => exact ⟨k + 1, _, by omega, by go_num, Lib.hid FN.out.1, Lib.hid FN.out.2.1, Lib.hid FN.out.2.2⟩
      case measure => simp [intOf]; omega
  · have h2' : (which.tmod 2 == 0) = false := by simpa using h2
    go_upto_region 5 with (fail)
    have hp := heap_alloc_new w1 (.cells #[.string s0, .string ⟨#[]⟩, .int .i64 (-9223372036854775808), .int .i64 9223372036854775807] 57)
    have bP := (Below.refl w1.heap.size w1).alloc (Nat.le_refl _) (.cells #[.string s0, .string ⟨#[]⟩, .int .i64 (-9223372036854775808), .int .i64 9223372036854775807] 57)
    have OW : (w1.alloc (.cells #[.string s0, .string ⟨#[]⟩, .int .i64 (-9223372036854775808), .int .i64 9223372036854775807] 57)).ownsRow 0 57 4 (.slice (some ⟨w1.heap.size, 0, none⟩) 1 1) 1 (tcs [tA s0]) := World.ownsRow_lit (size := 4) w1 #[.string s0, .string ⟨#[]⟩, .int .i64 (-9223372036854775808), .int .i64 9223372036854775807] 1 (Nat.zero_le _) (by decide) rfl
    have B1' := Lib.hid (B1.out.trans (bP.mono B1.out.size))
    have A2 := Lib.hid (AP.out (w1.alloc (.cells #[.string s0, .string ⟨#[]⟩, .int .i64 (-9223372036854775808), .int .i64 9223372036854775807] 57)) _ s0 B1'.out OW)
    clear hp bP OW AP
    go_wp2_with fail
    refine A2.out.mono ?_
    rintro e w2 ⟨r2, R2, rfl, t2, e2, b2⟩
    have T2 := Lib.hid t2
    have E2 := Lib.hid (show tab R2 = wt s0 C by rw [e2]; exact AW.out s0)
    have B2 := Lib.hid (B1'.out.trans (b2.mono B1'.out.size))
    clear t2 e2 b2 A2 AW
    go_wp2_with fail
    go_loopw [8, 38] (fun o i wr => ∃ k R, k ≤ n ∧ i = .int .i64 (k : Nat) ∧ Hid (Wn w wr w2.heap.size o R) ∧ Hid (tab R = wt s0 (C.take k)) ∧ Hid (Below w2.heap.size w2 wr)) (fun _ i _ => n - (intOf i).toNat)
    case atStart => exact ⟨0, [], Nat.zero_le _, rfl, Lib.hid ⟨World.ownsRow_nil _ _ _ _, (fun c hc => by cases hc), B2.out⟩, Lib.hid rfl, Lib.hid (Below.refl _ _)⟩
    case round =>
      obtain ⟨k, R, hk, rfl, HO, HT, HB⟩ := hrel
      obtain ⟨wa, rfl⟩ : ∃ wa, wa = wr := ⟨_, rfl⟩
      by_cases hkn : k < n
      case neg =>
        obtain rfl : k = n := by omega
        have S3 := Lib.hid (SM.out wa r2 u8 s0 (by rw [← E2.out]; exact ot_ci (T2.out.below HB.out)) (by
          have h := wn_ci HO.out
          rw [HT.out, List.take_of_length_le (by rw [HN.out]; exact Nat.le_refl _)] at h
          exact h))
        have B3 := Lib.hid (B2.out.trans (HB.out.mono B2.out.size))
        clear SM AT HO HT
        go_wp2_with fail
        refine S3.out.mono ?_
        rintro e w4 ⟨rfl, b4⟩
        have B4 := Lib.hid (B3.out.trans (b4.mono B3.out.size))
        clear b4
        go_wp2_with fail
        go_ret
        exact ⟨rfl, B4.out⟩
      obtain ⟨b, off, ra, rc, hca, hnc, hb, hl40, hat, hpi⟩ := AT.out k hkn
      have b0a := B2.out.trans (HB.out.mono B2.out.size)
      obtain ⟨y0, y1, y2⟩ := hat wa b0a
      cases hca
      have KT := Lib.hid (wt_take s0 C (k := k) (by rw [← HN.out]; exact hkn))
      have RL := Lib.hid (show R.length ≤ k by
        have h1 : R.length = (wt s0 (C.take k)).length := by rw [← HT.out, tab_len]
        rw [h1]
        refine Nat.le_trans (wt_len _ _) ?_
        rw [List.length_take]; omega)
      obtain ⟨oa, oc, rfl⟩ := own_forms HO.out.own
      generalize C.getD k c0 = x at hl40 y0 y1 y2 hpi KT hat
      obtain ⟨⟨s, t⟩, P⟩ := x
      simp only at hl40 y0 y1 y2 hpi
      generalize hpl : P.length = l at hl40 y2 hpi hat
      have HPL := Lib.hid hpl
      have HPI := Lib.hid hpi
      clear hat hpl hpi
      by_cases hs : s = s0
      · have KT2 := Lib.hid (show wt s0 (C.take (k + 1)) = wt s0 (C.take k) by rw [KT.out, if_neg (fun h => h.1 hs), List.append_nil])
        have q1 : (s.toList == s0.toList) = true := by rw [hs]; simp
        clear KT hs AT
        go_wp2_with fail
        go_roundw
        case rel => exact ⟨k + 1, R, by omega, by go_num, Lib.hid HO.out, by rw [KT2.out]; exact HT, Lib.hid HB.out⟩
        case measure => simp [intOf]; omega
      have q1 : (s.toList == s0.toList) = false := toList_ne hs
      by_cases hP : P = []
      · have KT2 := Lib.hid (show wt s0 (C.take (k + 1)) = wt s0 (C.take k) by rw [KT.out, if_neg (fun h => h.2 hP), List.append_nil])
        obtain rfl : l = 0 := by rw [← HPL.out, hP]; rfl
        clear KT hs hP AT
        go_wp2_with fail
        go_roundw
        case rel => exact ⟨k + 1, R, by omega, by go_num, Lib.hid HO.out, by rw [KT2.out]; exact HT, Lib.hid HB.out⟩
        case measure => simp [intOf]; omega
      have KT2 := Lib.hid (show wt s0 (C.take (k + 1)) = wt s0 (C.take k) ++ [((s, t), P)] by rw [KT.out, if_pos ⟨hs, hP⟩])
      have hl0 : (0 : Int) < (l : Int) := by have := List.length_pos_iff.2 hP; have := HPL.out; omega
      have NEWC : ∀ j u, [Value.string s, .string t, .slice ra l rc][j]? = some u → (wa.alloc (.cells #[.string s, .string t, .slice ra l rc] 53)).cell? ((⟨wa.heap.size, 0, none⟩ : Addr).add j) = some u := fun j u hj => by
        have hb := heap_alloc_new wa (.cells #[.string s, .string t, .slice ra l rc] 53)
        match j, hj with
        | 0, hj => cases hj; exact cell_at hb 0
        | 1, hj => cases hj; exact cell_at hb 1
        | 2, hj => cases hj; exact cell_at hb 2
      have zb := HB.out.size
      have OWN := Lib.hid (HO.out.own.alloc (.cells #[.string s, .string t, .slice ra l rc] 53))
      have hbw : w2.heap.size ≤ (wa.alloc (.cells #[.string s, .string t, .slice ra l rc] 53)).heap.size := by simp; omega
      have hR9 := RL.out
      have NX := Lib.hid (show ∀ v' w6, w6.ownsRow w2.heap.size 53 3 v' (R.length + 1) (ccl R ++ [.string s, .string t, .slice ra l rc]) → (wa.alloc (.cells #[.string s, .string t, .slice ra l rc] 53)).grownBy w6 (Value.slice oa R.length oc).ownBlock → Wn w w6 w2.heap.size v' (R ++ [((s, t), P, .slice ra l rc)]) ∧ tab (R ++ [((s, t), P, .slice ra l rc)]) = wt s0 (C.take (k + 1)) ∧ Below w2.heap.size w2 w6 from fun v' w6 h1 h2 => by
        have b6 := (HB.out.alloc zb (.cells #[.string s, .string t, .slice ra l rc] 53)).grown h2 hbw (fun j ej => (Gt.own_lt HO.out.own ej).1)
        exact ⟨HO.out.snoc ((s, t), P, .slice ra l rc) ⟨⟨ra, rc, by rw [HPL.out]⟩, HPI.out, by have := HPL.out; simp only; omega⟩ h1 (B2.out.trans (b6.mono B2.out.size)), by rw [tab_snoc, HT.out, KT2.out], b6⟩)
      have hP' : P ≠ [] := hP
      clear KT hs hP AT HO HT
      go_wp2_with (at_builtin; refine wpList_append_own _ rfl (.tmp 57) (.tmp 62) 38 rfl w2.heap.size 53 i0 _ 3 56 Try.underlying38 hi hz0 hz1 hz2 rfl (by decide) (.slice oa R.length oc) R.length (ccl R) (by simp [Act.eval]) OWN.out ⟨wa.heap.size, 0, none⟩ 1 1 [.string s, .string t, .slice ra l rc] rfl rfl NEWC ?c2 ?c3 ?c4 ?c5 ?_)
      case c2 => intro u hu; simp at hu; rcases hu with rfl | rfl | rfl <;> rfl
      case c3 => unfold maxLen; omega
      case c4 => omega
      case c5 => exact hbw
      intro v' w6 hown6 hgrow _
      have FN := Lib.hid (NX.out v' w6 hown6 hgrow)
      clear hown6 hgrow
      go_wp2_with fail
      go_roundw
      case rel => exact ⟨k + 1, _, by omega, by go_num, Lib.hid FN.out.1, Lib.hid FN.out.2.1, Lib.hid FN.out.2.2⟩
      case measure => simp [intOf]; omega
end Hm
end Go.Proofs.Ytmlbmiegfeadjaa
