import Derived.Test.YtjmddomkoholoaaGreatDoorG41
import Derived.Test.YtjmddomkoholoaaGreatDoorG17

/- The document's read: integers. -/
namespace Go.Proofs.YtjmddomkoholoaaGreatDoor
open Go.RowKit
namespace Qr
open Cm Wr Bm Rd Cv Vs Rw Rf Ro Qo Sz Pk Rx

theorem Qr_any {w : World} {B size n : Nat} {e : TypeId} {v : Value} {xs : List Value} (ho : w.ownsRow B e size v n xs) : ∃ a c, v = .slice a n c := by
  rcases Go.Joins.ownsRow_forms ho with ⟨rfl, h0⟩ | ⟨q, c, rfl⟩
  · exact ⟨none, 0, by rw [h0]⟩
  · exact ⟨_, _, rfl⟩
theorem num8_cons (m : Nat) (r : List Nat) (k : Nat) : Mt.num8 (m :: r) (k + 1) = Mt.num8 r k := by
  unfold Mt.num8
  simp only [show ∀ i, k + 1 + i = (k + i) + 1 from fun i => by omega, List.getD_cons_succ]
theorem rdk_steps {n m : Nat} {r l : List Nat} (h0 : m ≠ 0) (h : Mt.unpacks r (n : Int) = some l) : Rdk 2 n (m :: r) (mk 2 (acs 0 l)) := by
  by_cases h1 : m = 1
  · subst h1; exact Rdk.steps h
  · exact ⟨(Rdk.steps h).1, (Rdk.steps h).2.1, fun T hT => absurd hT (by
      intro hT
      rcases ints hT with ⟨h', _⟩ | ⟨h', _⟩
      · exact h0 h'
      · exact h1 h')⟩
theorem rdk_none {n m : Nat} {r : List Nat} (h0 : m ≠ 0) (h : Mt.unpacks r (n : Int) = none) : Rdk 2 n (m :: r) [] := by
  by_cases h1 : m = 1
  · subst h1; exact Rdk.steps_none h
  · exact Rdk.ints_other h0 h1

set_option maxRecDepth 100000 in
set_option maxHeartbeats 4000000 in
theorem qplain (w : World) (b off c : Nat) (r : List Nat) (n : Nat) (_hc : r.length + 1 ≤ c) (hcell : ∀ i, i < (0 :: r).length → w.cell? ⟨b, off + i, none⟩ = some (.int .u8 ((0 :: r).getD i 0 : Nat))) (hX : ∀ b ∈ r, b < 256) (hb : r.length ≤ 10000000000) (hn9 : n ≤ 1000) :
    Calls Tryz.prog 53 #[.int .i64 2, .int .i64 (n : Nat), .slice (some ⟨b, off, none⟩) (r.length + 1) c] w fun e w' => Rq w 2 n (0 :: r) e w' := by
  obtain ⟨i0, hi, hz0, hz1, hz2⟩ := info_parts info35
  have hbw : b < w.heap.size := cell_lt (hcell 0 (by simp))
  have e0 := hcell 0 (by simp)
  simp only [Nat.add_zero, List.getD_cons_zero] at e0
  have HR := Lib.hid (Rdk.plain (n := n) hX).2
  obtain ⟨L, hL⟩ : ∃ L, L = r.length + 1 := ⟨_, rfl⟩
  have hLl : (0 :: r).length = L := by simp [hL]
  have F1 := Lib.hid (fun (x : World) (hx : Below w.heap.size w x) (k : Nat) (hk : k < r.length / 8) => (show Calls Tryz.prog 20 #[.slice (some ⟨b, off, none⟩) L c, .int .i64 ((8 * k + 1 : Nat) : Int), .int .i64 8] x fun e w' => e = .returned (.int .u64 (word r k : Nat)) ∧ w' = x from by
    have h := Ry.readat17 x b off L c (0 :: r) (8 * k + 1) (by intro y hy; rcases List.mem_cons.1 hy with rfl | hy; decide; exact hX y hy) (by omega) (by omega) (fun i hi => (hx.cell (p := ⟨b, off + i, none⟩) hbw).trans (hcell i (by rw [hLl]; exact hi)))
    rw [num8_cons] at h
    have e : word r k = Mt.num8 r (8 * k) := by unfold word; rw [if_pos (by omega)]
    rw [e]
    exact h))
  have HW := Lib.hid (fun k => word_lt hX k)
  obtain ⟨Q, hQ⟩ : ∃ Q, Q = r.length / 8 := ⟨_, rfl⟩
  rw [← hQ] at F1 HR
  have hLQ : 8 * Q + 1 ≤ L ∧ L < 8 * Q + 9 := by omega
  have hL9 : L ≤ 10000000001 := by omega
  rw [← hL]
  clear hcell hX hb hL hLl hQ
  go_enter Tryz.func53, Tryz.ntmps53
  go_wp2_with fail
  go_loopw [7, 12] (fun x i wr => ∃ k P, P = 8 * k + 1 ∧ k ≤ min n Q ∧ i = .int .i64 (P : Nat) ∧ wr.ownsRow w.heap.size 35 3 x k (vcs (mk 2 (tab (word r) k))) ∧ Below w.heap.size w wr) (fun _ i _ => L - (intOf i).toNat)
  case atStart => exact ⟨0, 1, rfl, Nat.zero_le _, rfl, World.ownsRow_nil _ _ _ _, Below.refl _ _⟩
  case round =>
    obtain ⟨k, P, hP, hk, rfl, ho, hbl⟩ := hrel
    have HO := Lib.hid ho
    have HB := Lib.hid hbl
    have hbs := hbl.size
    have HP := Lib.hid hP
    have hP9 : P ≤ 10000000000 := by omega
    obtain ⟨ax, cx, hx⟩ := Qr_any ho
    subst hx
    by_cases hkm : k < min n Q
    · have F := Lib.hid (F1.out wr hbl k (by omega))
      have hwz := HW.out k
      have HT := Lib.hid (show mk 2 (tab (word r) (k + 1)) = mk 2 (tab (word r) k) ++ [(2, word r k, [])] from by rw [tab_succ, mk_snoc])
      obtain ⟨Z, hZ⟩ : ∃ Z, Z = word r k := ⟨_, rfl⟩
      rw [← hZ, ← hP] at F
      rw [← hZ] at HT hwz
      have hi1 : (P : Int) + 8 ≤ (L : Int) := by omega
      have hi2 : (k : Int) < (n : Int) := by omega
      have hPL := Lib.hid (show P + 8 ≤ L from by omega)
      have hkm' := Lib.hid hkm
      clear ho hbl hZ hkm hP hk
      go_wp2_with fail
      refine F.out.mono ?_
      rintro e w5 ⟨rfl, rfl⟩
      go_wp2_with (at_builtin; refine wpList_append_own _ rfl _ _ 57 rfl w.heap.size 35 i0 (.agg #[.int .i64 0, .int .u64 0, .string ⟨#[]⟩]) 3 32 Tryz.underlying57 hi hz0 hz1 hz2 rfl (by decide) _ _ _ rfl (HO.out.alloc _) ⟨w5.heap.size, 0, none⟩ 1 1 [.int .i64 2, .int .u64 (Z : Nat), .string ⟨#[]⟩] rfl rfl (cells3_new _ _ _ _ _) ?c2 ?c3 ?c4 ?c5 ?_)
      case c2 => intro u hu; simp at hu; rcases hu with rfl | rfl | rfl <;> rfl
      case c3 => unfold maxLen; omega
      case c4 => omega
      case c5 => simp; omega
      intro v6 w6 h6 g6 _
      have B6 := Lib.hid (Below.grown (HB.out.alloc hbs _) g6 (by simp; omega) (fun r hr => (HO.out.lt r hr).1))
      have O6 := Lib.hid h6
      clear h6 g6
      go_wp2_with fail
      go_roundw
      case rel => exact ⟨k + 1, P + 8, by have := HP.out; omega, by have := hkm'.out; omega, by go_num, by rw [HT.out, vcs_snoc, vcs_one_cell]; exact O6.out, B6.out⟩
      case measure => have := hPL.out; simp [intOf]; omega
    · have HE := Lib.hid (show Rq w 2 n (0 :: r) (.returned (.slice ax k cx)) wr from ⟨_, mk 2 (tab (word r) (min n Q)), rfl, by
        rw [mk_len, tab_len, show min n Q = k from by omega]
        exact HO.out, HR.out, HB.out⟩)
      by_cases hPL : P + 8 ≤ L
      · obtain rfl : k = n := by omega
        have hi1 : (P : Int) + 8 ≤ (L : Int) := by omega
        clear ho hbl hP hk
        go_wp2_with fail
        go_ret
        exact HE.out
      · have hi1 : ¬ (P : Int) + 8 ≤ (L : Int) := by omega
        clear ho hbl hP hk hPL
        go_wp2_with fail
        go_ret
        exact HE.out

set_option maxRecDepth 100000 in
set_option maxHeartbeats 4000000 in
theorem qsteps (w : World) (b off c m : Nat) (r : List Nat) (n : Nat) (hm : m ≠ 0) (hc : r.length + 1 ≤ c) (hcell : ∀ i, i < (m :: r).length → w.cell? ⟨b, off + i, none⟩ = some (.int .u8 ((m :: r).getD i 0 : Nat))) (hX : ∀ b ∈ r, b < 256) (hm9 : m < 256) (hb : r.length ≤ 10000000000) (hn1 : 1 ≤ n) (hn9 : n ≤ 1000) :
    Calls Tryz.prog 53 #[.int .i64 2, .int .i64 (n : Nat), .slice (some ⟨b, off, none⟩) (r.length + 1) c] w fun e w' => Rq w 2 n (m :: r) e w' := by
  obtain ⟨i0, hi, hz0, hz1, hz2⟩ := info_parts info35
  have e0 := hcell 0 (by simp)
  simp only [Nat.add_zero, List.getD_cons_zero] at e0
  obtain ⟨L, hL⟩ : ∃ L, L = r.length + 1 := ⟨_, rfl⟩
  have HD := Lib.hid (by_drop (k := 1) (c := c) (L := L) (by simp [hL]) (by omega) (by omega) hcell)
  have FU := Lib.hid (fun (x : World) (u : Value) (hu : Pl x u r) => (show Calls Tryz.prog 94 #[u, .int .i64 (n : Nat)] x fun e w' => ∃ l q er, e = .returned (.tuple #[q, .int .i64 er]) ∧ w'.ownsRow x.heap.size 33 1 q l.length (u64s l) ∧ (∀ k, l.getD k 0 < 18446744073709551616) ∧ Rdk 2 n (m :: r) (mk 2 (acs 0 l)) ∧ Below x.heap.size x w' from by
    have h := Lu.refunpack10 x u r (n : Nat) hu hX (by omega) (by omega) (by omega) (by omega)
    refine h.mono fun e w' hp => ?_
    cases hu' : Mt.unpacks r (n : Int) with
    | none =>
      obtain ⟨he, hb'⟩ := Lu.Unpacked.bad hp hu'
      exact ⟨[], _, _, he, World.ownsRow_nil _ _ _ _, by simp, rdk_none hm hu', hb'⟩
    | some l =>
      obtain ⟨hS, hln, q, he, ho, hb'⟩ := Lu.Unpacked.ok hp hu'
      exact ⟨l, q, _, he, ho, fun k => by have := hS.get k; omega, rdk_steps hm hu', hb'⟩))
  have HLN := Lib.hid (fun (l : List Nat) (h : Rdk 2 n (m :: r) (mk 2 (acs 0 l))) => (show l.length ≤ n from by have := h.1; rw [mk_len, acs_len] at this; exact this))
  have hm0 : ((m : Int) == 0) = false := by rw [beq_eq_false_iff_ne]; omega
  have hwm : IntKind.u8.wrap (m : Int) = (m : Int) := by rw [IntKind.wrap_u8]; omega
  have HP := Lib.hid (show (¬ c = 1 → Pl w (.slice (some ⟨b, off + 1, none⟩) (L - 1) (c - 1)) r) ∧ (L = 1 → ∀ a z, Pl w (.slice a 0 z) r) from ⟨fun _ => HD.out.2, fun h a z => .inl ⟨List.length_eq_zero_iff.1 (by omega), a, z, rfl⟩⟩)
  rw [← hL] at hc ⊢
  have hLi : ¬ (L : Int) < 1 := by omega
  have hL1 : 1 ≤ L := by omega
  have hL9 : L ≤ 10000000001 := by omega
  clear hcell hX hb hL HD
  by_cases hc1 : c = 1
  case' pos =>
    have hLo : L = 1 := by omega
    have F := Lib.hid (fun a z => FU.out _ _ (HP.out.2 hLo a z))
    subst hc1
    subst hLo
    clear HP FU
    go_enter Tryz.func53, Tryz.ntmps53
    go_wp2_with fail
    refine (F.out _ _).mono ?_
    clear F
  case' neg =>
    have F := Lib.hid (FU.out _ _ (HP.out.1 hc1))
    clear HP FU
    go_enter Tryz.func53, Tryz.ntmps53
    go_wp2_with fail
    refine F.out.mono ?_
    clear F
  all_goals
    rintro e w1 ⟨l, q, er, rfl, o1, h60, hR, b1⟩
    obtain ⟨aq, cq, hq⟩ := Qr_any o1
    subst hq
    have HC := Lib.hid (fun k (hk : k < l.length) => (show ∃ g, aq = some ⟨g, 0, none⟩ ∧ g < w1.heap.size ∧ w1.cell? ⟨g, k, none⟩ = some (.int .u64 (l.getD k 0 : Nat)) from by
      obtain ⟨g, c', he⟩ := Go.Joins.ownsRow_form o1 (by omega)
      cases he
      exact ⟨g, rfl, (o1.lt g rfl).2, by rw [o1.cellAt k (by omega)]; exact u64s_get _ _ hk⟩))
    have HR := Lib.hid hR
    have B1 := Lib.hid b1
    have H60 := Lib.hid h60
    have hln := HLN.out l hR
    obtain ⟨N, hN⟩ : ∃ N, N = l.length := ⟨_, rfl⟩
    rw [← hN] at HC hln ⊢
    have HNL := Lib.hid hN
    clear o1 h60 hR b1 hN
    go_wp2_with fail
    go_loopw [7, 15, 140] (fun x a i wr => ∃ k, k ≤ N ∧ i = .int .i64 (k : Nat) ∧ a = .int .u64 (asum 0 (l.take k) : Nat) ∧ wr.ownsRow w1.heap.size 35 3 x k (vcs (mk 2 (acs 0 (l.take k)))) ∧ Below w1.heap.size w1 wr) (fun _ _ i _ => N - (intOf i).toNat)
    case atStart => exact ⟨0, Nat.zero_le _, rfl, rfl, World.ownsRow_nil _ _ _ _, Below.refl _ _⟩
    case round =>
      obtain ⟨k, hk, rfl, rfl, ho, hbl⟩ := hrel
      by_cases hkn : k < N
      · obtain ⟨gr, hgr, hgw, hcc⟩ := HC.out k hkn
        subst hgr
        have e24 : wr.cell? ⟨gr, k, none⟩ = some (.int .u64 (l.getD k 0 : Nat)) := (hbl.cell (p := ⟨gr, k, none⟩) hgw).trans hcc
        have hs60 := H60.out k
        have F93 := Lib.hid (fun y => zag25 (l.getD k 0 : Nat) (by omega) (by omega) y)
        have hA := asum_lt (l.take k) 0 (by decide)
        have hsn := asum_snoc (l.take k) (l.getD k 0) 0
        have hac := acs_snoc (l.take k) (l.getD k 0) 0
        rw [← take_snoc (by rw [← HNL.out]; exact hkn)] at hsn hac
        obtain ⟨A, hAe⟩ : ∃ A, A = asum 0 (l.take k) := ⟨_, rfl⟩
        obtain ⟨Z, hZe⟩ : ∃ Z, Z = asum 0 (l.take (k + 1)) := ⟨_, rfl⟩
        obtain ⟨D, hDe⟩ : ∃ D, D = l.getD k 0 := ⟨_, rfl⟩
        rw [← hAe] at hA hsn ⊢
        rw [← hZe] at hsn hac
        rw [← hDe] at e24 F93 hsn hs60
        have hzin := zag_in (D : Nat) (by omega) (by omega)
        obtain ⟨G, hG⟩ : ∃ G, G = zag (D : Nat) := ⟨_, rfl⟩
        rw [← hG] at F93 hsn hzin
        have hadd : IntKind.u64.wrap ((A : Int) + IntKind.u64.wrap G) = (Z : Int) := by
          rw [hsn, IntKind.wrap_u64, IntKind.wrap_u64]
          omega
        have HO := Lib.hid ho
        have HBL := Lib.hid hbl
        have HAC := Lib.hid hac
        have HZE := Lib.hid hZe
        clear ho hbl hac hZe hAe hDe hG hsn hcc
        go_wp2_with fail
        refine (F93.out _).mono ?_
        rintro e w5 ⟨rfl, rfl⟩
        go_wp2_with (at_builtin; refine wpList_append_own _ rfl _ _ 57 rfl w1.heap.size 35 i0 (.agg #[.int .i64 0, .int .u64 0, .string ⟨#[]⟩]) 3 32 Tryz.underlying57 hi hz0 hz1 hz2 rfl (by decide) _ _ _ rfl (HO.out.alloc _) ⟨w5.heap.size, 0, none⟩ 1 1 [.int .i64 2, .int .u64 (Z : Nat), .string ⟨#[]⟩] rfl rfl (cells3_new _ _ _ _ _) ?c2 ?c3 ?c4 ?c5 ?_)
        case c2 => intro u hu; simp at hu; rcases hu with rfl | rfl | rfl <;> rfl
        case c3 => unfold maxLen; omega
        case c4 => omega
        case c5 => have := HBL.out.size; simp; omega
        intro v6 w6 h6 g6 _
        have HE := Lib.hid (show w6.ownsRow w1.heap.size 35 3 v6 (k + 1) (vcs (mk 2 (acs 0 (l.take (k + 1))))) ∧ Below w1.heap.size w1 w6 from ⟨by rw [HAC.out, mk_snoc, vcs_snoc, vcs_one_cell]; exact h6,
          (HBL.out.alloc HBL.out.size _).grown g6 (by have := HBL.out.size; simp; omega) (fun r hr => (HO.out.lt r hr).1)⟩)
        clear h6 g6
        go_wp2_with fail
        go_roundw
        case rel => exact ⟨k + 1, by omega, by go_num, by rw [HZE.out], HE.out.1, HE.out.2⟩
        case measure => simp [intOf]; omega
      · obtain rfl : k = N := by omega
        have hl : l.take k = l := List.take_of_length_le (by rw [← HNL.out]; exact Nat.le_refl _)
        rw [hl] at ho
        have h3 : (mk 2 (acs 0 l)).length = k := by rw [mk_len, acs_len, HNL.out]
        have HE := Lib.hid (show Rq w 2 n (m :: r) (.returned u7) wr from ⟨_, mk 2 (acs 0 l), rfl, by rw [h3]; exact Go.Joins.ownsRow_le ho B1.out.size, HR.out, B1.out.trans (hbl.mono B1.out.size)⟩)
        clear ho hbl hl h3
        go_wp2_with fail
        go_ret
        exact HE.out
end Qr
end Go.Proofs.YtjmddomkoholoaaGreatDoor
