import Derived.Test.YtjmddomkoholoaaGreatDoorG13
import Derived.Lib.AppendStr
import Derived.Test.YtjmddomkoholoaaGreatDoorG03
import Derived.Test.YtjmddomkoholoaaGreatDoorG09

/- laid: texts behind their lengths. -/
namespace Go.Proofs.YtjmddomkoholoaaGreatDoor
open Go.RowKit
namespace Ld
open Cm Wr Bm Vs Fo Cv Fl Rx

def Y (T : List Vl) (k : Nat) : List Nat := (T.getD k z0).2.2
theorem ts_take (T : List Vl) (k : Nat) (h : k < T.length) : (ts T).take (k + 1) = (ts T).take k ++ [Y T k] := by
  have hl : k < (ts T).length := by simpa [ts] using h
  rw [List.take_add_one, List.getElem?_eq_getElem hl]
  congr 1
  simp [Y, ts, List.getD_eq_getElem?_getD, h]
def tl (T : List Vl) (k : Nat) : List Nat := laidT ((ts T).take k)
theorem tl_zero (T : List Vl) : tl T 0 = [] := by simp [tl, laidT]
theorem tl_succ {T : List Vl} {k : Nat} (h : k < T.length) : tl T (k + 1) = tl T k ++ short (Y T k).length ++ Y T k := by
  unfold tl
  rw [ts_take T k h, laidT_snoc, List.append_assoc]
theorem tl_end {T : List Vl} {k : Nat} (h : k = T.length) : tl T k = laidT (ts T) := by
  unfold tl
  rw [List.take_of_length_le (by simp [ts]; omega)]
theorem tl_le {T : List Vl} (k : Nat) : (tl T k).length ≤ (laidT (ts T)).length := by
  have h : laidT (ts T) = tl T k ++ laidT ((ts T).drop k) := by unfold tl; rw [← laidT_app, List.take_append_drop]
  rw [h, List.length_append]
  omega
theorem Y_lt {T : List Vl} (h : ∀ v ∈ T, Wv v) (k : Nat) : ∀ x ∈ Y T k, x < 256 := (getD_wv h k).2.2.2
theorem tl_lt {T : List Vl} (h : ∀ v ∈ T, Wv v) (hY : ∀ k, (Y T k).length ≤ 65536) : ∀ {k : Nat}, k ≤ T.length → ∀ x ∈ tl T k, x < 256 := by
  intro k
  induction k with
  | zero => intro _ x hx; rw [tl_zero] at hx; simp at hx
  | succ k ih =>
    intro hk x hx
    rw [tl_succ (by omega)] at hx
    rcases List.mem_append.1 hx with hx | hx
    · rcases List.mem_append.1 hx with hx | hx
      · exact ih (by omega) x hx
      · exact short_lt (by have := hY k; omega) x hx
    · exact Y_lt h k x hx
theorem tl_len {T : List Vl} (hY : ∀ k, (Y T k).length ≤ 65536) : ∀ {k : Nat}, k ≤ T.length → (tl T k).length ≤ 65546 * k := by
  intro k
  induction k with
  | zero => intro _; rw [tl_zero]; simp
  | succ k ih =>
    intro hk
    rw [tl_succ (by omega), List.length_append, List.length_append]
    have := ih (by omega)
    have := hY k
    have := short_len (Y T k).length
    omega
theorem short69 (w : World) (n : Nat) (hn : n < 18446744073709551616) : Calls Tryz.prog 163 #[.int .u64 (n : Nat)] w fun e w' => ∃ g c, e = .returned (.slice (some ⟨g, 0, none⟩) (short n).length c) ∧ w'.ownsRow w.heap.size 5 1 (.slice (some ⟨g, 0, none⟩) (short n).length c) (short n).length (u8s (short n)) ∧ Below w.heap.size w w' := by
  refine (Sw.short26 n hn w).mono ?_
  rintro e w' ⟨v, l, rfl, h, ho, bl⟩
  obtain rfl := h.unique (short_is hn)
  obtain ⟨q, c, rfl⟩ := Go.Joins.ownsRow_form ho (by have := short_len n; omega)
  exact ⟨q, c, rfl, ho, bl⟩
theorem strCells_str (t : List Nat) (h : ∀ x ∈ t, x < 256) : Lib.strCells (str t) = u8s t := by
  unfold Lib.strCells str u8s
  rw [strOfNums_data]
  simp only [List.map_map]
  apply List.map_congr_left
  intro x hx
  have := h x hx
  simp [Function.comp, Nat.mod_eq_of_lt this]

set_option maxRecDepth 100000 in
set_option maxHeartbeats 4000000 in
theorem laid48 (w : World) (v : Value) (T : List Vl) (h : Vi w v T) (h0 : 0 < T.length) (hl : T.length ≤ 1000) (hY : ∀ k, (Y T k).length ≤ 65536) :
    Calls Tryz.prog 138 #[v] w fun e w' => (((laidT (ts T)).length ≤ 4194304 ∧ ∃ r, e = .returned (.tuple #[r, .bool true]) ∧ w'.ownsRow w.heap.size 5 1 r (laidT (ts T)).length (u8s (laidT (ts T)))) ∨
      (4194304 < (laidT (ts T)).length ∧ e = .returned (.tuple #[.slice none 0 0, .bool false]))) ∧ Below w.heap.size w w' := by
  obtain ⟨i0, hi, hz0, hz1, hz2⟩ := info_parts info5
  have HW := Lib.hid h.1
  rcases h.cases with ⟨a, c, rfl, rfl⟩ | ⟨hL0, b, off, c, rfl, hc1, hc2, hc3⟩
  · simp at h0
  obtain ⟨n, hn⟩ : ∃ n, n = T.length := ⟨_, rfl⟩
  have HE := Lib.hid (tl_end hn)
  have HLE := Lib.hid (@tl_le T)
  obtain ⟨R, hR⟩ : ∃ R, R = laidT (ts T) := ⟨_, rfl⟩
  rw [← hR] at HE HLE ⊢
  rw [← hn] at hc1 hc3 hl h0 ⊢
  have HC := Lib.hid hc3
  have HN := Lib.hid hn
  have HY := Lib.hid hY
  have HTL := Lib.hid (fun k (hk : k ≤ n) => tl_len hY (k := k) (by rw [← hn]; exact hk))
  clear h hc3 hn hL0 hR hY
  go_enter Tryz.func138, Tryz.ntmps138
  go_wp2_with fail
  go_loopw [4, 9] (fun s i wr => ∃ k, k ≤ n ∧ i = .int .i64 (k : Nat) ∧ wr.ownsRow w.heap.size 5 1 s (tl T k).length (u8s (tl T k)) ∧ (tl T k).length ≤ 4194304 ∧ Below w.heap.size w wr) (fun _ i _ => n - (intOf i).toNat)
  case atStart => exact ⟨0, Nat.zero_le _, rfl, by rw [tl_zero]; exact World.ownsRow_nil _ _ _ _, by rw [tl_zero]; simp, Below.refl _ _⟩
  case round =>
    obtain ⟨k, hk, rfl, ho, hlen, hb⟩ := hrel
    by_cases hkn : k < n
    · obtain ⟨e1, e2, e3⟩ := (HC.out k hkn).of_block (hb.block b hc2)
      have hYY : (T.getD k z0).2.2 = Y T k := rfl
      rw [hYY] at e3
      have hy := HY.out k
      have es := str_size (Y T k)
      have F69 := Lib.hid (fun y => short69 y (Y T k).length (by omega))
      have HSC := Lib.hid (strCells_str (Y T k) (Y_lt HW.out k))
      have HST := Lib.hid (tl_succ (T := T) (k := k) (by rw [← HN.out]; omega))
      have hsl := short_len (Y T k).length
      have HL5 := Lib.hid (u8s_len (short (Y T k).length))
      obtain ⟨L, hL⟩ : ∃ L, L = (Y T k).length := ⟨_, rfl⟩
      obtain ⟨S1, hS1⟩ : ∃ S1, S1 = str (Y T k) := ⟨_, rfl⟩
      rw [← hL] at hy es F69 hsl HL5 HST
      rw [← hS1] at e3 es HSC
      obtain ⟨ss, hss⟩ : ∃ ss, ss = short L := ⟨_, rfl⟩
      rw [← hss] at F69 HST hsl HL5
      obtain ⟨q, hq⟩ : ∃ q, q = ss.length := ⟨_, rfl⟩
      rw [← hq] at F69 hsl HL5
      obtain ⟨p, hp⟩ : ∃ p, p = (tl T k).length := ⟨_, rfl⟩
      rw [← hp] at ho hlen
      have HP := Lib.hid (And.intro hp (And.intro hq hL))
      obtain ⟨K1, hK1⟩ : ∃ K1, K1 = (T.getD k z0).1 := ⟨_, rfl⟩
      obtain ⟨N1, hN1⟩ : ∃ N1, N1 = (T.getD k z0).2.1 := ⟨_, rfl⟩
      rw [← hK1] at e1
      rw [← hN1] at e2
      have HO := Lib.hid ho
      have HB := Lib.hid hb
      clear ho hb hK1 hN1 hL hS1 hss hq hp hYY
      go_wp2_with fail
      refine (F69.out _).mono ?_
      rintro e w5 ⟨g5, c5, rfl, o5, b5⟩
      have HB5 := Lib.hid ((HB.out.alloc HB.out.size _).trans (b5.mono (by have := HB.out.size; simp; omega)))
      have O5 := Lib.hid o5
      have HO5 := Lib.hid (Rp.own_below (HO.out.alloc _) b5)
      have f3 := (b5.cell (p := ⟨wr.heap.size, 2, none⟩) (by simp)).trans (new_cell wr _ 35 2 _ rfl)
      have HSZ := Lib.hid (show wr.heap.size + 1 ≤ w5.heap.size from by have := b5.size; simpa using this)
      clear o5 b5
      go_wp2_with (at_builtin; refine wpList_append_own _ rfl (.tmp 13) (.tmp 18) 22 rfl w.heap.size 5 i0 (.int .u8 0) 1 1 Tryz.underlying22 hi hz0 hz1 hz2 rfl (by decide) _ _ _ rfl HO5.out ⟨g5, 0, none⟩ q c5 (u8s ss) rfl (by rw [HL5.out]; omega) ?c1 ?c2 ?c3 ?c4 ?c5 ?_)
      case c1 => exact O5.out.cells rfl
      case c2 => intro u hu; simp [u8s] at hu; obtain ⟨x, _, rfl⟩ := hu; rfl
      case c3 => unfold maxLen; omega
      case c4 => omega
      case c5 => exact HB5.out.size
      intro v6 w6 ho6 hg6 _
      have HB6 := Lib.hid (HB5.out.grown hg6 HB5.out.size (fun r hr => (HO.out.lt r hr).1))
      have f6 := hg6.cell f3 (fun e => by have h9 := (HO.out.lt wr.heap.size e.symm).2; omega)
      have HO6 := Lib.hid ho6
      clear ho6 hg6 f3
      go_wp2_with (at_builtin; refine Lib.wpList_append_own_string _ rfl (.tmp 20) _ 22 9 rfl w.heap.size 5 i0 Tryz.underlying22 Tryz.underlying9 hi hz0 hz1 hz2 _ _ _ rfl HO6.out S1 rfl ?c1 ?c2 ?c3 ?_)
      case c1 => rw [es]; unfold maxLen; omega
      case c2 => rw [es]; omega
      case c3 => exact HB6.out.size
      intro v7 w7 ho7 hg7 _
      have HB7 := Lib.hid (HB6.out.grown hg7 HB6.out.size (fun r hr => (HO6.out.lt r hr).1))
      have HT7 : Hid ((tl T (k + 1)).length = p + q + L ∧ u8s (tl T k) ++ (u8s ss ++ Lib.strCells S1) = u8s (tl T (k + 1))) := Lib.hid ⟨by
        rw [HST.out, List.length_append, List.length_append, ← HP.out.1, ← HP.out.2.1, ← HP.out.2.2], by rw [HSC.out, HST.out]; simp [u8s]⟩
      rw [HT7.out.2] at ho7
      have HO7 := Lib.hid ho7
      have hform : ∃ a, ∃ c, v7 = .slice a (p + q + L) c := by
        obtain ⟨g, c, rfl⟩ := Go.Joins.ownsRow_form ho7 (by omega)
        exact ⟨_, _, rfl⟩
      obtain ⟨a7, c7, rfl⟩ := hform
      have hle := HLE.out (k + 1)
      rw [HT7.out.1] at hle
      clear ho7 hg7 f6
      by_cases hbig : 4194304 < p + q + L
      · go_wp2_with fail
        go_ret2
        exact ⟨.inr ⟨by omega, rfl⟩, HB7.out⟩
      · go_wp2_with fail
        go_roundw
        case rel => exact ⟨k + 1, by omega, by go_num, by rw [HT7.out.1]; exact HO7.out, by rw [HT7.out.1]; omega, HB7.out⟩
        case measure => simp [intOf]; omega
    · obtain rfl : k = n := by omega
      have HO := Lib.hid ho
      have HB := Lib.hid hb
      rw [HE.out] at hlen
      have HL := Lib.hid hlen
      clear ho hb hlen
      go_wp2_with fail
      go_ret2
      refine ⟨.inl ⟨HL.out, _, rfl, ?_⟩, HB.out⟩
      have := HO.out
      rw [HE.out] at this
      exact this
end Ld
end Go.Proofs.YtjmddomkoholoaaGreatDoor

/- stringBytes. -/
namespace Go.Proofs.YtjmddomkoholoaaGreatDoor
open Go.RowKit
namespace Ld
open Cm Wr Bm Vs Fo Cv Fl Rx

theorem lz49 (w : World) (B : Nat) (v : Value) (b : List Nat) (h : w.ownsRow B 5 1 v b.length (u8s b)) (hX : ∀ x ∈ b, x < 256) (hl : b.length ≤ 1000000000) :
    Calls Tryz.prog 139 #[v] w fun e w' => ∃ r, e = .returned r ∧ w'.ownsRow w.heap.size 5 1 r (Lm.packs b).length (u8s (Lm.packs b)) ∧ Below w.heap.size w w' :=
  Pa.pack7 w _ v b (Bs.src_own h) hX (by omega)
/-- What stringBytes answers. -/
def senc (B : List Nat) : Nat × List Nat := if 4194304 < B.length then (4, []) else (0, sbytes B)

set_option maxRecDepth 100000 in
set_option maxHeartbeats 4000000 in
theorem strings26 (w : World) (v : Value) (T : List Vl) (h : Vi w v T) (h0 : 0 < T.length) (hl : T.length ≤ 1000) (hY : ∀ k, (Y T k).length ≤ 65536) :
    Calls Tryz.prog 91 #[v] w fun e w' => ∃ r, e = .returned (.tuple #[r, .int .i64 ((senc (laidT (ts T))).1 : Nat)]) ∧ w'.ownsRow w.heap.size 5 1 r (senc (laidT (ts T))).2.length (u8s (senc (laidT (ts T))).2) ∧ Below w.heap.size w w' := by
  obtain ⟨i0, hi, hz0, hz1, hz2⟩ := info_parts info5
  have F48 := Lib.hid (laid48 w v T h h0 hl hY)
  have hX := tl_lt h.1 hY (k := T.length) (Nat.le_refl _)
  rw [tl_end rfl] at hX
  have hpos : 0 < (laidT (ts T)).length := by
    have h1 := tl_le (T := T) 1
    rw [tl_succ (k := 0) h0, List.length_append, List.length_append] at h1
    have := short_len (Y T 0).length
    omega
  have HX := Lib.hid hX
  obtain ⟨B, hB⟩ : ∃ B, B = laidT (ts T) := ⟨_, rfl⟩
  rw [← hB] at F48 HX hpos ⊢
  obtain ⟨a, c, rfl⟩ := h.forms
  clear h h0 hl hY hX hB
  by_cases hbig : 4194304 < B.length
  · have es : senc B = (4, []) := if_pos hbig
    rw [es]
    have FK := Lib.hid (F48.out.mono fun e w' hp => (show e = .returned (.tuple #[.slice none 0 0, .bool false]) ∧ Below w.heap.size w w' from ⟨hp.1.elim (fun h => by omega) (fun h => h.2), hp.2⟩))
    clear F48 es hbig
    go_enter Tryz.func91, Tryz.ntmps91
    go_wp2_with (go_at_call 138; refine FK.out.mono ?_; rintro e w2 ⟨rfl, b2⟩)
    go_ret2
    exact ⟨_, rfl, World.ownsRow_nil _ _ _ _, b2⟩
  · have es : senc B = (0, sbytes B) := if_neg hbig
    rw [es]
    have FK := Lib.hid (F48.out.mono fun e w' hp => (show (∃ g c, e = .returned (.tuple #[.slice (some ⟨g, 0, none⟩) B.length c, .bool true]) ∧ w'.ownsRow w.heap.size 5 1 (.slice (some ⟨g, 0, none⟩) B.length c) B.length (u8s B)) ∧ Below w.heap.size w w' from ⟨hp.1.elim (fun h => by
      obtain ⟨_, r, h1, h2⟩ := h
      obtain ⟨q, cq, rfl⟩ := Go.Joins.ownsRow_form h2 hpos
      exact ⟨q, cq, h1, h2⟩) (fun h => by omega), hp.2⟩))
    have FZ := Lib.hid (fun (y : World) (g c : Nat) (h1 : y.ownsRow w.heap.size 5 1 (.slice (some ⟨g, 0, none⟩) B.length c) B.length (u8s B)) => lz49 y w.heap.size (.slice (some ⟨g, 0, none⟩) B.length c) B h1 HX.out (by omega))
    have hpl := Lm.packs_len B
    have hpp : 0 < (Lm.packs B).length := by
      rcases Nat.eq_zero_or_pos (Lm.packs B).length with h | h
      · have hu := Lu.unp_packs (b := B) (most := 4194304) (by omega)
        rw [List.length_eq_zero_iff.1 h, Lu.unp_nil] at hu
        cases hu
        simp at hpos
      · exact h
    obtain ⟨ob, hob⟩ : ∃ ob, ob = sbytes B := ⟨_, rfl⟩
    rw [← hob]
    unfold sbytes at hob
    have HLB := Lib.hid (u8s_len B)
    have HLP := Lib.hid (u8s_len (Lm.packs B))
    obtain ⟨ps, hps⟩ : ∃ ps, ps = Lm.packs B := ⟨_, rfl⟩
    rw [← hps] at FZ hpl hpp HLP hob
    obtain ⟨m, hm⟩ : ∃ m, m = B.length := ⟨_, rfl⟩
    obtain ⟨p, hp⟩ : ∃ p, p = ps.length := ⟨_, rfl⟩
    rw [← hm] at FK FZ hpl hbig hob HLB hpos
    rw [← hp] at FZ hpl hpp hob HLP
    have HM := Lib.hid (And.intro hm hp)
    clear F48 es hps hm hp
    by_cases hs : p < m
    · rw [if_pos hs] at hob
      subst hob
      go_enter Tryz.func91, Tryz.ntmps91
      go_wp2_with fail
      refine FK.out.mono ?_
      rintro e w2 ⟨⟨g, cg, rfl, o2⟩, b2⟩
      have B2 := Lib.hid b2
      have F2 := Lib.hid (FZ.out _ _ _ o2)
      clear b2 o2
      go_wp2_with fail
      refine F2.out.mono ?_
      rintro e w3 ⟨r3, rfl, o3, b3⟩
      obtain ⟨q, cq, rfl⟩ := Go.Joins.ownsRow_form o3 hpp
      have O3 := Lib.hid (o3.alloc (.cells #[.int .u8 1] 5))
      have B3 := Lib.hid (B2.out.trans (b3.mono B2.out.size))
      have OL := Lib.hid (World.ownsRow_lit (size := 1) (e := 5) w3 #[.int .u8 1] 1 (Nat.le_refl _) (by decide) rfl)
      clear o3 b3
      go_wp2_with (at_builtin; refine wpList_append_own _ rfl (.tmp 21) (.tmp 22) 22 rfl w3.heap.size 5 i0 (.int .u8 0) 1 1 Tryz.underlying22 hi hz0 hz1 hz2 rfl (by decide) _ _ _ rfl OL.out ⟨q, 0, none⟩ p cq (u8s ps) rfl (by rw [HLP.out]; omega) ?c1 ?c2 ?c3 ?c4 ?c5 ?_)
      case c1 => exact O3.out.cells rfl
      case c2 => intro u hu; simp [u8s] at hu; obtain ⟨x, _, rfl⟩ := hu; rfl
      case c3 => unfold maxLen; omega
      case c4 => omega
      case c5 => simp
      intro v' w4 ho4 hg4 _
      have B4 := Lib.hid ((B3.out.alloc B3.out.size _).grown hg4 (by have := B3.out.size; simp; omega) (fun r hr => by have := B3.out.size; simp [Value.ownBlock] at hr; omega))
      have O4 := Lib.hid ho4
      clear ho4 hg4
      go_wp2_with fail
      go_ret2
      exact ⟨_, rfl, Ic.cons_own (Go.Joins.ownsRow_le O4.out B3.out.size) HM.out.2, B4.out⟩
    · rw [if_neg hs] at hob
      subst hob
      go_enter Tryz.func91, Tryz.ntmps91
      go_wp2_with fail
      refine FK.out.mono ?_
      rintro e w2 ⟨⟨g, cg, rfl, o2⟩, b2⟩
      have B2 := Lib.hid b2
      have F2 := Lib.hid (FZ.out _ _ _ o2)
      have O2 := Lib.hid o2
      clear b2 o2
      go_wp2_with fail
      refine F2.out.mono ?_
      rintro e w3 ⟨r3, rfl, o3, b3⟩
      obtain ⟨q, cq, rfl⟩ := Go.Joins.ownsRow_form o3 hpp
      have O3 := Lib.hid ((Rp.own_below O2.out b3).alloc (.cells #[.int .u8 0] 5))
      have B3 := Lib.hid (B2.out.trans (b3.mono B2.out.size))
      have OL := Lib.hid (World.ownsRow_lit (size := 1) (e := 5) w3 #[.int .u8 0] 1 (Nat.le_refl _) (by decide) rfl)
      clear o3 b3
      go_wp2_with (at_builtin; refine wpList_append_own _ rfl (.tmp 24) (.tmp 25) 22 rfl w3.heap.size 5 i0 (.int .u8 0) 1 1 Tryz.underlying22 hi hz0 hz1 hz2 rfl (by decide) _ _ _ rfl OL.out ⟨g, 0, none⟩ m cg (u8s B) rfl (by rw [HLB.out]; omega) ?c1 ?c2 ?c3 ?c4 ?c5 ?_)
      case c1 => exact O3.out.cells rfl
      case c2 => intro u hu; simp [u8s] at hu; obtain ⟨x, _, rfl⟩ := hu; rfl
      case c3 => unfold maxLen; omega
      case c4 => omega
      case c5 => simp
      intro v' w4 ho4 hg4 _
      have B4 := Lib.hid ((B3.out.alloc B3.out.size _).grown hg4 (by have := B3.out.size; simp; omega) (fun r hr => by have := B3.out.size; simp [Value.ownBlock] at hr; omega))
      have O4 := Lib.hid ho4
      clear ho4 hg4
      go_wp2_with fail
      go_ret2
      exact ⟨_, rfl, Ic.cons_own (Go.Joins.ownsRow_le O4.out B3.out.size) HM.out.1, B4.out⟩
end Ld
end Go.Proofs.YtjmddomkoholoaaGreatDoor

/- The program's Encode. -/
namespace Go.Proofs.YtjmddomkoholoaaGreatDoor
open Go.RowKit
namespace En
open Cm Wr Bm Pk Zs Vs Fo Cv Fl Ld

/-- What Encode answers. -/
def Enc (w : World) (T : List Vl) (e : Ending) (w' : World) : Prop :=
  ∃ r, e = .returned (.tuple #[r, .int .i64 ((enc T).1 : Nat)]) ∧ w'.ownsRow w.heap.size 5 1 r (enc T).2.length (u8s (enc T).2) ∧ Below w.heap.size w w'
theorem Enc.of {w w' : World} {T : List Vl} {e : Ending} {c : Nat} {bs : List Nat} (he : enc T = (c, bs)) (h : ∃ r, e = .returned (.tuple #[r, .int .i64 (c : Nat)]) ∧ w'.ownsRow w.heap.size 5 1 r bs.length (u8s bs) ∧ Below w.heap.size w w') : Enc w T e w' := by
  unfold Enc
  rw [he]
  exact h
theorem enc_len {T : List Vl} (h : T.length = 0 ∨ 1000 < T.length) : enc T = (1, []) := if_pos (by rcases h with h | h; exact .inl h; exact .inr (.inl h))
theorem enc_bad {T : List Vl} (h : T.all formed = false) : enc T = (1, []) := if_pos (.inr (.inr h))
theorem enc_mixed {T : List Vl} (h0 : T.length ≠ 0) (h1 : T.length ≤ 1000) (h2 : T.all formed = true) (h3 : one T = false) : enc T = (5, []) := by
  unfold enc
  rw [if_neg (by rintro (e | e | e); omega; omega; rw [h2] at e; cases e), if_pos h3]
theorem enc_kind {T : List Vl} (h0 : T.length ≠ 0) (h1 : T.length ≤ 1000) (h2 : T.all formed = true) (h3 : one T = true) :
    enc T = (if (T.getD 0 z0).1 = 1 then (0, pk (fbits (ns T))) else if (T.getD 0 z0).1 = 2 then (0, ibytes (ns T)) else if (T.getD 0 z0).1 = 3 then (0, pk (bbits (ns T))) else senc (laidT (ts T))) := by
  unfold enc
  rw [if_neg (by rintro (e | e | e); omega; omega; rw [h2] at e; cases e), if_neg (by rw [h3]; decide)]
  rfl
theorem Y_le {T : List Vl} (h2 : T.all formed = true) (k : Nat) : (Y T k).length ≤ 65536 := by
  unfold Y
  rw [List.getD_eq_getElem?_getD]
  by_cases hk : k < T.length
  · rw [List.getElem?_eq_getElem hk, Option.getD_some]
    rw [List.all_eq_true] at h2
    have hf := h2 _ (List.getElem_mem hk)
    by_cases h4 : (T[k]).1 = 4
    · exact (formed_num hf h4).2
    · rw [formed_text hf h4]; simp
  · rw [List.getElem?_eq_none (by omega)]; simp [z0]

set_option maxRecDepth 100000 in
set_option maxHeartbeats 4000000 in
theorem encode10 (w : World) (v : Value) (T : List Vl) (h : Vi w v T) (hT : Tab w) (hD : Dt w) : Calls Tryz.prog 46 #[v] w fun e w' => Enc w T e w' := by
  obtain ⟨a, c, hv⟩ := h.forms
  by_cases h0 : T.length = 0
  · have HE := Lib.hid (enc_len (T := T) (.inl h0))
    rw [hv, h0]
    clear h hT hD h0 hv
    go_enter Tryz.func46, Tryz.ntmps46
    go_wp2_with fail
    go_ret2
    exact Enc.of HE.out ⟨_, rfl, World.ownsRow_nil _ _ _ _, Below.refl _ _⟩
  by_cases h1 : T.length ≤ 1000
  case neg =>
    have HE := Lib.hid (enc_len (T := T) (.inr (by omega)))
    rw [hv]
    obtain ⟨n, hn⟩ : ∃ n, n = T.length := ⟨_, rfl⟩
    rw [← hn] at h0 h1 ⊢
    clear h hT hD hn hv
    go_enter Tryz.func46, Tryz.ntmps46
    go_wp2_with fail
    go_ret2
    exact Enc.of HE.out ⟨_, rfl, World.ownsRow_nil _ _ _ _, Below.refl _ _⟩
  have hl0 : 0 < T.length := by omega
  have F21 := Lib.hid (formed21 w v T h (by omega))
  rcases h.cases with ⟨a', c', hv', hnil⟩ | ⟨_, b, off, cc, hv', hc1, hc2, hc3⟩
  · rw [hnil] at hl0; simp at hl0
  have hk0 := (hc3 0 hl0).1
  rw [Nat.zero_mul, Nat.add_zero] at hk0
  cases hf : T.all formed with
  | false =>
    have HE := Lib.hid (enc_bad hf)
    rw [hf] at F21
    rw [hv'] at F21 ⊢
    obtain ⟨n, hn⟩ : ∃ n, n = T.length := ⟨_, rfl⟩
    rw [← hn] at h0 h1 F21 ⊢
    clear h hT hD hn hv hv' hf hc3 hk0 hc1 hl0
    go_enter Tryz.func46, Tryz.ntmps46
    go_wp2_with (go_at_call 86; refine F21.out.mono ?_; rintro e w2 ⟨rfl, b2⟩)
    go_ret2
    exact Enc.of HE.out ⟨_, rfl, World.ownsRow_nil _ _ _ _, b2⟩
  | true =>
    rw [hf] at F21
    have F22 := Lib.hid (fun (y : World) (hb : Below w.heap.size w y) => one22 y v T (h.below hb) (by omega))
    cases ho : one T with
    | false =>
      have HE := Lib.hid (enc_mixed h0 h1 hf ho)
      rw [ho] at F22
      rw [hv'] at F21 F22 ⊢
      obtain ⟨n, hn⟩ : ∃ n, n = T.length := ⟨_, rfl⟩
      rw [← hn] at h0 h1 F21 F22 ⊢
      have hz1 : ((n : Int) == 0) = false := by rw [beq_eq_false_iff_ne]; omega
      have hz2 : decide (1000 < (n : Int)) = false := decide_eq_false (by omega)
      clear h hT hD hn hv hv' hf hc3 hk0 hc1 hl0 ho
      go_enter Tryz.func46, Tryz.ntmps46
      go_wp2_with fail
      refine F21.out.mono ?_
      rintro e w2 ⟨rfl, b2⟩
      have F := Lib.hid (F22.out w2 b2)
      have B2 := Lib.hid b2
      clear b2
      go_wp2_with fail
      refine F.out.mono ?_
      rintro e w3 ⟨rfl, b3⟩
      have B3 := Lib.hid (B2.out.trans (b3.mono B2.out.size))
      clear b3
      go_wp2_with fail
      go_ret2
      exact Enc.of HE.out ⟨_, rfl, World.ownsRow_nil _ _ _ _, B3.out⟩
    | true =>
      have HE := Lib.hid (enc_kind h0 h1 hf ho)
      rw [ho] at F22
      have hkind : (T.getD 0 z0).1 = 1 ∨ (T.getD 0 z0).1 = 2 ∨ (T.getD 0 z0).1 = 3 ∨ (T.getD 0 z0).1 = 4 := by
        rw [List.all_eq_true] at hf
        refine formed_kind (hf _ ?_)
        rw [List.getD_eq_getElem?_getD, List.getElem?_eq_getElem hl0]
        exact List.getElem_mem _
      have FL := Lib.hid (fun (y : World) (hb : Below w.heap.size w y) => floats23 y v T (h.below hb) hl0 h1 (hD.below hb (by have := hD.1; omega)))
      have FI := Lib.hid (fun (y : World) (hb : Below w.heap.size w y) => Ic.ints24 y v T (h.below hb) hl0 h1 (hT.below hb hT.1))
      have FO := Lib.hid (fun (y : World) (hb : Below w.heap.size w y) => Ib.bools25 y v T (h.below hb) hl0 h1)
      have FS := Lib.hid (fun (y : World) (hb : Below w.heap.size w y) => strings26 y v T (h.below hb) hl0 h1 (Y_le hf))
      have HK0 := Lib.hid (fun (y : World) (hb : Below w.heap.size w y) => (hb.cell (p := ⟨b, off, none⟩) hc2).trans hk0)
      obtain ⟨K, hK⟩ : ∃ K, K = (T.getD 0 z0).1 := ⟨_, rfl⟩
      rw [← hK] at hkind HE HK0
      rw [hv'] at F21 F22 FL FI FO FS ⊢
      obtain ⟨n, hn⟩ : ∃ n, n = T.length := ⟨_, rfl⟩
      rw [← hn] at h0 h1 F21 F22 FL FI FO FS hc1 ⊢
      have hn0 : 0 < n := by omega
      have hz1 : ((n : Int) == 0) = false := by rw [beq_eq_false_iff_ne]; omega
      have hz2 : decide (1000 < (n : Int)) = false := decide_eq_false (by omega)
      clear h hT hD hn hv hv' hf hc3 hk0 hl0 ho hK
      rcases hkind with rfl | rfl | rfl | rfl
      all_goals
        go_enter Tryz.func46, Tryz.ntmps46
        go_wp2_with fail
        refine F21.out.mono ?_
        rintro e w2 ⟨rfl, b2⟩
        have F := Lib.hid (F22.out w2 b2)
        have B2 := Lib.hid b2
        clear b2
        go_wp2_with fail
        refine F.out.mono ?_
        rintro e w3 ⟨rfl, b3⟩
        have B3 := Lib.hid (B2.out.trans (b3.mono B2.out.size))
        have e3 := HK0.out _ B3.out
        clear b3
        go_wp2_with fail
      · refine (FL.out _ B3.out).mono ?_
        rintro e w4 ⟨r4, rfl, o4, b4⟩
        have O4 := Lib.hid o4
        have B4 := Lib.hid b4
        clear o4 b4
        go_wp2_with fail
        go_ret2
        exact Enc.of (HE.out.trans (by first | rfl | simp)) ⟨_, rfl, Go.Joins.ownsRow_le O4.out B3.out.size, B3.out.trans (B4.out.mono B3.out.size)⟩
      · refine (FI.out _ B3.out).mono ?_
        rintro e w4 ⟨r4, rfl, o4, b4⟩
        have O4 := Lib.hid o4
        have B4 := Lib.hid b4
        clear o4 b4
        go_wp2_with fail
        go_ret2
        exact Enc.of (HE.out.trans (by first | rfl | simp)) ⟨_, rfl, Go.Joins.ownsRow_le O4.out B3.out.size, B3.out.trans (B4.out.mono B3.out.size)⟩
      · refine (FO.out _ B3.out).mono ?_
        rintro e w4 ⟨r4, rfl, o4, b4⟩
        have O4 := Lib.hid o4
        have B4 := Lib.hid b4
        clear o4 b4
        go_wp2_with fail
        go_ret2
        exact Enc.of (HE.out.trans (by first | rfl | simp)) ⟨_, rfl, Go.Joins.ownsRow_le O4.out B3.out.size, B3.out.trans (B4.out.mono B3.out.size)⟩
      · refine (FS.out _ B3.out).mono ?_
        rintro e w4 ⟨r4, rfl, o4, b4⟩
        have O4 := Lib.hid o4
        have B4 := Lib.hid b4
        clear o4 b4
        go_wp2_with fail
        go_ret2
        exact Enc.of (HE.out.trans (by first | rfl | simp)) ⟨_, rfl, Go.Joins.ownsRow_le O4.out B3.out.size, B3.out.trans (B4.out.mono B3.out.size)⟩
end En
end Go.Proofs.YtjmddomkoholoaaGreatDoor

/- The reader, bad or not; getUnlike. -/
namespace Go.Proofs.YtjmddomkoholoaaGreatDoor
open Go.RowKit
namespace Rw
open Cm Wr Bm Rd Cv

/-- The reader at block g: the bit that comes next, or none: it is bad. -/
def Rs (w : World) (g : Nat) (s : Value) (bs : List Nat) : Option Nat → Prop
  | some p => p ≤ 8 * bs.length ∧ Rh w g s bs p false
  | none => Rh w g s [] 0 true
theorem get_rs (w : World) (g : Nat) (s : Value) (bs : List Nat) (q : Option Nat) (N : Nat) (h : Rs w g s bs q) (h1 : 1 ≤ N) (h2 : N ≤ 64) (hX : ∀ b ∈ bs, b < 256) (hb : bs.length ≤ 140737488353272) :
    Calls Tryz.prog 57 #[.pointer (some ⟨g, 0, none⟩), .int .i64 (N : Nat)] w fun e w' => e = .returned (.int .u64 ((rg bs q N).1 : Nat)) ∧ (∃ s', Rs w' g s' bs (rg bs q N).2 ∧ (s' = s ∨ s' = .slice none 0 0)) ∧ Only w w' g := by
  cases q with
  | none =>
    refine (get_bad w g s [] 0 h (N : Nat)).mono ?_
    rintro e w' ⟨rfl, rfl⟩
    exact ⟨rfl, ⟨s, h, .inl rfl⟩, Only.refl _ _⟩
  | some p =>
    obtain ⟨hp, h⟩ := h
    by_cases h3 : p + N ≤ 8 * bs.length
    · have e : rg bs (some p) N = (num (bo bs) p N, some (p + N)) := by unfold rg; simp only; rw [if_pos h3]
      rw [e]
      refine (get_ok w g s bs p N (bo bs) h (has_bo hX) h1 h2 h3 hb).mono ?_
      rintro e w' ⟨rfl, h4, h5⟩
      exact ⟨rfl, ⟨s, ⟨h3, h4⟩, .inl rfl⟩, h5⟩
    · have e : rg bs (some p) N = (0, none) := by unfold rg; simp only; rw [if_neg h3]
      rw [e]
      refine (get_few w g s bs p h (N : Nat) (by omega) (by omega) hp hb (by omega)).mono ?_
      rintro e w' ⟨rfl, h4, h5⟩
      exact ⟨rfl, ⟨_, h4, .inr rfl⟩, h5⟩
theorem Rs.kept {w w' : World} {g : Nat} {s : Value} {bs : List Nat} {q : Option Nat} {row : Option Nat} (h : Rs w g s bs q) (hg : w.grownBy w' row) (h1 : row ≠ some g) (h2 : s.ownBlock = none ∨ s.ownBlock ≠ row) : Rs w' g s bs q := by
  cases q with
  | none => exact Rx.Rh.kept h hg h1 h2
  | some p => exact ⟨h.1, Rx.Rh.kept h.2 hg h1 h2⟩
theorem Rs.alloc {w : World} {g : Nat} {s : Value} {bs : List Nat} {q : Option Nat} (h : Rs w g s bs q) (o : Obj) : Rs (w.alloc o) g s bs q := by
  cases q with
  | none => exact Rx.Rh.alloc h o
  | some p => exact ⟨h.1, Rx.Rh.alloc h.2 o⟩
theorem Rs.drewN {w : World} {g : Nat} {s : Value} {bs : List Nat} {q : Option Nat} (h : Rs w g s bs q) (n : Nat) : Rs (w.drewN n) g s bs q := by
  cases q with
  | none => exact Rh.drewN h n
  | some p => exact ⟨h.1, Rh.drewN h.2 n⟩
theorem Rs.lt {w : World} {g : Nat} {s : Value} {bs : List Nat} {q : Option Nat} (h : Rs w g s bs q) : g < w.heap.size ∧ ∀ k, s.ownBlock = some k → k < w.heap.size := by
  cases q with
  | none => obtain ⟨B, ho⟩ := Rh.own h; exact ⟨Rh.lt h, fun k hk => (ho.lt k hk).2⟩
  | some p => obtain ⟨B, ho⟩ := h.2.own; exact ⟨h.2.lt, fun k hk => (ho.lt k hk).2⟩
theorem new_rs (w : World) (s : Value) (bs : List Nat) (h : Is w s bs) (hb : bs.length ≤ 140737488353272) :
    Calls Tryz.prog 56 #[s] w fun e w' => ∃ g v, e = .returned (.pointer (some ⟨g, 0, none⟩)) ∧ Rs w' g v bs (some 0) ∧ w.heap.size ≤ g ∧ (∀ k, v.ownBlock = some k → w.heap.size ≤ k) ∧ Below w.heap.size w w' := by
  refine (new16 w s bs h hb).mono ?_
  rintro e w' ⟨g, v, rfl, h1, h2, h3, h4⟩
  exact ⟨g, v, rfl, ⟨Nat.zero_le _, h1⟩, h2, h3, h4⟩
theorem only_grown {w w' : World} {g : Nat} (h : Only w w' g) : w.grownBy w' (some g) := ⟨h.os, h.tape, h.output, h.size, fun k hk hne => h.block k hk (fun e => hne (by rw [e]))⟩
theorem own_apart {w w' : World} {g B size n : Nat} {e : TypeId} {v : Value} {xs : List Value} (h : w.ownsRow B e size v n xs) (o : Only w w' g) (hne : v.ownBlock ≠ some g) : w'.ownsRow B e size v n xs :=
  h.kept (only_grown o) (.inr hne)
/-- What a reading leaves: the reader at q; only it has turned. -/
def Rt (w : World) (g : Nat) (s : Value) (bs : List Nat) (q : Option Nat) (w' : World) : Prop := (∃ s', Rs w' g s' bs q ∧ (s' = s ∨ s' = .slice none 0 0)) ∧ Only w w' g
theorem Rt.trans {a b c : World} {g : Nat} {s t : Value} {bs : List Nat} {q : Option Nat} (o : Only a b g) (e : t = s ∨ t = .slice none 0 0) (h : Rt b g t bs q c) : Rt a g s bs q c := by
  obtain ⟨⟨u, h1, h2⟩, h3⟩ := h
  refine ⟨⟨u, h1, ?_⟩, o.trans h3⟩
  rcases h2 with rfl | h2
  · exact e
  · exact .inr h2

set_option maxRecDepth 100000 in
set_option maxHeartbeats 2000000 in
theorem unlike77 (w : World) (g : Nat) (s : Value) (bs : List Nat) (q : Option Nat) (h : Rs w g s bs q) (hX : ∀ b ∈ bs, b < 256) (hb : bs.length ≤ 140737488353272) :
    Calls Tryz.prog 148 #[.pointer (some ⟨g, 0, none⟩)] w fun e w' => e = .returned (.int .u64 ((gu bs q).1 : Nat)) ∧ Rt w g s bs (gu bs q).2 w' := by
  have FG := Lib.hid (fun (y : World) (s : Value) (q : Option Nat) (N : Nat) (h : Rs y g s bs q) (h1 : 1 ≤ N) (h2 : N ≤ 64) => get_rs y g s bs q N h h1 h2 hX hb)
  have F1 := Lib.hid (FG.out w s q 1 h (by decide) (by decide))
  obtain ⟨a, ha⟩ : ∃ a, a = rg bs q 1 := ⟨_, rfl⟩
  have hgu : gu bs q = if a.1 = 0 then (0, a.2) else if 64 < (rg bs a.2 6).1 + ((rg bs (rg bs a.2 6).2 6).1 + 1) then (0, (rg bs (rg bs a.2 6).2 6).2) else
      ((rg bs (rg bs (rg bs a.2 6).2 6).2 ((rg bs (rg bs a.2 6).2 6).1 + 1)).1 * 2 ^ (64 - (rg bs a.2 6).1 - ((rg bs (rg bs a.2 6).2 6).1 + 1)), (rg bs (rg bs (rg bs a.2 6).2 6).2 ((rg bs (rg bs a.2 6).2 6).1 + 1)).2) := by
    rw [ha]; rfl
  have ha2 := rg_lt bs q 1
  rw [← ha] at F1 ha2
  clear h hX hb ha
  obtain ⟨av, aq⟩ := a
  simp only at F1 ha2 hgu
  by_cases h0 : av = 0
  · subst h0
    rw [if_pos rfl] at hgu
    rw [hgu]
    clear FG hgu
    go_enter Tryz.func148, Tryz.ntmps148
    go_wp2_with (go_at_call 57; refine F1.out.mono ?_; rintro e w2 ⟨rfl, h2⟩)
    go_ret
    exact ⟨rfl, h2⟩
  · rw [if_neg h0] at hgu
    have F2 := Lib.hid (fun (y : World) (s : Value) (h : Rs y g s bs aq) => FG.out y s aq 6 h (by decide) (by decide))
    have z2 := rg_lt bs aq 6
    obtain ⟨⟨zv, zq⟩, hz⟩ : ∃ a, a = rg bs aq 6 := ⟨_, rfl⟩
    rw [← hz] at F2 z2 hgu
    simp only at F2 z2 hgu
    have F3 := Lib.hid (fun (y : World) (s : Value) (h : Rs y g s bs zq) => FG.out y s zq 6 h (by decide) (by decide))
    have s2 := rg_lt bs zq 6
    obtain ⟨⟨sv, sq⟩, hs⟩ : ∃ a, a = rg bs zq 6 := ⟨_, rfl⟩
    rw [← hs] at F3 s2 hgu
    simp only at F3 s2 hgu
    have hav : ((av : Int) == 0) = false := by rw [beq_eq_false_iff_ne]; omega
    clear hz hs ha2
    by_cases hw : 64 < zv + (sv + 1)
    · rw [if_pos hw] at hgu
      rw [hgu]
      clear FG hgu
      go_enter Tryz.func148, Tryz.ntmps148
      go_wp2_with fail
      refine F1.out.mono ?_
      rintro e w2 ⟨rfl, ⟨t2, h2, e2⟩, o2⟩
      have H2 := Lib.hid (F2.out w2 t2 h2)
      have O2 := Lib.hid (And.intro o2 e2)
      clear h2 o2 e2
      go_wp2_with fail
      refine H2.out.mono ?_
      rintro e w3 ⟨rfl, ⟨t3, h3, e3⟩, o3⟩
      have H3 := Lib.hid (F3.out w3 t3 h3)
      have O3 := Lib.hid (And.intro o3 e3)
      clear h3 o3 e3
      go_wp2_with fail
      refine H3.out.mono ?_
      rintro e w4 ⟨rfl, h4⟩
      have R4 := Lib.hid (Rt.trans O2.out.1 O2.out.2 (Rt.trans O3.out.1 O3.out.2 h4))
      clear h4
      go_wp2_with fail
      go_ret
      exact ⟨rfl, R4.out⟩
    · rw [if_neg hw] at hgu
      have F4 := Lib.hid (fun (y : World) (s : Value) (h : Rs y g s bs sq) => FG.out y s sq (sv + 1) h (by omega) (by omega))
      have v2 := rg_lt bs sq (sv + 1)
      obtain ⟨⟨vv, vq⟩, hv⟩ : ∃ a, a = rg bs sq (sv + 1) := ⟨_, rfl⟩
      rw [← hv] at F4 v2 hgu
      simp only at F4 v2 hgu
      rw [hgu]
      have hm : vv * 2 ^ (64 - zv - (sv + 1)) < 18446744073709551616 := by
        have h2 := Nat.mul_lt_mul_of_pos_right v2 (Nat.two_pow_pos (64 - zv - (sv + 1)))
        rw [← Nat.pow_add] at h2
        exact Nat.lt_of_lt_of_le h2 (Nat.pow_le_pow_right (n := 2) (by decide) (show sv + 1 + (64 - zv - (sv + 1)) ≤ 64 by omega))
      obtain ⟨D, hD⟩ : ∃ D, D = 64 - zv - (sv + 1) := ⟨_, rfl⟩
      rw [← hD] at hm ⊢
      have hDi : 64 - (zv : Int) - ((sv : Int) + 1) = (D : Int) := by omega
      have hwr : IntKind.u64.wrap ((vv : Int) * 2 ^ D) = ((vv * 2 ^ D : Nat) : Int) := by
        have e : ((vv : Nat) : Int) * 2 ^ D = ((vv * 2 ^ D : Nat) : Int) := by push_cast; rfl
        rw [e, IntKind.wrap_u64]
        omega
      have HV := Lib.hid hwr
      have hsv1 : ((sv + 1 : Nat) : Int) = (sv : Int) + 1 := by omega
      rw [hsv1] at F4
      clear FG hgu hv v2 hm hD hwr
      go_enter Tryz.func148, Tryz.ntmps148
      go_wp2_with fail
      refine F1.out.mono ?_
      rintro e w2 ⟨rfl, ⟨t2, h2, e2⟩, o2⟩
      have H2 := Lib.hid (F2.out w2 t2 h2)
      have O2 := Lib.hid (And.intro o2 e2)
      clear h2 o2 e2
      go_wp2_with fail
      refine H2.out.mono ?_
      rintro e w3 ⟨rfl, ⟨t3, h3, e3⟩, o3⟩
      have H3 := Lib.hid (F3.out w3 t3 h3)
      have O3 := Lib.hid (And.intro o3 e3)
      clear h3 o3 e3
      go_wp2_with fail
      refine H3.out.mono ?_
      rintro e w4 ⟨rfl, ⟨t4, h4, e4⟩, o4⟩
      have H4 := Lib.hid (F4.out w4 t4 h4)
      have O4 := Lib.hid (And.intro o4 e4)
      clear h4 o4 e4
      go_wp2_with fail
      refine H4.out.mono ?_
      rintro e w5 ⟨rfl, h5⟩
      have R5 := Lib.hid (Rt.trans O2.out.1 O2.out.2 (Rt.trans O3.out.1 O3.out.2 (Rt.trans O4.out.1 O4.out.2 h5)))
      clear h5
      go_wp2_with fail
      go_ret
      exact ⟨ret_int HV.out, R5.out⟩
end Rw
end Go.Proofs.YtjmddomkoholoaaGreatDoor
