/- Whole numbers with noughts ahead: the walk. -/
import Derived.Test.YteplgmedmnkmcaaSp
import Derived.Laws.AppendOwnNone
namespace Go.Proofs.Yteplgmedmnkmcaa
open Go.RowKit
namespace St
open Fp
theorem info29 : (Try.prog.info? 29).map (fun i => (i.zero, i.size, i.bytes)) = some (some (.float .f64 0), 1, 8) := by kernel_rfl

def IsS (w : World) (a : Option Addr) (len cap : Nat) (z : Nat → Int) : Prop :=
  len = 0 ∨
  ∃ b off, a = some ⟨b, off, none⟩ ∧ b < w.heap.size ∧ len ≤ cap ∧ cap ≤ maxLen ∧ ∀ i, i < len → w.cell? ⟨b, off + i, none⟩ = some (.int .i16 (z i))

/-- The floats of whole numbers, as cells. -/
def fl (z : Nat → Int) (k : Nat) : List Value := (List.range k).map fun i => .float .f64 (floatOfInt .f64 (z i))
theorem fl_succ (z : Nat → Int) (k : Nat) : fl z (k + 1) = fl z k ++ [.float .f64 (floatOfInt .f64 (z k))] := by simp [fl, List.range_succ]
theorem fl_len (z : Nat → Int) (k : Nat) : (fl z k).length = k := by simp [fl]

theorem four_fl (z : Nat → Int) (n : Nat) : [Value.float .f64 0, .float .f64 0, .float .f64 0, .float .f64 0] ++ fl z n = fl (sh 4 z) (n + 4) := by
  induction n with
  | zero => simp [fl, sh, List.range_succ]; rfl
  | succ n ih => rw [fl_succ, ← List.append_assoc, ih, show n + 1 + 4 = (n + 4) + 1 from by omega, fl_succ (sh 4 z) (n + 4), show sh 4 z (n + 4) = z n from by unfold sh; rw [if_neg (by omega)]; rfl]
theorem one_fl (z : Nat → Int) (n : Nat) : [Value.float .f64 0] ++ fl z n = fl (sh 1 z) (n + 1) := by
  induction n with
  | zero => simp [fl, sh, List.range_succ]; rfl
  | succ n ih => rw [fl_succ, ← List.append_assoc, ih, fl_succ (sh 1 z) (n + 1)]; simp [sh]

/-- What owns the floats of whole numbers is a slice of them. -/
theorem owns_isF {w : World} {base n : Nat} {v : Value} {z : Nat → Int} (hn : n ≠ 0) (h : w.ownsRow base 29 1 v n (fl z n)) :
    ∃ g c, v = .slice (some ⟨g, 0, none⟩) n c ∧ base ≤ g ∧ g < w.heap.size ∧ IsF w (some ⟨g, 0, none⟩) n c (fun i => floatOfInt .f64 (z i)) ∧ ∀ j u, (fl z n)[j]? = some u → w.cell? ((⟨g, 0, none⟩ : Addr).add j) = some u := by
  obtain ⟨_, ⟨_, h0⟩ | ⟨g, c, cur, rfl, hg, hh, hnc, hcm, hsz, htk⟩⟩ := h
  · exact absurd h0 hn
  · have hlt : g < w.heap.size := by
      rw [Array.getElem?_eq_some_iff] at hh; exact hh.1
    have hc : ∀ j u, (fl z n)[j]? = some u → w.cell? ⟨g, j, none⟩ = some u := by
      intro j u hj
      rw [← htk] at hj
      simp only [World.cell?, hh]
      rw [List.getElem?_take] at hj
      split at hj
      · simpa using hj
      · cases hj
    refine ⟨g, c, rfl, hg, hlt, .inr ⟨g, 0, rfl, hlt, hnc, hcm, fun i hi => ?_⟩, fun j u hj => ?_⟩
    · rw [Nat.zero_add]
      exact hc i _ (by simp [fl, hi])
    · by_cases hj0 : j = 0
      · subst hj0; simpa [Addr.add] using hc 0 u hj
      · simpa [Addr.add, hj0] using hc j u hj

theorem sh_le {z : Nat → Int} (hz : ∀ i, (z i).natAbs ≤ 32768) (m i : Nat) : (sh m z i).natAbs ≤ 32768 := by
  unfold sh; split
  · simp
  · exact hz _
theorem isI_of {y : Nat → Int} (hy : ∀ i, (y i).natAbs ≤ 32768) (i : Nat) : IsI (floatOfInt .f64 (y i)) (y i) := ofInt_exact _ (by have := hy i; omega)
/-- What the sums come to. -/
theorem cmp4 {z : Nat → Int} (hz : ∀ i, (z i).natAbs ≤ 32768) {k c d c4 d4 : Nat} (hk : k ≤ 1048576) (s : Sr (fun i => floatOfInt .f64 (z i)) k c d) (s4 : Sr (fun i => floatOfInt .f64 (sh 4 z i)) (k + 4) c4 d4) :
    FloatKind.f64.format.order c4 c = some .eq ∧ FloatKind.f64.format.order d4 d = some .eq := by
  obtain ⟨a1, a2⟩ := sr_P hz (by omega) (fun i _ => isI_of hz i) s
  obtain ⟨b1, b2⟩ := sr_P (sh_le hz 4) (by omega) (fun i _ => isI_of (sh_le hz 4) i) s4
  rw [P_four] at b1 b2
  exact ⟨order_eq b1 a1, order_eq b2 a2⟩
theorem cmp1 {z : Nat → Int} (hz : ∀ i, (z i).natAbs ≤ 32768) {k c d c1 d1 : Nat} (hk : k ≤ 1048576) (s : Sr (fun i => floatOfInt .f64 (z i)) k c d) (s1 : Sr (fun i => floatOfInt .f64 (sh 1 z i)) (k + 1) c1 d1) :
    FloatKind.f64.format.order c1 (Op.negFloat .f64 d) = some .eq ∧ FloatKind.f64.format.order d1 c = some .eq := by
  obtain ⟨a1, a2⟩ := sr_P hz (by omega) (fun i _ => isI_of hz i) s
  obtain ⟨e1, e2⟩ := sr_P (sh_le hz 1) (by omega) (fun i _ => isI_of (sh_le hz 1) i) s1
  rw [P_one] at e1 e2
  exact ⟨order_eq e1 (neg_exact a2), order_eq e2 a1⟩

set_option maxRecDepth 100000 in
set_option maxHeartbeats 1000000 in
theorem shifts4 (a : Option Addr) (len cap : Nat) (z : Nat → Int) (hz : ∀ i, (z i).natAbs ≤ 32768) (w : World) (h : IsS w a len cap z) (hb : len ≤ 1048576) :
    Calls Try.prog 4 #[.slice a len cap] w fun e w' => e = .returned (.bool true) ∧ Below w.heap.size w w' := by
  obtain ⟨i0, hi, hz0, hz1, hz2⟩ := info_parts info29
  by_cases h0 : len = 0
  · subst h0
    clear h
    go_enter Try.func4, Try.ntmps4
    go_wp2_with (go_at_call 5; refine (awake5 _).mono ?_; rintro e w1 ⟨rfl, b1⟩)
    refine wp_loop_rounds 1 ?_
    rw [rounds_succ]
    go_wp2_with fail
    obtain ⟨w2, hw2, HF4, HF1, B2⟩ : ∃ w2, w2 = ((w1.alloc (Obj.cells #[Value.float FloatKind.f64 0, Value.float FloatKind.f64 0, Value.float FloatKind.f64 0, Value.float FloatKind.f64 0] 29)).alloc (Obj.cells #[Value.float FloatKind.f64 0] 29)) ∧
        Hid (IsF w2 (some ⟨w1.heap.size, 0, none⟩) 4 4 (fun i => floatOfInt .f64 (sh 4 z i))) ∧ Hid (IsF w2 (some ⟨w1.heap.size + 1, 0, none⟩) 1 1 (fun i => floatOfInt .f64 (sh 1 z i))) ∧ Hid (Below w.heap.size w w2) := by
      refine ⟨_, rfl, Lib.hid ?_, Lib.hid ?_, Lib.hid ?_⟩
      · refine .inr ⟨w1.heap.size, 0, rfl, by simp; omega, by decide, by decide, fun i hi => ?_⟩
        show _ = some (Value.float .f64 (floatOfInt .f64 (sh 4 z i)))
        rw [show sh 4 z i = 0 from by unfold sh; rw [if_pos hi], show floatOfInt .f64 0 = 0 from rfl]
        rw [((Below.refl (w1.alloc (Obj.cells #[Value.float FloatKind.f64 0, Value.float FloatKind.f64 0, Value.float FloatKind.f64 0, Value.float FloatKind.f64 0] 29)).heap.size _).alloc (Nat.le_refl _) _).cell (by simp)]
        have h4 : i = 0 ∨ i = 1 ∨ i = 2 ∨ i = 3 := by omega
        rcases h4 with rfl | rfl | rfl | rfl <;> simp
      · refine .inr ⟨w1.heap.size + 1, 0, rfl, by simp, by decide, by decide, fun i hi => ?_⟩
        show _ = some (Value.float .f64 (floatOfInt .f64 (sh 1 z i)))
        rw [show sh 1 z i = 0 from by unfold sh; rw [if_pos hi], show floatOfInt .f64 0 = 0 from rfl]
        obtain rfl : i = 0 := by omega
        simp
      · exact (b1.alloc b1.size _).alloc (by have := b1.size; simp; omega) _
    rw [← hw2]
    clear hw2
    refine (sum7 none 0 0 (fun i => floatOfInt .f64 (z i)) _ (.inl rfl)).mono ?_
    rintro e w4 ⟨x, y, rfl, sr, l4⟩
    have SR := Lib.hid sr
    clear sr
    go_wp2_with fail
    refine (sum7 _ _ _ _ _ (by exact HF4.out.below l4 (Nat.le_refl _))).mono ?_
    rintro e w5 ⟨x4, y4, rfl, sr4, l5⟩
    have SR4 := Lib.hid sr4
    clear sr4
    have l45 := l4.trans (l5.mono l4.size)
    have C4 := cmp4 hz hb SR.out SR4.out
    obtain ⟨o1, o2⟩ := C4
    go_wp2_with fail
    refine (sum7 _ _ _ _ _ (by exact HF1.out.below l45 (Nat.le_refl _))).mono ?_
    rintro e w6 ⟨x1, y1, rfl, sr1, l6⟩
    have l456 := l45.trans (l6.mono l45.size)
    obtain ⟨o3, o4⟩ := cmp1 hz hb SR.out sr1
    clear sr1
    go_wp2_with (go_at_call 9; refine (spin9 _ _ _).mono ?_; rintro e w7 ⟨rfl, rfl⟩)
    go_ret
    exact ⟨rfl, B2.out.trans (l456.mono B2.out.size)⟩
  · obtain ⟨b, off, rfl, hlt, hl, hm, hcell⟩ := h.resolve_left h0
    unfold maxLen at hm
    go_enter Try.func4, Try.ntmps4
    go_wp2_with (go_at_call 5; refine (awake5 _).mono ?_; rintro e w1 ⟨rfl, b1⟩)
    go_loopw [3, 12] (fun v i wr => ∃ k, k ≤ len ∧ i = .int .i64 (k : Nat) ∧ wr.ownsRow w.heap.size 29 1 v k (fl z k) ∧ Below w.heap.size w wr) (fun _ i _ => len - (intOf i).toNat)
    case atStart => exact ⟨0, Nat.zero_le _, rfl, World.ownsRow_nil _ _ _ _, b1⟩
    case round =>
      obtain ⟨k, hk, rfl, hown, hbl⟩ := hrel
      by_cases hlt2 : k < len
      · have g := hcell k hlt2
        have g' : wr.cell? ⟨b, off + k, none⟩ = some (.int .i16 (z k)) := by rw [hbl.cell hlt]; exact g
        clear hcell g
        have hsz := hbl.size
        go_wp2_with (at_builtin; refine wpList_append_own _ rfl _ _ 22 rfl w.heap.size 29 i0 (.float .f64 0) 1 8 Try.underlying22 hi hz0 hz1 hz2 rfl (by decide) _ _ _ rfl (hown.alloc _) ⟨wr.heap.size, 0, none⟩ 1 1 [.float .f64 (floatOfInt .f64 (z k))] rfl rfl ?c1 ?c2 ?c3 ?c4 ?c5 ?_)
        case c1 =>
          intro j u hj
          match j, hj with
          | 0, hj => simp at hj; subst hj; simp [Addr.add]
        case c2 => intro u hu; simp at hu; subst hu; rfl
        case c3 => unfold maxLen; omega
        case c4 => omega
        case c5 => simp; omega
        intro v' w2 hown' hgrow _
        rw [← fl_succ] at hown'
        have hbl2 : Below w.heap.size w w2 := (hbl.alloc (by omega) _).grown hgrow (by simp; omega) (fun r hr => (hown.lt r hr).1)
        clear hgrow hown hbl
        go_wp2
        go_roundw
        case rel => exact ⟨k + 1, by omega, by go_num, hown', hbl2⟩
        case measure => simp [intOf]; omega
      · obtain rfl : k = len := by omega
        clear hcell
        · obtain ⟨g, c, rfl, hg, hglt, hF, hgc⟩ := owns_isF h0 hown
          have HF := Lib.hid hF
          clear hF
          have hsz := hbl.size
          go_wp2_with (at_builtin; refine wpList_append_own _ rfl (.tmp 24) (.tmp 25) 22 rfl wr.heap.size 29 i0 (.float .f64 0) 1 8 Try.underlying22 hi hz0 hz1 hz2 rfl (by decide) _ 4 [.float .f64 0, .float .f64 0, .float .f64 0, .float .f64 0] rfl ?o1 ⟨g, 0, none⟩ k c (fl z k) rfl (by rw [fl_len]; omega) ?c1 ?c2 ?c3 ?c4 ?c5 ?_)
          case o1 => exact ⟨rfl, .inr ⟨wr.heap.size, 4, _, rfl, Nat.le_refl _, heap_alloc_new _ _, by decide, by decide, rfl, rfl⟩⟩
          case c1 => intro j u hj; rw [((Below.refl wr.heap.size wr).alloc (Nat.le_refl _) _).cell (by unfold Addr.add; split <;> exact hglt)]; exact hgc j u hj
          case c2 => intro u hu; simp [fl] at hu; obtain ⟨x, _, rfl⟩ := hu; rfl
          case c3 => unfold maxLen; omega
          case c4 => omega
          case c5 => simp
          intro v4 w2 hown4 hgrow4 _
          have e4 : w2.ownsRow wr.heap.size 29 1 v4 (k + 4) (fl (sh 4 z) (k + 4)) := by rw [← four_fl, Nat.add_comm k 4]; exact hown4
          have bl4 : Below wr.heap.size wr w2 := ((Below.refl _ _).alloc (Nat.le_refl _) _).grown hgrow4 (by simp) (fun r hr => by simp [Value.ownBlock] at hr; omega)
          clear hown4 hgrow4 hown
          obtain ⟨g4, c4, rfl, hg4, hglt4, hF4, -⟩ := owns_isF (by omega) e4
          have HF4 := Lib.hid hF4
          have hgc2 : ∀ j u, (fl z k)[j]? = some u → w2.cell? ((⟨g, 0, none⟩ : Addr).add j) = some u := fun j u hj => by rw [bl4.cell (by unfold Addr.add; split <;> exact hglt)]; exact hgc j u hj
          clear hF4 e4 hgc
          have hsz4 := bl4.size
          go_wp2_with (at_builtin; refine wpList_append_own _ rfl (.tmp 27) (.tmp 28) 22 rfl w2.heap.size 29 i0 (.float .f64 0) 1 8 Try.underlying22 hi hz0 hz1 hz2 rfl (by decide) _ 1 [.float .f64 0] rfl ?p1 ⟨g, 0, none⟩ k c (fl z k) rfl (by rw [fl_len]; omega) ?q1 ?q2 ?q3 ?q4 ?q5 ?_)
          case p1 => exact ⟨rfl, .inr ⟨w2.heap.size, 1, _, rfl, Nat.le_refl _, heap_alloc_new _ _, by decide, by decide, rfl, rfl⟩⟩
          case q1 => intro j u hj; rw [((Below.refl w2.heap.size w2).alloc (Nat.le_refl _) _).cell (by unfold Addr.add; split <;> (show g < _; omega))]; exact hgc2 j u hj
          case q2 => intro u hu; simp [fl] at hu; obtain ⟨x, _, rfl⟩ := hu; rfl
          case q3 => unfold maxLen; omega
          case q4 => omega
          case q5 => simp
          intro v1 w3 hown1 hgrow1 _
          have e1 : w3.ownsRow w2.heap.size 29 1 v1 (k + 1) (fl (sh 1 z) (k + 1)) := by rw [← one_fl, Nat.add_comm k 1]; exact hown1
          have bl1 : Below w2.heap.size w2 w3 := ((Below.refl _ _).alloc (Nat.le_refl _) _).grown hgrow1 (by simp) (fun r hr => by simp [Value.ownBlock] at hr; omega)
          clear hown1 hgrow1 hgc2
          obtain ⟨g1, c1, rfl, hg1, hglt1, hF1, -⟩ := owns_isF (by omega) e1
          have HF1 := Lib.hid hF1
          have HF4' := Lib.hid (HF4.out.below bl1 (Nat.le_refl _))
          have HF' := Lib.hid ((HF.out.below bl4 (Nat.le_refl _)).below bl1 (Nat.le_refl _))
          have B3 : Below w.heap.size w w3 := (hbl.trans (bl4.mono hsz)).trans (bl1.mono (by omega))
          have HB3 := Lib.hid B3
          clear hF1 e1 HF4 HF B3 bl1 bl4 hbl
          go_wp2_with fail
          refine (sum7 _ _ _ _ _ (by exact HF'.out)).mono ?_
          rintro e w4 ⟨x, y, rfl, sr, l4⟩
          have SR := Lib.hid sr
          clear sr
          go_wp2_with fail
          refine (sum7 _ _ _ _ _ (by exact HF4'.out.below l4 (Nat.le_refl _))).mono ?_
          rintro e w5 ⟨x4, y4, rfl, sr4, l5⟩
          have SR4 := Lib.hid sr4
          clear sr4
          have l45 := l4.trans (l5.mono l4.size)
          have C4 := cmp4 hz hb SR.out SR4.out
          obtain ⟨o1, o2⟩ := C4
          go_wp2_with fail
          refine (sum7 _ _ _ _ _ (by exact HF1.out.below l45 (Nat.le_refl _))).mono ?_
          rintro e w6 ⟨x1, y1, rfl, sr1, l6⟩
          have l456 := l45.trans (l6.mono l45.size)
          obtain ⟨o3, o4⟩ := cmp1 hz hb SR.out sr1
          clear sr1
          go_wp2_with (go_at_call 9; refine (spin9 _ _ _).mono ?_; rintro e w7 ⟨rfl, rfl⟩)
          go_ret
          exact ⟨rfl, HB3.out.trans (l456.mono HB3.out.size)⟩
end St
end Go.Proofs.Yteplgmedmnkmcaa
