/- Sums that grow beyond all: the walk. -/
import Derived.Test.YtofageoljphleaaGreatDoorZt
namespace Go.Proofs.YtofageoljphleaaGreatDoor
open Go.RowKit Go.Sort
namespace Ze
open St
set_option maxRecDepth 100000
theorem info23 : (Tryz.prog.info? 23).map (fun i => (i.zero, i.size, i.bytes)) = some (some (.float .f64 0), 1, 8) := by kernel_rfl

/-- The greatest float, above or below, and the row of it. -/
def big (s : Bool) : Nat := if s then 18442240474082181119 else 9218868437227405311
def row (s : Bool) (i : Nat) : Nat := if i % 4 = 0 then big s else if i % 4 = 2 then big (!s) else 0
/-- A slice's cells. -/
def fl (V : Nat → Nat) (k : Nat) : List Value := (List.range k).map fun i => .float .f64 (V i)
theorem fl_len (V : Nat → Nat) (k : Nat) : (fl V k).length = k := by simp [fl]
theorem fl_four (s : Bool) (k : Nat) : fl (row s) (4 * k) ++ [.float .f64 (big s), .float .f64 0, .float .f64 (big (!s)), .float .f64 0] = fl (row s) (4 * (k + 1)) := by
  have e : ∀ j, fl (row s) (j + 1) = fl (row s) j ++ [.float .f64 (row s j)] := fun j => by simp [fl, List.range_succ]
  rw [show 4 * (k + 1) = 4 * k + 1 + 1 + 1 + 1 from by omega, e, e, e, e]
  have a0 : row s (4 * k) = big s := by unfold row; rw [if_pos (by omega)]
  have a1 : row s (4 * k + 1) = 0 := by unfold row; rw [if_neg (by omega), if_neg (by omega)]
  have a2 : row s (4 * k + 1 + 1) = big (!s) := by unfold row; rw [if_neg (by omega), if_pos (by omega)]
  have a3 : row s (4 * k + 1 + 1 + 1) = 0 := by unfold row; rw [if_neg (by omega), if_neg (by omega)]
  rw [a0, a1, a2, a3]
  simp
/-- What the row's sum comes to. -/
theorem ends (s : Bool) : ∀ {k c d : Nat}, Sr (row s) (4 * k) c d → c = (if k = 0 then 0 else inf s) ∧ d = 0
  | 0, _, _, ⟨h1, h2⟩ => ⟨h1, h2⟩
  | k + 1, c, d, h => by
    rw [show 4 * (k + 1) = 4 * k + 1 + 1 + 1 + 1 from by omega] at h
    obtain ⟨c3, d3, ⟨c2, d2, ⟨c1, d1, ⟨c0, d0, h, h0⟩, h1⟩, h2⟩, h3⟩ := h
    obtain ⟨rfl, rfl⟩ := ends s h
    rw [show (4 * k) % 4 = 0 from by omega] at h0
    rw [show (4 * k + 1) % 4 = 1 from by omega] at h1
    rw [show (4 * k + 1 + 1) % 4 = 2 from by omega] at h2
    rw [show (4 * k + 1 + 1 + 1) % 4 = 3 from by omega] at h3
    have a0 : row s (4 * k) = big s := by unfold row; rw [if_pos (by omega)]
    have a1 : row s (4 * k + 1) = 0 := by unfold row; rw [if_neg (by omega), if_neg (by omega)]
    have a2 : row s (4 * k + 1 + 1) = big (!s) := by unfold row; rw [if_neg (by omega), if_pos (by omega)]
    have a3 : row s (4 * k + 1 + 1 + 1) = 0 := by unfold row; rw [if_neg (by omega), if_neg (by omega)]
    rw [a0] at h0; rw [a1] at h1; rw [a2] at h2; rw [a3] at h3
    rw [if_neg (by omega)]
    by_cases hk : k = 0
    · rw [if_pos hk] at h0
      obtain ⟨rfl, rfl⟩ := st0 (s := big s) h0 (by cases s <;> kernel_rfl)
      obtain ⟨rfl, rfl⟩ := st1 (s := 0) h1 (by kernel_rfl)
      obtain ⟨rfl, rfl⟩ := st2 (s := inf s) h2 (by cases s <;> kernel_rfl)
      obtain ⟨rfl, rfl⟩ := st3 (s := 0) h3 (by kernel_rfl)
      exact ⟨rfl, rfl⟩
    · rw [if_neg hk] at h0
      obtain ⟨rfl, rfl⟩ := st0 (s := inf s) h0 (by cases s <;> kernel_rfl)
      obtain ⟨rfl, rfl⟩ := st1 (s := 0) h1 (by kernel_rfl)
      obtain ⟨rfl, rfl⟩ := st2 (s := inf s) h2 (by cases s <;> kernel_rfl)
      obtain ⟨rfl, rfl⟩ := st3 (s := 0) h3 (by kernel_rfl)
      exact ⟨rfl, rfl⟩

/-- The real part's float and text. -/
def re (s : Bool) (k : Nat) : Nat := if k = 0 then 0 else inf s
theorem ends' (s : Bool) {k c d : Nat} (h : Sr (row s) (4 * k) c d) : c = re s k ∧ d = 0 := ends s h
def reText (s : Bool) (k : Nat) : ByteArray := if k = 0 then ⟨#[48]⟩ else infText s
theorem partRe (s : Bool) (k : Nat) (w : World) : Calls Tryz.prog 14 #[.float .f64 (re s k)] w fun e w' => e = .returned (.string (reText s k)) ∧ Below w.heap.size w w' := by
  unfold re reText
  by_cases h : k = 0
  · rw [if_pos h, if_pos h]; exact part0 w
  · rw [if_neg h, if_neg h]; exact (partInf s w).mono fun e w' h => ⟨h.1, h.2 ▸ Below.refl _ _⟩
theorem textRe (s : Bool) (k : Nat) (w : World) (hT : Tab w) : Calls Tryz.prog 13 #[.float .f64 (re s k)] w fun e w' => e = .returned (.string (reText s k)) ∧ Below w.heap.size w w' := by
  unfold re reText
  by_cases h : k = 0
  · rw [if_pos h, if_pos h]; exact text0 w hT
  · rw [if_neg h, if_neg h]; exact (textInf s w).mono fun e w' h => ⟨h.1, h.2 ▸ Below.refl _ _⟩
def whole (s : Bool) (k : Nat) : ByteArray := reText s k ++ ⟨#[44]⟩ ++ ⟨#[48]⟩
theorem reSize (s : Bool) (k : Nat) : (reText s k).size ≤ 4 := by
  unfold reText infText
  by_cases h : k = 0
  · rw [if_pos h]; decide
  · rw [if_neg h]; cases s <;> decide
set_option maxHeartbeats 1000000 in
theorem text9 (s : Bool) (k : Nat) (w : World) : Calls Tryz.prog 9 #[.complex .f64 (re s k) 0] w fun e w' => e = .returned (.string (whole s k)) ∧ Below w.heap.size w w' := by
  have hsz := reSize s k
  go_enter Tryz.func9, Tryz.ntmps9
  go_wp2_with fail
  refine (partRe s k _).mono ?_
  rintro e w1 ⟨rfl, hb1⟩
  go_wp2_with fail
  refine (part0 _).mono ?_
  rintro e w2 ⟨rfl, hb2⟩
  go_wp2
  go_ret
  exact ⟨rfl, hb1.trans (hb2.mono hb1.size)⟩
set_option maxHeartbeats 1000000 in
theorem text8 (s : Bool) (k : Nat) (w : World) (hT : Tab w) : Calls Tryz.prog 8 #[.complex .f64 (re s k) 0] w fun e w' => e = .returned (.string (whole s k)) ∧ Below w.heap.size w w' := by
  have HT := Lib.hid hT
  clear hT
  have hsz := reSize s k
  go_enter Tryz.func8, Tryz.ntmps8
  go_wp2_with fail
  refine (textRe s k _ HT.out).mono ?_
  rintro e w1 ⟨rfl, hb1⟩
  go_wp2_with fail
  refine (text0 _ (HT.out.below hb1)).mono ?_
  rintro e w2 ⟨rfl, hb2⟩
  go_wp2
  go_ret
  exact ⟨rfl, hb1.trans (hb2.mono hb1.size)⟩

/-- What owns the row's floats is a slice of them. -/
theorem owns_isF {w : World} {base n : Nat} {v : Value} {V : Nat → Nat} (h : w.ownsRow base 23 1 v n (fl V n)) : ∃ a c, v = .slice a n c ∧ IsF w a n c V := by
  obtain ⟨_, ⟨rfl, rfl⟩ | ⟨g, c, cur, rfl, hg, hh, hnc, hcm, hsz, htk⟩⟩ := h
  · exact ⟨none, 0, rfl, .inl rfl⟩
  · have hlt : g < w.heap.size := by
      rw [Array.getElem?_eq_some_iff] at hh; exact hh.1
    refine ⟨some ⟨g, 0, none⟩, c, rfl, .inr ⟨g, 0, rfl, hlt, hnc, hcm, fun i hi => ?_⟩⟩
    rw [Nat.zero_add]
    have hj : (fl V n)[i]? = some (.float .f64 (V i)) := by simp [fl, hi]
    rw [← htk] at hj
    simp only [World.cell?, hh]
    rw [List.getElem?_take] at hj
    split at hj
    · simpa using hj
    · cases hj
set_option maxHeartbeats 1000000 in
theorem ends_true (n : Nat) (hn : n < 256) (w : World) (hT : Tab w) :
    Calls Tryz.prog 3 #[.int .u8 n, .bool true] w fun e w' => e = .returned (.bool true) ∧ Below w.heap.size w w' := by
  obtain ⟨i0, hi, hz0, hz1, hz2⟩ := info_parts info23
  have HT := Lib.hid hT
  clear hT
  have nt : ∀ w, (Op.unary UnOp.neg (Value.float FloatKind.f64 9218868437227405311)).run Tryz.prog w = .ok (.float .f64 18442240474082181119) w := fun _ => by kernel_rfl
  have nf : ∀ w, (Op.unary UnOp.neg (Value.float FloatKind.f64 18442240474082181119)).run Tryz.prog w = .ok (.float .f64 9218868437227405311) w := fun _ => by kernel_rfl
  go_enter Tryz.func3, Tryz.ntmps3
  go_wp2_with (go_at_call 4; refine (awake4 _).mono ?_; rintro e w1 ⟨rfl, b1⟩)
  go_loopw [6, 15] (fun v i wr => ∃ k, k ≤ n % 12 ∧ i = .int .i64 (k : Nat) ∧ wr.ownsRow w.heap.size 23 1 v (4 * k) (fl (row true) (4 * k)) ∧ Below w.heap.size w wr) (fun _ i _ => n % 12 - (intOf i).toNat)
  case atStart => exact ⟨0, Nat.zero_le _, rfl, World.ownsRow_nil _ _ _ _, b1⟩
  case round =>
    obtain ⟨k, hk, rfl, hown, hbl⟩ := hrel
    have hsz := hbl.size
    by_cases hlt : k < n % 12
    · have hlt' : (k : Int) < (n : Int) % 12 := by omega
      go_wp2_with (at_builtin; refine wpList_append_own _ rfl _ _ 24 rfl w.heap.size 23 i0 (.float .f64 0) 1 8 Tryz.underlying24 hi hz0 hz1 hz2 rfl (by decide) _ _ _ rfl (hown.alloc _) ⟨wr.heap.size, 0, none⟩ 4 4 [.float .f64 18442240474082181119, .float .f64 0, .float .f64 9218868437227405311, .float .f64 0] rfl rfl ?c1 ?c2 ?c3 ?c4 ?c5 ?_)
      case c1 =>
        intro j u hj
        match j, hj with
        | 0, hj => simp at hj; subst hj; simp [Addr.add]
        | 1, hj => simp at hj; subst hj; simp [Addr.add]
        | 2, hj => simp at hj; subst hj; simp [Addr.add]
        | 3, hj => simp at hj; subst hj; simp [Addr.add]
      case c2 => intro u hu; simp at hu; rcases hu with rfl | rfl | rfl | rfl <;> rfl
      case c3 => unfold maxLen; omega
      case c4 => omega
      case c5 => simp; omega
      intro v' w2 hown' hgrow _
      have hown2 : w2.ownsRow w.heap.size 23 1 v' (4 * (k + 1)) (fl (row true) (4 * (k + 1))) := by rw [← fl_four]; exact hown'
      have hbl2 : Below w.heap.size w w2 := (hbl.alloc (by omega) _).grown hgrow (by simp; omega) (fun r hr => (hown.lt r hr).1)
      clear hgrow hown hbl hown'
      go_wp2
      go_roundw
      case rel => exact ⟨k + 1, by omega, by go_num, hown2, hbl2⟩
      case measure => simp [intOf]; omega
    · obtain rfl : k = n % 12 := by omega
      have hge : ¬ (((n % 12 : Nat) : Int) < (n : Int) % 12) := by omega
      obtain ⟨a, c, rfl, hF⟩ := owns_isF hown
      have HF := Lib.hid hF
      have HB := Lib.hid hbl
      generalize n % 12 = k at *
      clear hF hown hbl
      go_wp2_with fail
      refine (sum6 _ _ _ _ _ (by exact HF.out)).mono ?_
      rintro e w4 ⟨x, y, rfl, s1, l1⟩
      obtain ⟨rfl, rfl⟩ := ends' _ s1
      clear s1
      go_wp2_with fail
      refine (sum7 _ _ _ _ _ (by exact HF.out.below l1 (Nat.le_refl _))).mono ?_
      rintro e w5 ⟨x, y, rfl, s2, l2⟩
      obtain ⟨rfl, rfl⟩ := ends' _ s2
      clear s2
      have L2 := l1.trans (l2.mono l1.size)
      clear l1 l2
      go_wp2_with fail
      refine (same5 _ _ _ _ _ (.inl rfl) (.inl rfl)).mono ?_
      rintro e w6 ⟨rfl, rfl⟩
      go_wp2_with fail
      refine (sum6 _ _ _ _ _ (by exact HF.out.below L2 (Nat.le_refl _))).mono ?_
      rintro e w7 ⟨x, y, rfl, s3, l3⟩
      obtain ⟨rfl, rfl⟩ := ends' _ s3
      clear s3
      have L3 := L2.trans (l3.mono L2.size)
      clear L2 l3
      go_wp2_with fail
      refine (text8 true k _ (HT.out.below (HB.out.trans (L3.mono HB.out.size)))).mono ?_
      rintro e w8 ⟨rfl, l4⟩
      have L4 := L3.trans (l4.mono L3.size)
      clear L3 l4
      go_wp2_with fail
      refine (sum7 _ _ _ _ _ (by exact HF.out.below L4 (Nat.le_refl _))).mono ?_
      rintro e w9 ⟨x, y, rfl, s4, l5⟩
      obtain ⟨rfl, rfl⟩ := ends' _ s4
      clear s4
      have L5 := L4.trans (l5.mono L4.size)
      clear L4 l5
      go_wp2_with fail
      refine (text9 true k _).mono ?_
      rintro e w10 ⟨rfl, l6⟩
      have L6 := L5.trans (l6.mono L5.size)
      clear L5 l6
      go_wp2
      go_ret
      exact ⟨rfl, HB.out.trans (L6.mono HB.out.size)⟩

set_option maxHeartbeats 1000000 in
theorem ends_false (n : Nat) (hn : n < 256) (w : World) (hT : Tab w) :
    Calls Tryz.prog 3 #[.int .u8 n, .bool false] w fun e w' => e = .returned (.bool true) ∧ Below w.heap.size w w' := by
  obtain ⟨i0, hi, hz0, hz1, hz2⟩ := info_parts info23
  have HT := Lib.hid hT
  clear hT
  have nt : ∀ w, (Op.unary UnOp.neg (Value.float FloatKind.f64 9218868437227405311)).run Tryz.prog w = .ok (.float .f64 18442240474082181119) w := fun _ => by kernel_rfl
  have nf : ∀ w, (Op.unary UnOp.neg (Value.float FloatKind.f64 18442240474082181119)).run Tryz.prog w = .ok (.float .f64 9218868437227405311) w := fun _ => by kernel_rfl
  go_enter Tryz.func3, Tryz.ntmps3
  go_wp2_with (go_at_call 4; refine (awake4 _).mono ?_; rintro e w1 ⟨rfl, b1⟩)
  go_loopw [6, 15] (fun v i wr => ∃ k, k ≤ n % 12 ∧ i = .int .i64 (k : Nat) ∧ wr.ownsRow w.heap.size 23 1 v (4 * k) (fl (row false) (4 * k)) ∧ Below w.heap.size w wr) (fun _ i _ => n % 12 - (intOf i).toNat)
  case atStart => exact ⟨0, Nat.zero_le _, rfl, World.ownsRow_nil _ _ _ _, b1⟩
  case round =>
    obtain ⟨k, hk, rfl, hown, hbl⟩ := hrel
    have hsz := hbl.size
    by_cases hlt : k < n % 12
    · have hlt' : (k : Int) < (n : Int) % 12 := by omega
      go_wp2_with (at_builtin; refine wpList_append_own _ rfl _ _ 24 rfl w.heap.size 23 i0 (.float .f64 0) 1 8 Tryz.underlying24 hi hz0 hz1 hz2 rfl (by decide) _ _ _ rfl (hown.alloc _) ⟨wr.heap.size, 0, none⟩ 4 4 [.float .f64 9218868437227405311, .float .f64 0, .float .f64 18442240474082181119, .float .f64 0] rfl rfl ?c1 ?c2 ?c3 ?c4 ?c5 ?_)
      case c1 =>
        intro j u hj
        match j, hj with
        | 0, hj => simp at hj; subst hj; simp [Addr.add]
        | 1, hj => simp at hj; subst hj; simp [Addr.add]
        | 2, hj => simp at hj; subst hj; simp [Addr.add]
        | 3, hj => simp at hj; subst hj; simp [Addr.add]
      case c2 => intro u hu; simp at hu; rcases hu with rfl | rfl | rfl | rfl <;> rfl
      case c3 => unfold maxLen; omega
      case c4 => omega
      case c5 => simp; omega
      intro v' w2 hown' hgrow _
      have hown2 : w2.ownsRow w.heap.size 23 1 v' (4 * (k + 1)) (fl (row false) (4 * (k + 1))) := by rw [← fl_four]; exact hown'
      have hbl2 : Below w.heap.size w w2 := (hbl.alloc (by omega) _).grown hgrow (by simp; omega) (fun r hr => (hown.lt r hr).1)
      clear hgrow hown hbl hown'
      go_wp2
      go_roundw
      case rel => exact ⟨k + 1, by omega, by go_num, hown2, hbl2⟩
      case measure => simp [intOf]; omega
    · obtain rfl : k = n % 12 := by omega
      have hge : ¬ (((n % 12 : Nat) : Int) < (n : Int) % 12) := by omega
      obtain ⟨a, c, rfl, hF⟩ := owns_isF hown
      have HF := Lib.hid hF
      have HB := Lib.hid hbl
      generalize n % 12 = k at *
      clear hF hown hbl
      go_wp2_with fail
      refine (sum6 _ _ _ _ _ (by exact HF.out)).mono ?_
      rintro e w4 ⟨x, y, rfl, s1, l1⟩
      obtain ⟨rfl, rfl⟩ := ends' _ s1
      clear s1
      go_wp2_with fail
      refine (sum7 _ _ _ _ _ (by exact HF.out.below l1 (Nat.le_refl _))).mono ?_
      rintro e w5 ⟨x, y, rfl, s2, l2⟩
      obtain ⟨rfl, rfl⟩ := ends' _ s2
      clear s2
      have L2 := l1.trans (l2.mono l1.size)
      clear l1 l2
      go_wp2_with fail
      refine (same5 _ _ _ _ _ (.inl rfl) (.inl rfl)).mono ?_
      rintro e w6 ⟨rfl, rfl⟩
      go_wp2_with fail
      refine (sum6 _ _ _ _ _ (by exact HF.out.below L2 (Nat.le_refl _))).mono ?_
      rintro e w7 ⟨x, y, rfl, s3, l3⟩
      obtain ⟨rfl, rfl⟩ := ends' _ s3
      clear s3
      have L3 := L2.trans (l3.mono L2.size)
      clear L2 l3
      go_wp2_with fail
      refine (text8 false k _ (HT.out.below (HB.out.trans (L3.mono HB.out.size)))).mono ?_
      rintro e w8 ⟨rfl, l4⟩
      have L4 := L3.trans (l4.mono L3.size)
      clear L3 l4
      go_wp2_with fail
      refine (sum7 _ _ _ _ _ (by exact HF.out.below L4 (Nat.le_refl _))).mono ?_
      rintro e w9 ⟨x, y, rfl, s4, l5⟩
      obtain ⟨rfl, rfl⟩ := ends' _ s4
      clear s4
      have L5 := L4.trans (l5.mono L4.size)
      clear L4 l5
      go_wp2_with fail
      refine (text9 false k _).mono ?_
      rintro e w10 ⟨rfl, l6⟩
      have L6 := L5.trans (l6.mono L5.size)
      clear L5 l6
      go_wp2
      go_ret
      exact ⟨rfl, HB.out.trans (L6.mono HB.out.size)⟩

theorem ends3 (n : Nat) (hn : n < 256) (s : Bool) (w : World) (hT : Tab w) :
    Calls Tryz.prog 3 #[.int .u8 n, .bool s] w fun e w' => e = .returned (.bool true) ∧ Below w.heap.size w w' := by
  cases s
  · exact ends_false n hn w hT
  · exact ends_true n hn w hT
end Ze
end Go.Proofs.YtofageoljphleaaGreatDoor
