/- The reader by words; readEven, readWhole. -/
import Derived.Test.YtidbpoigbfpocaaDoorTj
import Derived.Test.YtidbpoigbfpocaaDoorLu
namespace Go.Proofs.YtidbpoigbfpocaaDoor
open Go.RowKit
namespace Tg
open Bm Mt Wr Pk Rp Cv Rd Rx Ux Sz Tm Ti

/-- The reader at block g has taken k words. -/
def Rs (w : World) (g : Nat) (s : Value) (bs : List Nat) (k : Nat) : Prop :=
  (8 * k ≤ bs.length ∧ Rh w g s bs (64 * k) false) ∨ (bs.length < 8 * k ∧ Rh w g s [] 0 true)
/-- The next word, or nothing. -/
def wordAt (bs : List Nat) (k : Nat) : Nat := if 8 * (k + 1) ≤ bs.length then num8 bs (8 * k) else 0
theorem get_word (w : World) (g : Nat) (s : Value) (bs : List Nat) (k : Nat) (h : Rs w g s bs k) (hX : ∀ b ∈ bs, b < 256) (hb : bs.length ≤ 140737488353272) :
    Calls Tryd.prog 42 #[.pointer (some ⟨g, 0, none⟩), .int .i64 64] w fun e w' => e = .returned (.int .u64 (wordAt bs k : Nat)) ∧ (∃ s', Rs w' g s' bs (k + 1) ∧ (s' = s ∨ s' = .slice none 0 0)) ∧ Only w w' g := by
  rcases h with ⟨h1, h2⟩ | ⟨h1, h2⟩
  · by_cases h3 : 8 * (k + 1) ≤ bs.length
    · refine (get_ok w g s bs (64 * k) 64 (bb bs) h2 (has_bb hX) (by decide) (by decide) (by omega) hb).mono ?_
      rintro e w' ⟨rfl, h4, h5⟩
      refine ⟨?_, ⟨s, .inl ⟨h3, ?_⟩, .inl rfl⟩, h5⟩
      · rw [num_word hX]
        unfold wordAt
        rw [if_pos h3]
      · rw [show 64 * (k + 1) = 64 * k + 64 from by omega]; exact h4
    · refine (get_few w g s bs (64 * k) h2 64 (by decide) (by decide) (by omega) hb (by omega)).mono ?_
      rintro e w' ⟨rfl, h4, h5⟩
      refine ⟨?_, ⟨_, .inr ⟨by omega, h4⟩, .inr rfl⟩, h5⟩
      unfold wordAt
      rw [if_neg h3]
      rfl
  · refine (get_bad w g s [] 0 h2 64).mono ?_
    rintro e w' ⟨rfl, rfl⟩
    refine ⟨?_, ⟨s, .inr ⟨by omega, h2⟩, .inl rfl⟩, Only.refl _ _⟩
    unfold wordAt
    rw [if_neg (by omega)]
    rfl
theorem Rs.kept {w w' : World} {g : Nat} {s : Value} {bs : List Nat} {k : Nat} {row : Option Nat} (h : Rs w g s bs k) (hg : w.grownBy w' row) (h1 : row ≠ some g) (h2 : s.ownBlock = none ∨ s.ownBlock ≠ row) : Rs w' g s bs k := by
  rcases h with ⟨a, h⟩ | ⟨a, h⟩
  · exact .inl ⟨a, Rx.Rh.kept h hg h1 h2⟩
  · exact .inr ⟨a, Rx.Rh.kept h hg h1 h2⟩
theorem Rs.alloc {w : World} {g : Nat} {s : Value} {bs : List Nat} {k : Nat} (h : Rs w g s bs k) (o : Obj) : Rs (w.alloc o) g s bs k := by
  rcases h with ⟨a, h⟩ | ⟨a, h⟩
  · exact .inl ⟨a, Rx.Rh.alloc h o⟩
  · exact .inr ⟨a, Rx.Rh.alloc h o⟩
theorem Rs.lt {w : World} {g : Nat} {s : Value} {bs : List Nat} {k : Nat} (h : Rs w g s bs k) : g < w.heap.size ∧ ∀ q, s.ownBlock = some q → q < w.heap.size := by
  rcases h with ⟨_, h⟩ | ⟨_, h⟩
  · obtain ⟨B, ho⟩ := h.own
    exact ⟨h.lt, fun q hq => (ho.lt q hq).2⟩
  · obtain ⟨B, ho⟩ := h.own
    exact ⟨h.lt, fun q hq => (ho.lt q hq).2⟩
theorem new_word (w : World) (s : Value) (bs : List Nat) (h : Is w s bs) (hb : bs.length ≤ 140737488353272) :
    Calls Tryd.prog 41 #[s] w fun e w' => ∃ g v, e = .returned (.pointer (some ⟨g, 0, none⟩)) ∧ Rs w' g v bs 0 ∧ w.heap.size ≤ g ∧ (∀ k, v.ownBlock = some k → w.heap.size ≤ k) ∧ Below w.heap.size w w' := by
  refine (new16 w s bs h hb).mono ?_
  rintro e w' ⟨g, v, rfl, h1, h2, h3, h4⟩
  exact ⟨g, v, rfl, .inl ⟨by omega, h1⟩, h2, h3, h4⟩
theorem only_grown {w w' : World} {g : Nat} (h : Only w w' g) : w.grownBy w' (some g) := ⟨h.os, h.tape, h.output, h.size, fun k hk hne => h.block k hk (fun e => hne (by rw [e]))⟩
theorem own_apart {w w' : World} {g B size n : Nat} {e : TypeId} {v : Value} {xs : List Value} (h : w.ownsRow B e size v n xs) (o : Only w w' g) (hne : v.ownBlock ≠ some g) : w'.ownsRow B e size v n xs :=
  h.kept (only_grown o) (.inr hne)

theorem Is.below {w w' : World} {s : Value} {bs : List Nat} (h : Is w s bs) (b : Below w.heap.size w w') : Is w' s bs := by
  rcases h with h | ⟨ad, c, h1, h2⟩
  · exact .inl h
  · exact .inr ⟨ad, c, h1, fun j u hj => (b.cell (cell_lt (h2 j u hj))).trans (h2 j u hj)⟩
/-- A slice of one time, made anew. -/
theorem own_one (w : World) (F : Int) : (w.alloc (.cells #[.int .i64 F] 2)).ownsRow w.heap.size 2 1 (.slice (some ⟨w.heap.size, 0, none⟩) 1 1) 1 (i64s [F]) :=
  World.ownsRow_lit (size := 1) w #[.int .i64 F] 1 (Nat.le_refl _) (by decide) rfl
theorem wrap_id {F : Int} (hF : -9223372036854775808 ≤ F ∧ F ≤ 9223372036854775807) : wrap64 F = F := by unfold wrap64; omega
theorem farOf_word (bs : List Nat) : farOf bs = wordAt bs 0 := by unfold farOf wordAt; simp
theorem word_lt {bs : List Nat} (hX : ∀ b ∈ bs, b < 256) (k : Nat) : wordAt bs k < 18446744073709551616 := by
  unfold wordAt
  split
  · have := num8_lt hX (8 * k); omega
  · omega
def ev (F : Int) (d : Nat) (k : Nat) : Int := wrap64 (F + (k : Int) * (d : Int))
theorem ev_zero {F : Int} (hF : -9223372036854775808 ≤ F ∧ F ≤ 9223372036854775807) (d : Nat) : ev F d 0 = F := by unfold ev; rw [Int.ofNat_zero, Int.zero_mul, Int.add_zero, wrap_id hF]
theorem ev_succ (F : Int) (d k : Nat) : ev F d (k + 1) = wrap64 (ev F d k + wrap64 (d : Nat)) := by
  unfold ev
  rw [show ((k + 1 : Nat) : Int) * (d : Int) = (k : Int) * (d : Int) + (d : Int) from by push_cast; rw [Int.add_mul, Int.one_mul]]
  generalize (k : Int) * (d : Int) = q
  unfold wrap64
  omega
theorem ev_tab (F : Int) (d m : Nat) : evenT F d m = tab (ev F d) (m + 1) := rfl

set_option maxRecDepth 100000 in
set_option maxHeartbeats 1000000 in
theorem even44 (w : World) (v : Value) (bs : List Nat) (F : Int) (n : Nat) (hIs : Is w v bs) (hX : ∀ b ∈ bs, b < 256) (hb : bs.length ≤ 140737488353272) (hF : -9223372036854775808 ≤ F ∧ F ≤ 9223372036854775807) (hn : 1 ≤ n) (hn9 : n ≤ 1000) :
    Calls Tryd.prog 44 #[v, .int .i64 F, .int .i64 (n : Nat)] w fun e w' => ∃ r, e = .returned r ∧ w'.ownsRow w.heap.size 2 1 r n (i64s (evenT F (farOf bs) (n - 1))) ∧ Below w.heap.size w w' := by
  obtain ⟨i0, hi, hz0, hz1, hz2⟩ := info_parts info2
  have F41 : Hid (∀ x, Below w.heap.size w x → Calls Tryd.prog 41 #[v] x fun e w' => ∃ g v, e = .returned (.pointer (some ⟨g, 0, none⟩)) ∧ Rs w' g v bs 0 ∧ x.heap.size ≤ g ∧ (∀ k, v.ownBlock = some k → x.heap.size ≤ k) ∧ Below x.heap.size x w') :=
    Lib.hid fun x b => new_word x v bs (Is.below hIs b) hb
  have F42 : Hid (∀ x g s, Rs x g s bs 0 → Calls Tryd.prog 42 #[.pointer (some ⟨g, 0, none⟩), .int .i64 64] x fun e w' => e = .returned (.int .u64 (farOf bs : Nat)) ∧ Only x w' g) := Lib.hid fun x g s h => by
    refine (get_word x g s bs 0 h hX hb).mono ?_
    rintro e w' ⟨rfl, _, h2⟩
    exact ⟨by rw [farOf_word], h2⟩
  have hd := word_lt hX 0
  rw [← farOf_word] at hd
  obtain ⟨D, hD⟩ : ∃ D, D = farOf bs := ⟨_, rfl⟩
  rw [← hD] at F42 hd ⊢
  rw [ev_tab, show n - 1 + 1 = n from by omega]
  have HZ : Hid (ev F D 0 = F) := Lib.hid (ev_zero hF D)
  have HONE : Hid ((w.alloc (.cells #[.int .i64 F] 2)).ownsRow w.heap.size 2 1 (.slice (some ⟨w.heap.size, 0, none⟩) 1 1) 1 (i64s (tab (ev F D) 1))) := Lib.hid (by
    have := own_one w F
    rw [show tab (ev F D) 1 = [F] from by show [ev F D 0] = [F]; rw [ev_zero hF D]]
    exact this)
  have HBA : Hid (Below w.heap.size w (w.alloc (.cells #[.int .i64 F] 2))) := Lib.hid ((Below.refl _ _).alloc (Nat.le_refl _) _)
  have HSA : Hid ((w.alloc (.cells #[.int .i64 F] 2)).heap.size = w.heap.size + 1) := Lib.hid (by simp)
  clear hIs hX hb hD
  go_enter Tryd.func44, Tryd.ntmps44
  go_wp2_with fail
  refine (F41.out _ HBA.out).mono ?_
  rintro e w1 ⟨g, s, rfl, h1, h2, h3, b1⟩
  have Q1 := Lib.hid h1
  have B1 := Lib.hid b1
  have HG := Lib.hid h2
  clear h1 h3 b1 h2
  go_wp2_with fail
  refine (F42.out _ _ _ Q1.out).mono ?_
  rintro e w2 ⟨rfl, o2⟩
  have B2 := Lib.hid (B1.out.trans (o2.below (B := (w.alloc (.cells #[.int .i64 F] 2)).heap.size) HG.out B1.out.size))
  have O2 := Lib.hid (own_below HONE.out B2.out)
  have B3 := Lib.hid (HBA.out.trans (B2.out.mono HBA.out.size))
  clear o2
  go_wp2_with fail
  go_loopw [9, 7, 18] (fun _ o i wr => ∃ k, k + 1 ≤ n ∧ i = .int .i64 (k : Nat) ∧ wr.ownsRow w.heap.size 2 1 o (k + 1) (i64s (tab (ev F D) (k + 1))) ∧ Below w.heap.size w wr) (fun _ _ i _ => n - (intOf i).toNat)
  case atStart => exact ⟨0, hn, rfl, O2.out, B3.out⟩
  case round =>
    obtain ⟨k, hk, rfl, ho, hbl⟩ := hrel
    by_cases hkn : k + 1 < n
    · obtain ⟨go, co, rfl⟩ := Go.Joins.ownsRow_form ho (by omega)
      have e1 : wr.cell? ⟨go, k, none⟩ = some (.int .i64 (ev F D k)) := by
        rw [ho.cellAt k (by omega)]
        rw [i64s_get _ k (by rw [tab_len]; omega), tab_get _ _ _ _ (by omega)]
      have HTD : Hid (i64s (tab (ev F D) (k + 1 + 1)) = i64s (tab (ev F D) (k + 1)) ++ [.int .i64 (wrap64 (ev F D k + wrap64 (D : Nat)))]) := Lib.hid (by rw [tab_succ, i64s_snoc, ev_succ])
      obtain ⟨E, hE⟩ : ∃ E, E = ev F D k := ⟨_, rfl⟩
      rw [← hE] at e1 HTD
      have HB := Lib.hid hbl
      have hbs := hbl.size
      have hown := ho
      have hk1 : (k : Int) < ((k + 1 : Nat) : Int) := by omega
      clear ho hbl hE
      obtain ⟨j, hj⟩ : ∃ j, j = k + 1 := ⟨_, rfl⟩
      rw [← hj] at hown HTD hk1
      have HJ := Lib.hid hj
      have hj9 : j ≤ 1000 := by omega
      rw [← hj]
      clear hj
      go_wp2_with (at_builtin; refine wpList_append_own _ rfl (.tmp 21) (.tmp 28) 22 rfl w.heap.size 2 i0 (.int .i64 0) 1 8 Tryd.underlying22 hi hz0 hz1 hz2 rfl (by decide) _ j _ rfl (hown.alloc _) ⟨wr.heap.size, 0, none⟩ 1 1 [.int .i64 (wrap64 (E + wrap64 (D : Nat)))] rfl rfl ?c1 ?c2 ?c3 ?c4 ?c5 ?_)
      case c1 => exact cell_one_new _ _ _
      case c2 => intro u hu; simp at hu; subst hu; rfl
      case c3 => unfold maxLen; omega
      case c4 => omega
      case c5 => simp; omega
      intro v' w6 hown' hgrow _
      have b6 := Lib.hid (Below.grown (HB.out.alloc (Nat.le_trans (Nat.le_refl _) hbs) _) hgrow (by simp; omega) (fun r hr => (hown.lt r hr).1))
      clear hgrow
      have hO6 := Lib.hid hown'
      clear hown'
      go_wp2_with fail
      go_roundw
      case rel => exact ⟨k + 1, by have := HJ.out; omega, by go_num, by have h := hO6.out; rw [← HTD.out, HJ.out] at h; exact h, b6.out⟩
      case measure => simp [intOf]; omega
    · obtain rfl : n = k + 1 := by omega
      have HB := Lib.hid hbl
      have HO := Lib.hid ho
      clear ho hbl
      go_wp2_with fail
      go_ret
      exact ⟨_, rfl, HO.out, HB.out⟩
end Tg
end Go.Proofs.YtidbpoigbfpocaaDoor
