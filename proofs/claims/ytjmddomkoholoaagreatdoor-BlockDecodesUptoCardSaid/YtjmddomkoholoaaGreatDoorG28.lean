import Derived.Test.YtjmddomkoholoaaGreatDoorG24
import Derived.Test.YtjmddomkoholoaaGreatDoorG16

/- The reader by words; readEven, readWhole. -/
namespace Go.Proofs.YtjmddomkoholoaaGreatDoor
open Go.RowKit
namespace Tg
open Bm Mt Wr Pk Rp Cv Rd Rx Ux Sz Tm Ti

/-- The reader at block g has taken k words. -/
def Rs (w : World) (g : Nat) (s : Value) (bs : List Nat) (k : Nat) : Prop :=
  (8 * k ≤ bs.length ∧ Rh w g s bs (64 * k) false) ∨ (bs.length < 8 * k ∧ Rh w g s [] 0 true)
/-- The next word, or nothing. -/
def wordAt (bs : List Nat) (k : Nat) : Nat := if 8 * (k + 1) ≤ bs.length then num8 bs (8 * k) else 0
theorem get_word (w : World) (g : Nat) (s : Value) (bs : List Nat) (k : Nat) (h : Rs w g s bs k) (hX : ∀ b ∈ bs, b < 256) (hb : bs.length ≤ 140737488353272) :
    Calls Tryz.prog 57 #[.pointer (some ⟨g, 0, none⟩), .int .i64 64] w fun e w' => e = .returned (.int .u64 (wordAt bs k : Nat)) ∧ (∃ s', Rs w' g s' bs (k + 1) ∧ (s' = s ∨ s' = .slice none 0 0)) ∧ Only w w' g := by
  rcases h with ⟨h1, h2⟩ | ⟨h1, h2⟩
  · by_cases h3 : 8 * (k + 1) ≤ bs.length
    · refine (get_ok w g s bs (64 * k) 64 (bb bs) h2 (has_bb hX) (by decide) (by decide) (by omega) hb).mono ?_
      rintro e w' ⟨rfl, h4, h5⟩
      refine ⟨?_, ⟨s, .inl ⟨h3, ?_⟩, .inl rfl⟩, h5⟩
      · rw [num_word hX]
        unfold wordAt
        rw [if_pos h3]
      · rw [show 64 * (k + 1) = 64 * k + 64 from by omega]; exact h4
    · refine (get_few w g s bs (64 * k) h2 64 (by decide) (by decide) (by omega) hb (by omega)).mono ?_
      rintro e w' ⟨rfl, h4, h5⟩
      refine ⟨?_, ⟨_, .inr ⟨by omega, h4⟩, .inr rfl⟩, h5⟩
      unfold wordAt
      rw [if_neg h3]
      rfl
  · refine (get_bad w g s [] 0 h2 64).mono ?_
    rintro e w' ⟨rfl, rfl⟩
    refine ⟨?_, ⟨s, .inr ⟨by omega, h2⟩, .inl rfl⟩, Only.refl _ _⟩
    unfold wordAt
    rw [if_neg (by omega)]
    rfl
theorem Rs.kept {w w' : World} {g : Nat} {s : Value} {bs : List Nat} {k : Nat} {row : Option Nat} (h : Rs w g s bs k) (hg : w.grownBy w' row) (h1 : row ≠ some g) (h2 : s.ownBlock = none ∨ s.ownBlock ≠ row) : Rs w' g s bs k := by
  rcases h with ⟨a, h⟩ | ⟨a, h⟩
  · exact .inl ⟨a, Rx.Rh.kept h hg h1 h2⟩
  · exact .inr ⟨a, Rx.Rh.kept h hg h1 h2⟩
theorem Rs.alloc {w : World} {g : Nat} {s : Value} {bs : List Nat} {k : Nat} (h : Rs w g s bs k) (o : Obj) : Rs (w.alloc o) g s bs k := by
  rcases h with ⟨a, h⟩ | ⟨a, h⟩
  · exact .inl ⟨a, Rx.Rh.alloc h o⟩
  · exact .inr ⟨a, Rx.Rh.alloc h o⟩
theorem Rs.lt {w : World} {g : Nat} {s : Value} {bs : List Nat} {k : Nat} (h : Rs w g s bs k) : g < w.heap.size ∧ ∀ q, s.ownBlock = some q → q < w.heap.size := by
  rcases h with ⟨_, h⟩ | ⟨_, h⟩
  · obtain ⟨B, ho⟩ := h.own
    exact ⟨h.lt, fun q hq => (ho.lt q hq).2⟩
  · obtain ⟨B, ho⟩ := h.own
    exact ⟨h.lt, fun q hq => (ho.lt q hq).2⟩
theorem new_word (w : World) (s : Value) (bs : List Nat) (h : Is w s bs) (hb : bs.length ≤ 140737488353272) :
    Calls Tryz.prog 56 #[s] w fun e w' => ∃ g v, e = .returned (.pointer (some ⟨g, 0, none⟩)) ∧ Rs w' g v bs 0 ∧ w.heap.size ≤ g ∧ (∀ k, v.ownBlock = some k → w.heap.size ≤ k) ∧ Below w.heap.size w w' := by
  refine (new16 w s bs h hb).mono ?_
  rintro e w' ⟨g, v, rfl, h1, h2, h3, h4⟩
  exact ⟨g, v, rfl, .inl ⟨by omega, h1⟩, h2, h3, h4⟩
theorem only_grown {w w' : World} {g : Nat} (h : Only w w' g) : w.grownBy w' (some g) := ⟨h.os, h.tape, h.output, h.size, fun k hk hne => h.block k hk (fun e => hne (by rw [e]))⟩
theorem own_apart {w w' : World} {g B size n : Nat} {e : TypeId} {v : Value} {xs : List Value} (h : w.ownsRow B e size v n xs) (o : Only w w' g) (hne : v.ownBlock ≠ some g) : w'.ownsRow B e size v n xs :=
  h.kept (only_grown o) (.inr hne)

theorem Is.below {w w' : World} {s : Value} {bs : List Nat} (h : Is w s bs) (b : Below w.heap.size w w') : Is w' s bs := by
  rcases h with h | ⟨ad, c, h1, h2⟩
  · exact .inl h
  · exact .inr ⟨ad, c, h1, fun j u hj => (b.cell (cell_lt (h2 j u hj))).trans (h2 j u hj)⟩
/-- A slice of one time, made anew. -/
theorem own_one (w : World) (F : Int) : (w.alloc (.cells #[.int .i64 F] 2)).ownsRow w.heap.size 2 1 (.slice (some ⟨w.heap.size, 0, none⟩) 1 1) 1 (i64s [F]) :=
  World.ownsRow_lit (size := 1) w #[.int .i64 F] 1 (Nat.le_refl _) (by decide) rfl
theorem wrap_id {F : Int} (hF : -9223372036854775808 ≤ F ∧ F ≤ 9223372036854775807) : wrap64 F = F := by unfold wrap64; omega
theorem farOf_word (bs : List Nat) : farOf bs = wordAt bs 0 := by unfold farOf wordAt; simp
theorem word_lt {bs : List Nat} (hX : ∀ b ∈ bs, b < 256) (k : Nat) : wordAt bs k < 18446744073709551616 := by
  unfold wordAt
  split
  · have := num8_lt hX (8 * k); omega
  · omega
def ev (F : Int) (d : Nat) (k : Nat) : Int := wrap64 (F + (k : Int) * (d : Int))
theorem ev_zero {F : Int} (hF : -9223372036854775808 ≤ F ∧ F ≤ 9223372036854775807) (d : Nat) : ev F d 0 = F := by unfold ev; rw [Int.ofNat_zero, Int.zero_mul, Int.add_zero, wrap_id hF]
theorem ev_succ (F : Int) (d k : Nat) : ev F d (k + 1) = wrap64 (ev F d k + wrap64 (d : Nat)) := by
  unfold ev
  rw [show ((k + 1 : Nat) : Int) * (d : Int) = (k : Int) * (d : Int) + (d : Int) from by push_cast; rw [Int.add_mul, Int.one_mul]]
  generalize (k : Int) * (d : Int) = q
  unfold wrap64
  omega
theorem ev_tab (F : Int) (d m : Nat) : evenT F d m = tab (ev F d) (m + 1) := rfl

set_option maxRecDepth 100000 in
set_option maxHeartbeats 1000000 in
theorem even44 (w : World) (v : Value) (bs : List Nat) (F : Int) (n : Nat) (hIs : Is w v bs) (hX : ∀ b ∈ bs, b < 256) (hb : bs.length ≤ 140737488353272) (hF : -9223372036854775808 ≤ F ∧ F ≤ 9223372036854775807) (hn : 1 ≤ n) (hn9 : n ≤ 1000) :
    Calls Tryz.prog 112 #[v, .int .i64 F, .int .i64 (n : Nat)] w fun e w' => ∃ r, e = .returned r ∧ w'.ownsRow w.heap.size 2 1 r n (i64s (evenT F (farOf bs) (n - 1))) ∧ Below w.heap.size w w' := by
  obtain ⟨i0, hi, hz0, hz1, hz2⟩ := info_parts info2
  have F41 : Hid (∀ x, Below w.heap.size w x → Calls Tryz.prog 56 #[v] x fun e w' => ∃ g v, e = .returned (.pointer (some ⟨g, 0, none⟩)) ∧ Rs w' g v bs 0 ∧ x.heap.size ≤ g ∧ (∀ k, v.ownBlock = some k → x.heap.size ≤ k) ∧ Below x.heap.size x w') :=
    Lib.hid fun x b => new_word x v bs (Is.below hIs b) hb
  have F42 : Hid (∀ x g s, Rs x g s bs 0 → Calls Tryz.prog 57 #[.pointer (some ⟨g, 0, none⟩), .int .i64 64] x fun e w' => e = .returned (.int .u64 (farOf bs : Nat)) ∧ Only x w' g) := Lib.hid fun x g s h => by
    refine (get_word x g s bs 0 h hX hb).mono ?_
    rintro e w' ⟨rfl, _, h2⟩
    exact ⟨by rw [farOf_word], h2⟩
  have hd := word_lt hX 0
  rw [← farOf_word] at hd
  obtain ⟨D, hD⟩ : ∃ D, D = farOf bs := ⟨_, rfl⟩
  rw [← hD] at F42 hd ⊢
  rw [ev_tab, show n - 1 + 1 = n from by omega]
  have HZ : Hid (ev F D 0 = F) := Lib.hid (ev_zero hF D)
  have HONE : Hid ((w.alloc (.cells #[.int .i64 F] 2)).ownsRow w.heap.size 2 1 (.slice (some ⟨w.heap.size, 0, none⟩) 1 1) 1 (i64s (tab (ev F D) 1))) := Lib.hid (by
    have := own_one w F
    rw [show tab (ev F D) 1 = [F] from by show [ev F D 0] = [F]; rw [ev_zero hF D]]
    exact this)
  have HBA : Hid (Below w.heap.size w (w.alloc (.cells #[.int .i64 F] 2))) := Lib.hid ((Below.refl _ _).alloc (Nat.le_refl _) _)
  have HSA : Hid ((w.alloc (.cells #[.int .i64 F] 2)).heap.size = w.heap.size + 1) := Lib.hid (by simp)
  clear hIs hX hb hD
  go_enter Tryz.func112, Tryz.ntmps112
  go_wp2_with fail
  refine (F41.out _ HBA.out).mono ?_
  rintro e w1 ⟨g, s, rfl, h1, h2, h3, b1⟩
  have Q1 := Lib.hid h1
  have B1 := Lib.hid b1
  have HG := Lib.hid h2
  clear h1 h3 b1 h2
  go_wp2_with fail
  refine (F42.out _ _ _ Q1.out).mono ?_
  rintro e w2 ⟨rfl, o2⟩
  have B2 := Lib.hid (B1.out.trans (o2.below (B := (w.alloc (.cells #[.int .i64 F] 2)).heap.size) HG.out B1.out.size))
  have O2 := Lib.hid (own_below HONE.out B2.out)
  have B3 := Lib.hid (HBA.out.trans (B2.out.mono HBA.out.size))
  clear o2
  go_wp2_with fail
  go_loopw [9, 7, 18] (fun _ o i wr => ∃ k, k + 1 ≤ n ∧ i = .int .i64 (k : Nat) ∧ wr.ownsRow w.heap.size 2 1 o (k + 1) (i64s (tab (ev F D) (k + 1))) ∧ Below w.heap.size w wr) (fun _ _ i _ => n - (intOf i).toNat)
  case atStart => exact ⟨0, hn, rfl, O2.out, B3.out⟩
  case round =>
    obtain ⟨k, hk, rfl, ho, hbl⟩ := hrel
    by_cases hkn : k + 1 < n
    · obtain ⟨go, co, rfl⟩ := Go.Joins.ownsRow_form ho (by omega)
      have e1 : wr.cell? ⟨go, k, none⟩ = some (.int .i64 (ev F D k)) := by
        rw [ho.cellAt k (by omega)]
        rw [i64s_get _ k (by rw [tab_len]; omega), tab_get _ _ _ _ (by omega)]
      have HTD : Hid (i64s (tab (ev F D) (k + 1 + 1)) = i64s (tab (ev F D) (k + 1)) ++ [.int .i64 (wrap64 (ev F D k + wrap64 (D : Nat)))]) := Lib.hid (by rw [tab_succ, i64s_snoc, ev_succ])
      obtain ⟨E, hE⟩ : ∃ E, E = ev F D k := ⟨_, rfl⟩
      rw [← hE] at e1 HTD
      have HB := Lib.hid hbl
      have hbs := hbl.size
      have hown := ho
      have hk1 : (k : Int) < ((k + 1 : Nat) : Int) := by omega
      clear ho hbl hE
      obtain ⟨j, hj⟩ : ∃ j, j = k + 1 := ⟨_, rfl⟩
      rw [← hj] at hown HTD hk1
      have HJ := Lib.hid hj
      have hj9 : j ≤ 1000 := by omega
      rw [← hj]
      clear hj
      go_wp2_with (at_builtin; refine wpList_append_own _ rfl (.tmp 21) (.tmp 28) 54 rfl w.heap.size 2 i0 (.int .i64 0) 1 8 Tryz.underlying54 hi hz0 hz1 hz2 rfl (by decide) _ j _ rfl (hown.alloc _) ⟨wr.heap.size, 0, none⟩ 1 1 [.int .i64 (wrap64 (E + wrap64 (D : Nat)))] rfl rfl ?c1 ?c2 ?c3 ?c4 ?c5 ?_)
      case c1 => exact cell_one_new _ _ _
      case c2 => intro u hu; simp at hu; subst hu; rfl
      case c3 => unfold maxLen; omega
      case c4 => omega
      case c5 => simp; omega
      intro v' w6 hown' hgrow _
      have b6 := Lib.hid (Below.grown (HB.out.alloc (Nat.le_trans (Nat.le_refl _) hbs) _) hgrow (by simp; omega) (fun r hr => (hown.lt r hr).1))
      clear hgrow
      have hO6 := Lib.hid hown'
      clear hown'
      go_wp2_with fail
      go_roundw
      case rel => exact ⟨k + 1, by have := HJ.out; omega, by go_num, by have h := hO6.out; rw [← HTD.out, HJ.out] at h; exact h, b6.out⟩
      case measure => simp [intOf]; omega
    · obtain rfl : n = k + 1 := by omega
      have HB := Lib.hid hbl
      have HO := Lib.hid ho
      clear ho hbl
      go_wp2_with fail
      go_ret
      exact ⟨_, rfl, HO.out, HB.out⟩
end Tg
end Go.Proofs.YtjmddomkoholoaaGreatDoor

/- readWhole, readUneven. -/
namespace Go.Proofs.YtjmddomkoholoaaGreatDoor
open Go.RowKit
namespace Tg
open Bm Mt Wr Pk Rp Cv Rd Rx Ux Sz Tm Ti

def wh (F : Int) (bs : List Nat) (k : Nat) : Int := if k = 0 then F else if 8 * k ≤ bs.length then wrap64 (num8 bs (8 * k - 8) : Nat) else 0
theorem wh_tab (F : Int) (bs : List Nat) (m : Nat) : wholeT F bs m = tab (wh F bs) (m + 1) := rfl
theorem wh_succ (F : Int) (bs : List Nat) (k : Nat) : wh F bs (k + 1) = wrap64 (wordAt bs k : Nat) := by
  unfold wh wordAt
  rw [if_neg (by omega)]
  split
  · rw [show 8 * (k + 1) - 8 = 8 * k from by omega]
  · unfold wrap64; omega

set_option maxRecDepth 100000 in
set_option maxHeartbeats 1000000 in
theorem whole43 (w : World) (v : Value) (bs : List Nat) (F : Int) (n : Nat) (hIs : Is w v bs) (hX : ∀ b ∈ bs, b < 256) (hb : bs.length ≤ 140737488353272) (hn : 1 ≤ n) (hn9 : n ≤ 1000) :
    Calls Tryz.prog 111 #[v, .int .i64 F, .int .i64 (n : Nat)] w fun e w' => ∃ r, e = .returned r ∧ w'.ownsRow w.heap.size 2 1 r n (i64s (wholeT F bs (n - 1))) ∧ Below w.heap.size w w' := by
  obtain ⟨i0, hi, hz0, hz1, hz2⟩ := info_parts info2
  have F41 : Hid (∀ x, Below w.heap.size w x → Calls Tryz.prog 56 #[v] x fun e w' => ∃ g v, e = .returned (.pointer (some ⟨g, 0, none⟩)) ∧ Rs w' g v bs 0 ∧ x.heap.size ≤ g ∧ (∀ k, v.ownBlock = some k → x.heap.size ≤ k) ∧ Below x.heap.size x w') :=
    Lib.hid fun x b => new_word x v bs (Is.below hIs b) hb
  have F42 : Hid (∀ x g s k, Rs x g s bs k → Calls Tryz.prog 57 #[.pointer (some ⟨g, 0, none⟩), .int .i64 64] x fun e w' => e = .returned (.int .u64 (wordAt bs k : Nat)) ∧ (∃ s', Rs w' g s' bs (k + 1) ∧ (s' = s ∨ s' = .slice none 0 0)) ∧ Only x w' g) := Lib.hid fun x g s k h => get_word x g s bs k h hX hb
  rw [wh_tab, show n - 1 + 1 = n from by omega]
  have HONE : Hid ((w.alloc (.cells #[.int .i64 F] 2)).ownsRow w.heap.size 2 1 (.slice (some ⟨w.heap.size, 0, none⟩) 1 1) 1 (i64s (tab (wh F bs) 1))) := Lib.hid (own_one w F)
  have HBA : Hid (Below w.heap.size w (w.alloc (.cells #[.int .i64 F] 2))) := Lib.hid ((Below.refl _ _).alloc (Nat.le_refl _) _)
  have HSA : Hid ((w.alloc (.cells #[.int .i64 F] 2)).heap.size = w.heap.size + 1) := Lib.hid (by simp)
  clear hIs hX hb
  go_enter Tryz.func111, Tryz.ntmps111
  go_wp2_with fail
  refine (F41.out _ HBA.out).mono ?_
  rintro e w1 ⟨g, s, rfl, h1, h2, h3, b1⟩
  have Q1 := Lib.hid h1
  have HG : Hid (w.heap.size < g) := Lib.hid (by have := HSA.out; omega)
  have HS : Hid (∀ q, s.ownBlock = some q → q ≠ w.heap.size) := Lib.hid fun q hq e => by have := h3 q hq; have := HSA.out; omega
  have O1 := Lib.hid (own_below HONE.out b1)
  have B1 := Lib.hid (HBA.out.trans (b1.mono HBA.out.size))
  clear h1 h2 h3 b1
  go_wp2_with fail
  go_loopw [7, 15] (fun o i wr => ∃ k s, k + 1 ≤ n ∧ i = .int .i64 (k : Nat) ∧ wr.ownsRow w.heap.size 2 1 o (k + 1) (i64s (tab (wh F bs) (k + 1))) ∧ Rs wr g s bs k ∧ o.ownBlock ≠ some g ∧ (∀ q, s.ownBlock = some q → o.ownBlock ≠ some q) ∧ Below w.heap.size w wr) (fun _ i _ => n - (intOf i).toNat)
  case atStart =>
    refine ⟨0, s, hn, rfl, O1.out, Q1.out, fun e => ?_, fun q hq e => ?_, B1.out⟩
    · simp [Value.ownBlock] at e; have := HG.out; omega
    · simp [Value.ownBlock] at e; exact HS.out q hq e.symm
  case round =>
    obtain ⟨k, s2, hk, rfl, ho, hR, hg, hsq, hbl⟩ := hrel
    by_cases hkn : k + 1 < n
    · have FK := Lib.hid (F42.out _ _ _ _ hR)
      have HTD : Hid (i64s (tab (wh F bs) (k + 1 + 1)) = i64s (tab (wh F bs) (k + 1)) ++ [.int .i64 (wrap64 (wordAt bs k : Nat))]) := Lib.hid (by rw [tab_succ, i64s_snoc, wh_succ])
      have HO := Lib.hid ho
      have HRL := Lib.hid hR.lt
      have HNG := Lib.hid hg
      have HSQ := Lib.hid hsq
      have HBL := Lib.hid hbl
      obtain ⟨U, hU⟩ : ∃ U, U = wordAt bs k := ⟨_, rfl⟩
      rw [← hU] at HTD FK
      obtain ⟨j, hj⟩ : ∃ j, j = k + 1 := ⟨_, rfl⟩
      rw [← hj] at HO HTD FK
      have HJ := Lib.hid hj
      have hj9 : j ≤ 1000 := by omega
      clear hj hU ho hR hg hsq hbl
      go_wp2_with fail
      refine FK.out.mono ?_
      rintro e w4 ⟨rfl, ⟨s4, hR4, hs4⟩, o4⟩
      have hown := own_apart HO.out o4 HNG.out
      have B4 := Lib.hid (HBL.out.trans (o4.below (B := w.heap.size) (Nat.le_of_lt HG.out) HBL.out.size))
      have hs4b := B4.out.size
      have HR4 := Lib.hid hR4
      have HS4 : Hid (∀ q, s4.ownBlock = some q → u7.ownBlock ≠ some q) := Lib.hid fun q hq => by
        rcases hs4 with rfl | rfl
        · exact HSQ.out q hq
        · simp [Value.ownBlock] at hq
      have HL4 := Lib.hid hR4.lt
      clear hR4 hs4 o4
      go_wp2_with (at_builtin; refine wpList_append_own_at _ rfl (.tmp 17) (.tmp 21) 54 rfl w.heap.size 2 i0 (.int .i64 0) 1 8 Tryz.underlying54 hi hz0 hz1 hz2 rfl (by decide) _ j _ rfl (hown.alloc _) ⟨w4.heap.size, 0, none⟩ 1 1 [.int .i64 (wrap64 (U : Nat))] rfl rfl ?c1 ?c2 ?c3 ?c4 ?c5 ?_)
      case c1 => exact cell_one_new _ _ _
      case c2 => intro u hu; simp at hu; subst hu; rfl
      case c3 => unfold maxLen; omega
      case c4 => omega
      case c5 => simp; omega
      intro v' w6 hown' hgrow _ hat
      have b6 := Lib.hid (Below.grown (B4.out.alloc (Nat.le_trans (Nat.le_refl _) hs4b) _) hgrow (by simp; omega) (fun r hr => (hown.lt r hr).1))
      have HAT : Hid (∀ q, v'.ownBlock = some q → u7.ownBlock = some q ∨ w4.heap.size ≤ q) := Lib.hid fun q hq => by
        rcases hat with h | h
        · exact .inl (h ▸ hq)
        · rw [h] at hq; cases hq; exact .inr (by simp)
      have HR6 : Hid (Rs w6 g s4 bs j) := Lib.hid (Rs.kept (HR4.out.alloc _) hgrow HNG.out (by
        by_cases e : s4.ownBlock = none
        · exact .inl e
        · refine .inr fun h => ?_
          obtain ⟨q, hq⟩ := Option.ne_none_iff_exists'.1 e
          exact HS4.out q hq (h ▸ hq)))
      clear hgrow hat
      have hO6 := Lib.hid hown'
      clear hown'
      go_wp2_with fail
      go_roundw
      case rel =>
        refine ⟨k + 1, s4, by have := HJ.out; omega, by go_num, by have h := hO6.out; rw [← HTD.out, HJ.out] at h; exact h, by have h := HR6.out; rw [HJ.out] at h; exact h, fun e => ?_, fun q hq e => ?_, b6.out⟩
        · rcases HAT.out g e with h | h
          · exact HNG.out h
          · have := HL4.out.1; omega
        · rcases HAT.out q e with h | h
          · exact HS4.out q hq h
          · have := HL4.out.2 q hq; omega
      case measure => simp [intOf]; omega
    · obtain rfl : n = k + 1 := by omega
      have HB := Lib.hid hbl
      have HO := Lib.hid ho
      clear ho hbl hR hg hsq
      go_wp2_with fail
      go_ret
      exact ⟨_, rfl, HO.out, HB.out⟩
end Tg
end Go.Proofs.YtjmddomkoholoaaGreatDoor

/- readUneven. -/
namespace Go.Proofs.YtjmddomkoholoaaGreatDoor
open Go.RowKit
namespace Tg
open Bm Mt Wr Pk Rp Cv Rd Rx Ux Sz Tm Ti Lu

def un (F : Int) (cs : List Nat) (k : Nat) : Int := wrap64 (tims F cs k)
theorem un_tab (F : Int) (cs : List Nat) : unevenT F cs = tab (un F cs) (cs.length + 1) := rfl
theorem un_zero {F : Int} (hF : -9223372036854775808 ≤ F ∧ F ≤ 9223372036854775807) (cs : List Nat) : un F cs 0 = F := wrap_id hF
theorem un_succ (F : Int) (cs : List Nat) (k : Nat) : un F cs (k + 1) = wrap64 (un F cs k + wrap64 (accs cs (k + 1))) := by
  unfold un
  simp only [tims]
  generalize accs cs (k + 1) = q
  unfold wrap64
  omega
theorem accs_wrap (cs : List Nat) (k : Nat) : wrap64 (accs cs (k + 1)) = wrap64 (wrap64 (accs cs k) + zag (cs.getD k 0 : Nat)) := by
  simp only [accs]
  unfold wrap64
  omega
/-- What readUneven tells. -/
def unT (F : Int) (bs : List Nat) (m : Nat) : List Int :=
  match unpacks bs (m : Int) with
  | some cs => unevenT F cs
  | none => []

set_option maxRecDepth 100000 in
set_option maxHeartbeats 1000000 in
theorem uneven45 (w : World) (v : Value) (bs : List Nat) (F : Int) (n : Nat) (hP : Pl w v bs) (hIs : Is w v bs) (hX : ∀ b ∈ bs, b < 256) (hTb : Tab w) (hb : bs.length ≤ 140737488353272) (hF : -9223372036854775808 ≤ F ∧ F ≤ 9223372036854775807) (hn : 1 ≤ n) (hn9 : n ≤ 1000) :
    Calls Tryz.prog 113 #[v, .int .i64 F, .int .i64 (n : Nat)] w fun e w' => ∃ r, e = .returned r ∧ w'.ownsRow w.heap.size 2 1 r (unT F bs (n - 1)).length (i64s (unT F bs (n - 1))) ∧ Below w.heap.size w w' := by
  obtain ⟨i0, hi, hz0, hz1, hz2⟩ := info_parts info2
  have F51 := Lib.hid (unpack11 w v bs ((n - 1 : Nat) : Int) hP hIs hX hTb hb (by omega) (by omega) (by omega))
  have hs1 : (n : Int) - 1 = ((n - 1 : Nat) : Int) := by omega
  cases hu : unpacks bs ((n - 1 : Nat) : Int) with
  | none =>
    have HR : Hid (unT F bs (n - 1) = []) := Lib.hid (by unfold unT; rw [hu])
    have F51n : Hid (Calls Tryz.prog 146 #[v, .int .i64 ((n - 1 : Nat) : Int)] w fun e w' => e = .returned (.tuple #[.slice none 0 0, .int .i64 2]) ∧ Below w.heap.size w w') := Lib.hid (F51.out.mono fun e w' h => Unpacked.bad h hu)
    rw [← hs1] at F51n
    clear F51 hP hIs hX hTb hb hu hs1
    go_enter Tryz.func113, Tryz.ntmps113
    go_wp2_with fail
    refine F51n.out.mono ?_
    rintro e w1 ⟨rfl, b1⟩
    have B1 := Lib.hid b1
    clear b1
    go_wp2_with fail
    go_ret
    exact ⟨_, rfl, by rw [HR.out]; exact World.ownsRow_nil _ _ _ _, B1.out⟩
  | some cs =>
    have hcl := unpacks_len hu
    have HR : Hid (unT F bs (n - 1) = tab (un F cs) n) := Lib.hid (by unfold unT; rw [hu, ← show cs.length + 1 = n from by omega]; rfl)
    have F51s : Hid (Calls Tryz.prog 146 #[v, .int .i64 ((n - 1 : Nat) : Int)] w fun e w' => ∃ r, e = .returned (.tuple #[r, .int .i64 0]) ∧ Iu w' r cs ∧ Below w.heap.size w w') := Lib.hid (F51.out.mono fun e w' h => by
      obtain ⟨hS, _, r, he, ho, bl⟩ := Unpacked.ok h hu
      exact ⟨r, he, iu_own ho (small64 hS), bl⟩)
    have H64 : Hid (∀ k, cs.getD k 0 < 18446744073709551616) := Lib.hid fun k => by
      unfold unpacks at hu
      split at hu
      · cases hr : reads ((n - 1 : Nat) : Int).toNat [] (wordsOf bs (bs.length / 8)) with
        | none => rw [hr] at hu; cases hu
        | some l' =>
          rw [hr] at hu
          simp only [Option.bind_some] at hu
          split at hu
          · cases hu
            exact Nat.lt_trans ((reads_small hr small_nil).get k) (by decide)
          · cases hu
      · cases hu
    rw [← hs1] at F51s
    have HONE : Hid (∀ x : World, (x.alloc (.cells #[.int .i64 F] 2)).ownsRow x.heap.size 2 1 (.slice (some ⟨x.heap.size, 0, none⟩) 1 1) 1 (i64s (tab (un F cs) 1))) := Lib.hid fun x => by
      have := own_one x F
      rw [show tab (un F cs) 1 = [F] from by show [un F cs 0] = [F]; rw [un_zero hF cs]]
      exact this
    have HA0 : Hid ((0 : Int) = wrap64 (accs cs 0)) := Lib.hid (by simp only [accs]; unfold wrap64; omega)
    clear F51 hP hIs hX hTb hb hu hs1
    obtain ⟨m, hm⟩ : ∃ m, m = cs.length := ⟨_, rfl⟩
    rw [← hm] at hcl
    have HM := Lib.hid hm
    clear hm
    by_cases hm0 : m = 0
    · have hn1 : n = 1 := by omega
      subst hn1
      have hc0 : Hid (cs = []) := Lib.hid (List.length_eq_zero_iff.1 (by have := HM.out; omega))
      have F51z : Hid (Calls Tryz.prog 146 #[v, .int .i64 0] w fun e w' => ∃ a c, e = .returned (.tuple #[.slice a 0 c, .int .i64 0]) ∧ Below w.heap.size w w') := Lib.hid (F51s.out.mono fun e w' ⟨r, he, hI, bl⟩ => by
        rcases hI.cases with ⟨a, c, rfl, _⟩ | ⟨h0, _⟩
        · exact ⟨a, c, he, bl⟩
        · rw [hc0.out] at h0; simp at h0)
      clear F51s hcl hm0
      go_enter Tryz.func113, Tryz.ntmps113
      go_wp2_with fail
      refine F51z.out.mono ?_
      rintro e w1 ⟨a1, c1, rfl, b1⟩
      have B1 := Lib.hid b1
      clear b1
      go_wp2_with fail
      refine wp_loop_rounds 1 ?_
      rw [rounds_succ]
      go_wp2_with fail
      go_ret
      refine ⟨_, rfl, ?_, B1.out.alloc B1.out.size _⟩
      rw [HR.out, tab_len]
      exact Go.Joins.ownsRow_le (HONE.out w1) B1.out.size
    · have F51z : Hid (Calls Tryz.prog 146 #[v, .int .i64 ((n : Int) - 1)] w fun e w' => ∃ b off c, e = .returned (.tuple #[.slice (some ⟨b, off, none⟩) m c, .int .i64 0]) ∧ b < w'.heap.size ∧ (∀ i, i < m → w'.cell? ⟨b, off + i, none⟩ = some (.int .u64 (cs.getD i 0 : Nat))) ∧ m ≤ c ∧ Below w.heap.size w w') := Lib.hid (F51s.out.mono fun e w' ⟨r, he, hI, bl⟩ => by
        rcases hI.cases with ⟨a, c, rfl, h⟩ | ⟨_, b, off, c, rfl, h2, h3, h4⟩
        · rw [h] at HM; exact absurd HM.out hm0
        · rw [← HM.out] at he h4 h2
          exact ⟨b, off, c, he, h3, h4, h2, bl⟩)
      clear F51s
      go_enter Tryz.func113, Tryz.ntmps113
      go_wp2_with fail
      refine F51z.out.mono ?_
      rintro e w1 ⟨b1, off, c1, rfl, hb1, hcell, hmc, bl1⟩
      have B1 := Lib.hid bl1
      have HC := Lib.hid hcell
      have hO1 := Lib.hid (HONE.out w1)
      have HBA : Hid (Below w1.heap.size w1 (w1.alloc (.cells #[.int .i64 F] 2))) := Lib.hid ((Below.refl _ _).alloc (Nat.le_refl _) _)
      clear bl1 hcell
      go_wp2_with fail
      go_loopw [11, 12, 10, 9, 26] (fun _ _ d o i wr => ∃ k, k ≤ m ∧ i = .int .i64 (k : Nat) ∧ d = .int .i64 (wrap64 (accs cs k)) ∧ wr.ownsRow w1.heap.size 2 1 o (k + 1) (i64s (tab (un F cs) (k + 1))) ∧ Below w1.heap.size w1 wr) (fun _ _ _ _ i _ => m - (intOf i).toNat)
      case atStart => exact ⟨0, Nat.zero_le _, rfl, by rw [← HA0.out], hO1.out, HBA.out⟩
      case round =>
        obtain ⟨k, hk, rfl, rfl, ho, hbl⟩ := hrel
        by_cases hkn : k < m
        · obtain ⟨go, co, rfl⟩ := Go.Joins.ownsRow_form ho (by omega)
          have e1 : wr.cell? ⟨go, k, none⟩ = some (.int .i64 (un F cs k)) := by
            rw [ho.cellAt k (by omega)]
            rw [i64s_get _ k (by rw [tab_len]; omega), tab_get _ _ _ _ (by omega)]
          have e2 := (hbl.cell hb1).trans (HC.out k hkn)
          have hcs := H64.out k
          have haw := accs_wrap cs k
          have HTD : Hid (i64s (tab (un F cs) (k + 1 + 1)) = i64s (tab (un F cs) (k + 1)) ++ [.int .i64 (wrap64 (un F cs k + wrap64 (accs cs (k + 1))))]) := Lib.hid (by rw [tab_succ, i64s_snoc, un_succ])
          obtain ⟨E, hE⟩ : ∃ E, E = un F cs k := ⟨_, rfl⟩
          rw [← hE] at e1 HTD
          obtain ⟨C, hC⟩ : ∃ C, C = cs.getD k 0 := ⟨_, rfl⟩
          rw [← hC] at e2 hcs haw
          obtain ⟨A, hA⟩ : ∃ A, A = wrap64 (accs cs k) := ⟨_, rfl⟩
          obtain ⟨A2, hA2⟩ : ∃ A2, A2 = wrap64 (accs cs (k + 1)) := ⟨_, rfl⟩
          rw [← hA, ← hA2] at haw
          rw [← hA2] at HTD
          have HA2 := Lib.hid hA2
          rw [← hA]
          obtain ⟨G, hG⟩ : ∃ G, G = zag (C : Nat) := ⟨_, rfl⟩
          rw [← hG] at haw
          have hsum := haw.symm
          have F52 : Hid (∀ x, Calls Tryz.prog 147 #[.int .u64 (C : Nat)] x fun e w' => e = .returned (.int .i64 G) ∧ w' = x) := Lib.hid fun x => by
            rw [hG]
            exact zag24 (C : Nat) (by omega) (by omega) x
          have HB := Lib.hid hbl
          have hbs := hbl.size
          have hown := ho
          have hk1 : (k : Int) < ((k + 1 : Nat) : Int) := by omega
          clear ho hbl hE hC hA hA2 haw hG hcs
          obtain ⟨j, hj⟩ : ∃ j, j = k + 1 := ⟨_, rfl⟩
          rw [← hj] at hown HTD hk1
          have HJ := Lib.hid hj
          have hj9 : j ≤ 1000 := by omega
          rw [← hj]
          clear hj
          go_wp2_with fail
          refine (F52.out _).mono ?_
          rintro e w5 ⟨rfl, h5⟩
          rw [h5]
          clear h5 w5
          go_wp2_with (at_builtin; refine wpList_append_own _ rfl (.tmp 35) (.tmp 42) 54 rfl w1.heap.size 2 i0 (.int .i64 0) 1 8 Tryz.underlying54 hi hz0 hz1 hz2 rfl (by decide) _ j _ rfl (hown.alloc _) ⟨wr.heap.size, 0, none⟩ 1 1 [.int .i64 (wrap64 (E + A2))] rfl rfl ?c1 ?c2 ?c3 ?c4 ?c5 ?_)
          case c1 => exact cell_one_new _ _ _
          case c2 => intro u hu; simp at hu; subst hu; rfl
          case c3 => unfold maxLen; omega
          case c4 => omega
          case c5 => simp; omega
          intro v' w6 hown' hgrow _
          have b6 := Lib.hid (Below.grown (HB.out.alloc (Nat.le_trans (Nat.le_refl _) hbs) _) hgrow (by simp; omega) (fun r hr => (hown.lt r hr).1))
          clear hgrow
          have hO6 := Lib.hid hown'
          clear hown'
          go_wp2_with fail
          go_roundw
          case rel => exact ⟨k + 1, by have := HJ.out; omega, by go_num, by rw [HA2.out], by have h := hO6.out; rw [← HTD.out, HJ.out] at h; exact h, b6.out⟩
          case measure => simp [intOf]; omega
        · obtain rfl : k = m := by omega
          have HB := Lib.hid hbl
          have HO := Lib.hid ho
          have HKN : Hid (k + 1 = n) := Lib.hid (by omega)
          clear ho hbl
          go_wp2_with fail
          go_ret
          refine ⟨_, rfl, ?_, B1.out.trans (HB.out.mono B1.out.size)⟩
          rw [HR.out, tab_len]
          have h := HO.out
          rw [HKN.out] at h
          exact Go.Joins.ownsRow_le h B1.out.size
end Tg
end Go.Proofs.YtjmddomkoholoaaGreatDoor
