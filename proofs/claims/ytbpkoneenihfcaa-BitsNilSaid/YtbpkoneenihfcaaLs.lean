/- The law of short bytes. -/
import Derived.Test.YtbpkoneenihfcaaSd
import Derived.Deep.RegionHeld3
namespace Go.Proofs.Ytbpkoneenihfcaa
open Go.RowKit
namespace Sr
open Sm Wr

theorem Pl.below {w w' : World} {s : Value} {bs : List Nat} (h : Pl w s bs) (b : Below w.heap.size w w') : Pl w' s bs := by
  rcases h with h | ⟨h0, b0, off, c, rfl, hl, hc⟩
  · exact .inl h
  · exact .inr ⟨h0, b0, off, c, rfl, hl, fun i hi => (b.cell (by have := cell_lt (hc i hi); exact this)).trans (hc i hi)⟩
theorem pl_own {w : World} {B : Nat} {v : Value} {bs : List Nat} (h : w.ownsRow B 5 1 v bs.length (u8s bs)) (h0 : 0 < bs.length) : Pl w v bs := by
  obtain ⟨_, ⟨_, e⟩ | ⟨g, c, cur, rfl, hg, hh, hnc, hcm, hsz, htk⟩⟩ := h
  · omega
  · refine .inr ⟨h0, g, 0, c, rfl, hnc, fun i hi => ?_⟩
    have h' : w.ownsRow B 5 1 (.slice (some ⟨g, 0, none⟩) bs.length c) bs.length (u8s bs) := ⟨by rw [u8s_len]; omega, .inr ⟨g, c, cur, rfl, hg, hh, hnc, hcm, hsz, htk⟩⟩
    rw [Nat.zero_add, h'.cellAt i (by omega)]
    exact u8s_get bs i hi
theorem own_below {w w' : World} {B : Nat} {v : Value} {n : Nat} {xs : List Value} (h : w.ownsRow B 5 1 v n xs) (b : Below w.heap.size w w') : w'.ownsRow B 5 1 v n xs :=
  h.kept (row := none) ⟨b.os, b.tape, b.output, b.size, fun k hk _ => b.block k hk⟩ (by
    by_cases e : v.ownBlock = none
    · exact .inl e
    · exact .inr e)
theorem u8s_one (bs : List Nat) : ∀ u ∈ u8s bs, u.oneCell' = true := by
  intro u hu; simp [u8s] at hu; obtain ⟨x, _, rfl⟩ := hu; rfl
theorem u8s_append (cs bs : List Nat) : u8s (cs ++ bs) = u8s cs ++ u8s bs := by simp [u8s]

set_option maxRecDepth 100000 in
set_option maxHeartbeats 2000000 in
theorem shorts7 (n : Nat) (hn : n < 18446744073709551616) (w : World) (s : Value) (bs : List Nat) (hs : Pl w s bs) (hx : s = .slice none 0 0 ∨ ∃ ad c, s = .slice (some ad) bs.length c) (hb : ∀ x ∈ bs, x < 256) (hl : bs.length ≤ 140737488351232) :
    Calls Try.prog 7 #[.int .u64 (n : Nat), s] w fun e w' => e = .returned (.bool true) ∧ Below w.heap.size w w' := by
  obtain ⟨i0, hi, hz0, hz1, hz2⟩ := info_parts info5
  go_enter Try.func7, Try.ntmps7
  go_wp2_with (go_at_call 9; refine (awake9 _).mono ?_; rintro e w1 ⟨rfl, b1⟩)
  refine (Sw.short26 n hn _).mono ?_
  rintro e w2 ⟨v, l, rfl, hsh, ho, b2⟩
  obtain ⟨hg1, hg2, hg3⟩ := short_good hn hsh bs
  have hl10 : l.length ≤ 10 := by
    obtain ⟨k, hk, _, rfl⟩ := hsh
    have := k_le hn hk
    simp [sh_len]; omega
  obtain ⟨g, c, rfl⟩ := Go.Joins.ownsRow_form ho hg3
  have B2 : Below w.heap.size w w2 := b1.trans (b2.mono b1.size)
  have P2 := Lib.hid (hs.below B2)
  have HO := Lib.hid ho
  have HSH := Lib.hid hsh
  have HR : Hid (Res (l ++ bs) n l.length) := Lib.hid (.inl ⟨_, hg1, by rw [show l.length - 1 + 1 = l.length from by omega]; exact hg2.symm, by omega⟩)
  have hll : (u8s l).length = l.length := u8s_len l
  clear b1 b2 hs hsh hg1 hg2
  obtain ⟨L, hL⟩ : ∃ L, L = l.length := ⟨_, rfl⟩
  rw [← hL] at hl10 hg3 hll ⊢
  have HL := Lib.hid hL
  clear hL
  have hsz := B2.size
  go_wp2_with (at_builtin; refine wpList_append_own _ rfl (.tmp 17) (.tmp 18) 26 rfl w2.heap.size 5 i0 (.int .u8 0) 1 1 Try.underlying26 hi hz0 hz1 hz2 rfl (by decide) _ 0 [] rfl ?o1 ⟨g, 0, none⟩ L c (u8s l) rfl (by rw [hll]; omega) ?c1 ?c2 ?c3 ?c4 ?c5 ?_)
  case o1 => exact World.ownsRow_lit (size := 1) w2 #[] 0 (Nat.le_refl _) (by decide) rfl
  case c1 =>
    intro j u hj
    have hc := HO.out.cells rfl j u hj
    rw [((Below.refl w2.heap.size w2).alloc (Nat.le_refl _) _).cell (cell_lt hc)]
    exact hc
  case c2 => exact u8s_one l
  case c3 => unfold maxLen; omega
  case c4 => omega
  case c5 => simp
  intro v3 w3 ho3 hgrow _
  have b3 : Below w2.heap.size w2 w3 := ((Below.refl _ _).alloc (Nat.le_refl _) _).grown hgrow (by simp) (fun r hr => by simp [Value.ownBlock] at hr; omega)
  clear hgrow
  have hnews : ∀ ad c, s = .slice (some ad) bs.length c → ∀ (j : Nat) u, (u8s bs)[j]? = some u → w3.cell? (ad.add j) = some u := by
    intro ad c e j u hj
    rcases P2.out with ⟨rfl, _⟩ | ⟨_, b0, off, c0, e', _, hc⟩
    · simp [u8s] at hj
    · rw [e'] at e
      simp only [Value.slice.injEq, Option.some.injEq, true_and] at e
      obtain ⟨rfl, rfl⟩ := e
      have hjl : j < bs.length := by
        by_cases hjl : j < bs.length
        · exact hjl
        · rw [List.getElem?_eq_none (by rw [u8s_len]; omega)] at hj; cases hj
      rw [u8s_get bs j hjl] at hj
      cases hj
      have hc' := hc j hjl
      rw [show (⟨b0, off, none⟩ : Addr).add j = ⟨b0, off + j, none⟩ from by unfold Addr.add; split <;> simp_all]
      rw [b3.cell (cell_lt hc')]
      exact hc'
  have HNEWS := Lib.hid hnews
  have hlb := u8s_len bs
  obtain ⟨M, hM⟩ : ∃ M, M = bs.length := ⟨_, rfl⟩
  rw [← hM] at hl hx hlb
  have HM := Lib.hid hM
  have HB := Lib.hid hb
  clear hnews hb hM
  have hsz3 := b3.size
  by_cases hnil : s = .slice none 0 0
  case' pos =>
    subst hnil
    have hbs : bs = [] := by
      rcases P2.out with ⟨h, _⟩ | ⟨_, b0, off, c0, e', _, hc⟩
      · exact h
      · cases e'
    go_wp2_with (at_builtin; refine wpList_append_own_none rfl (.tmp 19) (.tmp 20) 26 rfl w2.heap.size 5 i0 1 Try.underlying26 hi _ L (u8s l) rfl ho3 rfl ?_)
    have HO4 : Hid (w3.ownsRow w2.heap.size 5 1 v3 (l ++ bs).length (u8s (l ++ bs))) := Lib.hid (by rw [hbs, List.append_nil, ← HL.out]; exact ho3)
    clear hbs
    obtain ⟨w4, hw4⟩ : ∃ w4, w4 = w3 := ⟨_, rfl⟩
    obtain ⟨v4, hv4⟩ : ∃ v4, v4 = v3 := ⟨_, rfl⟩
    have b4 : Below w2.heap.size w2 w4 := by rw [hw4]; exact b3
    rw [← hw4, ← hv4] at HO4
    rw [← hw4, ← hv4]
    clear hw4 hv4 b3 ho3
  case' neg =>
    obtain ⟨ad, cc, rfl⟩ := hx.resolve_left hnil
    go_wp2_with (at_builtin; refine wpList_append_own _ rfl (.tmp 19) (.tmp 20) 26 rfl w2.heap.size 5 i0 (.int .u8 0) 1 1 Try.underlying26 hi hz0 hz1 hz2 rfl (by decide) _ L (u8s l) rfl ho3 ad M cc (u8s bs) rfl (by rw [hlb]; omega) (by rw [HM.out] at *; exact HNEWS.out ad cc rfl) (u8s_one bs) (by unfold maxLen; omega) (by omega) (by omega) ?_)
    intro v4 w4 ho4 hgrow4 _
    have HO4 : Hid (w4.ownsRow w2.heap.size 5 1 v4 (l ++ bs).length (u8s (l ++ bs))) := Lib.hid (by rw [u8s_append, List.length_append, ← HL.out, ← HM.out]; exact ho4)
    have b4 : Below w2.heap.size w2 w4 := b3.grown hgrow4 hsz3 (fun r hr => (ho3.lt r hr).1)
    clear hgrow4 ho4 b3 ho3
  all_goals
    have hlong : (l ++ bs).length ≤ 9223372036854775807 := by rw [List.length_append, ← HL.out, ← HM.out]; omega
    have hlt : ∀ x ∈ l ++ bs, x < 256 := fun x hx => (List.mem_append.1 hx).elim (short_lt HSH.out x) (HB.out x)
    have hpos : 0 < (l ++ bs).length := by rw [List.length_append, ← HL.out]; omega
    have F1 := Lib.hid (read27 w4 v4 (l ++ bs) (pl_own HO4.out hpos) hlt hlong)
    clear hlong hlt hpos
    go_wp2_with fail
    refine F1.out.mono ?_
    rintro e w5 ⟨x, k, rfl, hr, rfl⟩
    have hu := hr.unique HR.out
    rw [hu.1, hu.2, ← HL.out]
    clear hr hu
    go_wp2_with fail
    refine (read27 _ _ bs (P2.out.below b4) HB.out (by rw [← HM.out]; omega)).mono ?_
    rintro e w6 ⟨y, j, rfl, hy, rfl⟩
    have HY := Lib.hid hy
    clear hy
    go_wp2_with fail
    refine (read28 _ _ bs (P2.out.below b4) HB.out (by rw [← HM.out]; omega)).mono ?_
    rintro e w7 ⟨z, i, rfl, hz, b7⟩
    have hu := hz.unique HY.out
    rw [hu.1, hu.2]
    clear hz hu
    have B4 : Below w.heap.size w w6 := B2.trans (b4.mono B2.size)
    have B7 : Below w.heap.size w w7 := B4.trans (b7.mono B4.size)
    have b27 : Below w2.heap.size w2 w7 := b4.trans (b7.mono b4.size)
    have HO7 := Lib.hid (own_below HO.out b27)
    obtain ⟨S, hS⟩ : ∃ S, S = str l := ⟨_, rfl⟩
    have HQ : Hid (∀ W, Below w7.heap.size w7 W → (convert 26 9 (.slice (some ⟨g, 0, none⟩) L c)).run Try.prog W = .ok (.string S) W) := Lib.hid fun W hW => by
      rw [hS]
      have h := own_below HO7.out hW
      rw [HL.out] at *
      exact conv_own h
    have hq0 := HQ.out w7.drew (Below.refl _ _).drew
    have HS := Lib.hid hS
    have HF := short_of n hn l HSH.out
    rw [← hS] at HF
    have HFF := Lib.hid HF
    clear HF hS b27 b4 B4 b7
    go_wp2_with fail
    go_region_held (fun w' => (convert 26 9 (.slice (some ⟨g, 0, none⟩) L c)).run Try.prog w' = .ok (.string S) w') (first | exact hq0 | exact q2) (first | (go_at_call 29; refine (HFF.out _).mono ?_; rintro e W8 ⟨v8, rfl, q1, b8⟩; have q2 := HQ.out W8 ((Below.refl _ _).drew.trans b8)))
    go_wp2_with fail
    go_ret
    exact ⟨rfl, B7.trans (((Below.refl _ _).drew.trans b8).mono B7.size)⟩
end Sr
end Go.Proofs.Ytbpkoneenihfcaa
