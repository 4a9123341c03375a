import Derived.Test.YtjmddomkoholoaaGreatDoorG19
import Derived.Test.YtjmddomkoholoaaGreatDoorG17

/- The document's bits, of up to 10000000000 bytes. -/
namespace Go.Proofs.YtjmddomkoholoaaGreatDoor
open Go.RowKit
namespace Qo
open Bm Wr Rf Sr Ro

set_option maxRecDepth 100000 in
set_option maxHeartbeats 2000000 in
theorem rput12w (w : World) (B : Nat) (s : Value) (m v N : Nat) (β : Nat → Bool) (h : w.ownsRow B 5 1 s m (u8s (bl β m))) (hB : B ≤ w.heap.size) (hv : v < 18446744073709551616) (n : Int) (hn1 : -9223372036854775808 ≤ n) (hn2 : n ≤ 9223372036854775807)
    (hN : N = (min n 64).toNat) (hb : m ≤ 100000000000) :
    Calls Tryz.prog 104 #[s, .int .u64 (v : Nat), .int .i64 n] w fun e w' => ∃ s', e = .returned s' ∧ w'.ownsRow B 5 1 s' (m + N) (u8s (bl (put β m v N 0) (m + N))) ∧ Mv w w' w.heap.size s ∧ Own w s s' := by
  obtain ⟨i0, hi, hz0, hz1, hz2⟩ := info_parts info5
  have hN64 : N ≤ 64 := by omega
  have h' : w.ownsRow B 5 1 s m (u8s (bl (put β m v N 0) m)) := by
    rw [bl_congr (γ := β) (fun i hi => by unfold put; rw [if_pos hi])]
    exact h
  clear h
  have HR := Lib.hid h'
  clear h'
  obtain ⟨γ, hγ⟩ : ∃ γ, γ = put β m v N 0 := ⟨_, rfl⟩
  have hbit : ∀ r, r < N → γ (m + r) = v.testBit (N - 1 - r) := by
    intro r hr
    rw [hγ]
    unfold put
    rw [if_neg (by omega), if_pos (by omega)]
    congr 1
    omega
  rw [← hγ] at HR ⊢
  clear hγ
  have HBIT := Lib.hid hbit
  clear hbit
  go_enter Tryz.func104, Tryz.ntmps104
  go_wp2_with fail
  all_goals
    go_loopw [0, 7] (fun x i wr => ∃ r, r ≤ N ∧ i = .int .i64 ((N : Int) - 1 - (r : Int)) ∧ wr.ownsRow B 5 1 x (m + r) (u8s (bl γ (m + r))) ∧ Mv w wr w.heap.size s ∧ Own w s x) (fun _ i _ => (intOf i + 1).toNat)
    case atStart => exact ⟨0, Nat.zero_le _, by congr 1; omega, HR.out, Mv.refl _ _ _, Own.refl _ _⟩
    case round =>
      obtain ⟨r, hr, rfl, hown, hmv, ho⟩ := hrel
      clear hN
      have hsz := hmv.size
      by_cases hrN : r < N
      · obtain ⟨Q, hQ⟩ : ∃ Q, Q = b2n (γ (m + r)) := ⟨_, rfl⟩
        have hQ1 : Q ≤ 1 := by rw [hQ]; exact b2n_le _
        have hand : bits .and .u64 ((v : Int) / 2 ^ (N - 1 - r)) 1 = ((Q : Nat) : Int) := by
          rw [show ((v : Int) / 2 ^ (N - 1 - r)) = ((v / 2 ^ (N - 1 - r) : Nat) : Int) from by push_cast; rfl]
          have hlt : v / 2 ^ (N - 1 - r) < 18446744073709551616 := Nat.lt_of_le_of_lt (Nat.div_le_self _ _) hv
          rw [hQ, Sz.and_one _ (Int.natCast_nonneg _) (by omega), HBIT.out r hrN, ← bit_of]
          omega
        have HQ := Lib.hid hQ
        clear hQ
        have htn : ((N : Int) - 1 - (r : Int)).toNat = N - 1 - r := by omega
        have HO := Lib.hid ho
        clear ho
        go_wp2_with (at_builtin; refine wpList_append_own_at _ rfl (.tmp 16) (.tmp 23) 139 rfl B 5 i0 (.int .u8 0) 1 1 Tryz.underlying139 hi hz0 hz1 hz2 rfl (by decide) _ _ _ rfl (hown.alloc _) ⟨wr.heap.size, 0, none⟩ 1 1 [.int .u8 (Q : Int)] rfl rfl ?c1 ?c2 ?c3 ?c4 ?c5 ?_)
        case c1 =>
          intro j u hj
          match j, hj with
          | 0, hj => simp at hj; subst hj; simp [Addr.add]
        case c2 => intro u hu; simp at hu; subst hu; rfl
        case c3 => unfold maxLen; omega
        case c4 => omega
        case c5 => simp; omega
        intro v' w2 hown' hgrow _ hat
        have ho2 : Own wr u0 v' := hat.elim .inl fun e => .inr ⟨_, e, by simp⟩
        have hmv2 : Mv wr w2 w.heap.size u0 := ⟨hgrow.os, hgrow.tape, hgrow.output, Nat.le_trans (by simp) hgrow.size, fun k hk _ hs => (hgrow.block k (by simp; omega) (fun e => hs e.symm)).trans (Below.heap_alloc wr _ k hk)⟩
        have hown2 : w2.ownsRow B 5 1 v' (m + (r + 1)) (u8s (bl γ (m + (r + 1)))) := by
          rw [← Nat.add_assoc, bl_succ, u8s_snoc, ← HQ.out]
          exact hown'
        have HM := Lib.hid (hmv.trans HO.out hmv2)
        have HO2 := Lib.hid (HO.out.trans ho2 hsz)
        clear hgrow hown hown' hmv hmv2 ho2 hat
        go_wp2
        go_roundw
        case rel => exact ⟨r + 1, by omega, by congr 1; omega, hown2, HM.out, HO2.out⟩
        case measure => simp [intOf]; omega
      · obtain rfl : r = N := by omega
        go_wp2_with fail
        go_ret
        exact ⟨_, rfl, hown, hmv, ho⟩

set_option maxRecDepth 100000 in
set_option maxHeartbeats 1000000 in
theorem of17w (w : World) (s : Value) (bs : List Nat) (h : Pl w s bs) (hb : ∀ x ∈ bs, x < 256) (hl : bs.length ≤ 10000000000) :
    Calls Tryz.prog 98 #[s] w fun e w' => ∃ v, e = .returned v ∧ w'.ownsRow w.heap.size 5 1 v (8 * bs.length) (u8s (bl (bb bs) (8 * bs.length))) ∧ Below w.heap.size w w' := by
  rcases h with ⟨rfl, a, c, rfl⟩ | ⟨h0, b, off, c, rfl, hlc, hcell⟩
  · go_enter Tryz.func98, Tryz.ntmps98
    go_wp2_with fail
    refine wp_loop_rounds 1 ?_
    rw [rounds_succ]
    go_wp2_with fail
    go_ret
    exact ⟨_, rfl, World.ownsRow_nil _ _ _ _, Below.refl _ _⟩
  · obtain ⟨len, hlen⟩ : ∃ len, len = bs.length := ⟨_, rfl⟩
    rw [← hlen] at h0 hlc hl hcell ⊢
    have hbw : b < w.heap.size := cell_lt (hcell 0 h0)
    have HL := Lib.hid hlen
    have HC := Lib.hid hcell
    have HB := Lib.hid hb
    clear hlen hcell hb
    go_enter Tryz.func98, Tryz.ntmps98
    go_wp2_with fail
    go_loopw [3, 7] (fun x i wr => ∃ k, k ≤ len ∧ i = .int .i64 (k : Nat) ∧ wr.ownsRow w.heap.size 5 1 x (8 * k) (u8s (bl (bb bs) (8 * k))) ∧ Below w.heap.size w wr) (fun _ i _ => len - (intOf i).toNat)
    case atStart => exact ⟨0, Nat.zero_le _, rfl, World.ownsRow_nil _ _ _ _, Below.refl _ _⟩
    case round =>
      obtain ⟨k, hk, rfl, hown, hbl⟩ := hrel
      by_cases hkl : k < len
      · have e := HC.out k hkl
        rw [← hbl.cell (by exact hbw)] at e
        have hX := getD_lt HB.out k
        have hsz := hbl.size
        have HP := Lib.hid (rput12w wr w.heap.size u3 (8 * k) (bs.getD k 0) 8 (bb bs) hown hsz (by omega) 8 (by omega) (by omega) (by omega) (by omega))
        rw [bb_put] at HP
        obtain ⟨X, hXe⟩ : ∃ X, X = bs.getD k 0 := ⟨_, rfl⟩
        rw [← hXe] at e hX HP
        have HOW := Lib.hid hown
        clear hXe hown
        go_wp2_with (go_at_call 104; refine HP.out.mono ?_; rintro e w2 ⟨v, rfl, ho, mv, ow⟩)
        have b2 : Below w.heap.size w w2 := hbl.trans (mv_below mv hsz (fun q e => (HOW.out.lt q e).1) hsz)
        clear mv ow HP HOW
        go_roundw
        case rel => exact ⟨k + 1, by omega, by go_num, ho, b2⟩
        case measure => simp [intOf]; omega
      · obtain rfl : k = len := by omega
        go_wp2_with fail
        go_ret
        exact ⟨_, rfl, hown, hbl⟩


/-- The bits of bytes, one by one: their cells. -/
theorem bits_cells {w : World} {B n g c : Nat} {bs : List Nat} (h : w.ownsRow B 5 1 (.slice (some ⟨g, 0, none⟩) n c) n (u8s (bl (bb bs) n))) (i : Nat) (hi : i < n) : w.cell? ⟨g, i, none⟩ = some (.int .u8 (b2n (bb bs i) : Nat)) := by
  rw [h.cellAt i (by omega), u8s_get _ i (by rw [bl_len]; exact hi), bl_get _ hi]
theorem bb_bo (bs : List Nat) : bb bs = Cm.bo bs := rfl
theorem bb_drop (b : List Nat) (q i : Nat) : bb (b.drop q) i = Cm.bo b (8 * q + i) := by
  unfold bb Cm.bo
  rw [show (8 * q + i) / 8 = q + i / 8 from by omega, show (8 * q + i) % 8 = i % 8 from by omega]
  simp [List.getD_eq_getElem?_getD]
theorem num_drop (b : List Nat) (q p n : Nat) : num (bb (b.drop q)) p n = num (Cm.bo b) (8 * q + p) n :=
  num_congr fun i _ => by rw [bb_drop, Nat.add_assoc]
theorem num_one (β : Nat → Bool) (p : Nat) : num β p 1 = b2n (β p) := by simp [num]
end Qo
end Go.Proofs.YtjmddomkoholoaaGreatDoor

/- The document's read: booleans. -/
namespace Go.Proofs.YtjmddomkoholoaaGreatDoor
open Go.RowKit
namespace Qr
open Cm Wr Bm Rd Cv Vs Rw Rf Ro Qo

/-- What the document's read answers. -/
def Rq (w : World) (k : Int) (n : Nat) (b : List Nat) (e : Ending) (w' : World) : Prop :=
  ∃ r T, e = .returned r ∧ w'.ownsRow w.heap.size 35 3 r T.length (vcs T) ∧ Rdk k n b T ∧ Below w.heap.size w w'
theorem Rq.none {w w' : World} {k : Int} {n : Nat} {b : List Nat} (h : ∀ T, ¬ Of k n b T) (bl : Below w.heap.size w w') : Rq w k n b (.returned (.slice none 0 0)) w' :=
  ⟨_, [], rfl, World.ownsRow_nil _ _ _ _, Rdk.nil h, bl⟩

set_option maxRecDepth 100000 in
set_option maxHeartbeats 2000000 in
theorem qbools (w : World) (v : Value) (bs : List Nat) (n : Nat) (hP : Pl w v bs) (hX : ∀ b ∈ bs, b < 256) (hb : bs.length ≤ 10000000000) (hn9 : n ≤ 1000) :
    Calls Tryz.prog 53 #[.int .i64 3, .int .i64 (n : Nat), v] w fun e w' => Rq w 3 n bs e w' := by
  obtain ⟨i0, hi, hz0, hz1, hz2⟩ := info_parts info35
  have F17 := Lib.hid (of17w w v bs hP hX hb)
  have HR := Lib.hid (@Rdk.bools n bs)
  obtain ⟨L, hL⟩ : ∃ L, L = 8 * bs.length := ⟨_, rfl⟩
  rw [← hL] at F17 HR
  have HBN := Lib.hid (fun i (hi : i < L) => (show bitN bs i = b2n (bb bs i) from by
    unfold bitN
    rw [if_pos (by omega), num_one]
    rfl))
  have hL9 : L ≤ 80000000000 := by omega
  clear hP hX hb hL
  go_enter Tryz.func53, Tryz.ntmps53
  go_wp2_with fail
  refine F17.out.mono ?_
  rintro e w2 ⟨v2, rfl, o2, b2⟩
  have hf : (v2 = .slice none 0 0 ∧ L = 0) ∨ ∃ g c, v2 = .slice (some ⟨g, 0, none⟩) L c := Go.Joins.ownsRow_forms o2
  have O2 := Lib.hid o2
  have B2 := Lib.hid b2
  clear o2 b2
  go_wp2_with fail
  go_loopw [7, 18] (fun x i wr => ∃ k, k ≤ min n L ∧ i = .int .i64 (k : Nat) ∧ wr.ownsRow w2.heap.size 35 3 x k (vcs (mk 3 (tab (bitN bs) k))) ∧ Below w2.heap.size w2 wr) (fun _ i _ => n - (intOf i).toNat)
  case atStart => exact ⟨0, Nat.zero_le _, rfl, World.ownsRow_nil _ _ _ _, Below.refl _ _⟩
  case round =>
    obtain ⟨k, hk, rfl, ho, hbl⟩ := hrel
    have HO := Lib.hid ho
    have HB := Lib.hid hbl
    have hbs := hbl.size
    by_cases hkm : k < min n L
    · have hkL : k < L := by omega
      have hkn : k < n := by omega
      rcases hf with ⟨_, h0⟩ | ⟨g, c, hv2⟩
      · omega
      subst hv2
      have e1 := (hbl.cell (p := ⟨g, k, none⟩) (O2.out.lt g rfl).2).trans (bits_cells O2.out k hkL)
      rw [← HBN.out k hkL] at e1
      have hq := bitN_lt bs k
      have HT := Lib.hid (show mk 3 (tab (bitN bs) (k + 1)) = mk 3 (tab (bitN bs) k) ++ [(3, bitN bs k, [])] from by rw [tab_succ, mk_snoc])
      obtain ⟨Z, hZ⟩ : ∃ Z, Z = bitN bs k := ⟨_, rfl⟩
      rw [← hZ] at e1 hq HT
      have hwz : IntKind.u64.wrap (Z : Int) = (Z : Int) := by rw [IntKind.wrap_u64]; omega
      clear ho hbl hZ hkm
      go_wp2_with (at_builtin; refine wpList_append_own _ rfl _ _ 57 rfl w2.heap.size 35 i0 (.agg #[.int .i64 0, .int .u64 0, .string ⟨#[]⟩]) 3 32 Tryz.underlying57 hi hz0 hz1 hz2 rfl (by decide) _ _ _ rfl (HO.out.alloc _) ⟨wr.heap.size, 0, none⟩ 1 1 [.int .i64 3, .int .u64 (Z : Nat), .string ⟨#[]⟩] rfl rfl (cells3_new _ _ _ _ _) ?c2 ?c3 ?c4 ?c5 ?_)
      case c2 => intro u hu; simp at hu; rcases hu with rfl | rfl | rfl <;> rfl
      case c3 => unfold maxLen; omega
      case c4 => omega
      case c5 => simp; omega
      intro v6 w6 h6 g6 _
      have B6 := Lib.hid (Below.grown (HB.out.alloc hbs _) g6 (by simp; omega) (fun r hr => (HO.out.lt r hr).1))
      have O6 := Lib.hid h6
      clear h6 g6
      go_wp2_with fail
      go_roundw
      case rel => exact ⟨k + 1, by omega, by go_num, by rw [HT.out, vcs_snoc, vcs_one_cell]; exact O6.out, B6.out⟩
      case measure => simp [intOf]; omega
    · obtain rfl : k = min n L := by omega
      clear ho hbl
      have HE := Lib.hid (show Rq w 3 n bs (.returned u7) wr from ⟨_, mk 3 (tab (bitN bs) (min n L)), rfl, by
        rw [mk_len, tab_len]
        exact Go.Joins.ownsRow_le HO.out B2.out.size, HR.out.2, B2.out.trans (HB.out.mono B2.out.size)⟩)
      by_cases hLn : L ≤ n
      · have hmin : min n L = L := by omega
        rw [hmin]
        rcases hf with ⟨rfl, h0⟩ | ⟨g, c, rfl⟩
        · subst h0
          go_wp2_with fail
          go_ret
          exact HE.out
        · go_wp2_with fail
          go_ret
          exact HE.out
      · have hmin : min n L = n := by omega
        rw [hmin]
        rcases hf with ⟨rfl, h0⟩ | ⟨g, c, rfl⟩
        · omega
        · have hnL : (n : Int) < (L : Int) := by omega
          go_wp2_with fail
          go_ret
          exact HE.out
end Qr
end Go.Proofs.YtjmddomkoholoaaGreatDoor
