import Derived.Test.YtjmddomkoholoaaGreatDoorG18
import Derived.Test.YtjmddomkoholoaaGreatDoorG13

/- The document's bits: Of and Get. -/
namespace Go.Proofs.YtjmddomkoholoaaGreatDoor
open Go.RowKit
namespace Ro
open Bm Wr Rf Sr

theorem mv_below {w w' : World} {g B : Nat} {s : Value} (h : Mv w w' g s) (hB : B ≤ g) (hs : ∀ k, s.ownBlock = some k → B ≤ k) (hw : B ≤ w.heap.size) : Below B w w' :=
  ⟨h.os, h.tape, h.output, h.size, fun k hk => h.block k (by omega) (by omega) (fun e => by have := hs k e; omega)⟩

/-- The bits of bytes. -/
def bb (bs : List Nat) (i : Nat) : Bool := (bs.getD (i / 8) 0).testBit (7 - i % 8)
theorem has_bb {bs : List Nat} (h : ∀ b ∈ bs, b < 256) : Has bs (bb bs) :=
  ⟨h, fun j k _ hk => by unfold bb; rw [show (8 * j + k) / 8 = j from by omega, show (8 * j + k) % 8 = k from by omega]⟩
theorem bb_put (bs : List Nat) (k : Nat) : bl (put (bb bs) (8 * k) (bs.getD k 0) 8 0) (8 * k + 8) = bl (bb bs) (8 * (k + 1)) := by
  rw [show 8 * (k + 1) = 8 * k + 8 from by omega]
  apply bl_congr
  intro i hi
  unfold put
  by_cases h : i < 8 * k
  · rw [if_pos h]
  · rw [if_neg h, if_pos (by omega)]
    unfold bb
    rw [show i / 8 = k from by omega, show 8 - 1 - (i - 8 * k) = 7 - i % 8 from by omega]

set_option maxRecDepth 100000 in
set_option maxHeartbeats 1000000 in
theorem of17 (w : World) (s : Value) (bs : List Nat) (h : Pl w s bs) (hb : ∀ x ∈ bs, x < 256) (hl : bs.length ≤ 1048576) :
    Calls Tryz.prog 98 #[s] w fun e w' => ∃ v, e = .returned v ∧ w'.ownsRow w.heap.size 5 1 v (8 * bs.length) (u8s (bl (bb bs) (8 * bs.length))) ∧ Below w.heap.size w w' := by
  rcases h with ⟨rfl, a, c, rfl⟩ | ⟨h0, b, off, c, rfl, hlc, hcell⟩
  · go_enter Tryz.func98, Tryz.ntmps98
    go_wp2_with fail
    refine wp_loop_rounds 1 ?_
    rw [rounds_succ]
    go_wp2_with fail
    go_ret
    exact ⟨_, rfl, World.ownsRow_nil _ _ _ _, Below.refl _ _⟩
  · obtain ⟨len, hlen⟩ : ∃ len, len = bs.length := ⟨_, rfl⟩
    rw [← hlen] at h0 hlc hl hcell ⊢
    have hbw : b < w.heap.size := cell_lt (hcell 0 h0)
    have HL := Lib.hid hlen
    have HC := Lib.hid hcell
    have HB := Lib.hid hb
    clear hlen hcell hb
    go_enter Tryz.func98, Tryz.ntmps98
    go_wp2_with fail
    go_loopw [3, 7] (fun x i wr => ∃ k, k ≤ len ∧ i = .int .i64 (k : Nat) ∧ wr.ownsRow w.heap.size 5 1 x (8 * k) (u8s (bl (bb bs) (8 * k))) ∧ Below w.heap.size w wr) (fun _ i _ => len - (intOf i).toNat)
    case atStart => exact ⟨0, Nat.zero_le _, rfl, World.ownsRow_nil _ _ _ _, Below.refl _ _⟩
    case round =>
      obtain ⟨k, hk, rfl, hown, hbl⟩ := hrel
      by_cases hkl : k < len
      · have e := HC.out k hkl
        rw [← hbl.cell (by exact hbw)] at e
        have hX := getD_lt HB.out k
        have hsz := hbl.size
        have HP := Lib.hid (rput12 wr w.heap.size u3 (8 * k) (bs.getD k 0) 8 (bb bs) hown hsz (by omega) 8 (by omega) (by omega) (by omega) (by omega))
        rw [bb_put] at HP
        obtain ⟨X, hXe⟩ : ∃ X, X = bs.getD k 0 := ⟨_, rfl⟩
        rw [← hXe] at e hX HP
        have HOW := Lib.hid hown
        clear hXe hown
        go_wp2_with (go_at_call 104; refine HP.out.mono ?_; rintro e w2 ⟨v, rfl, ho, mv, ow⟩)
        have b2 : Below w.heap.size w w2 := hbl.trans (mv_below mv hsz (fun q e => (HOW.out.lt q e).1) hsz)
        clear mv ow HP HOW
        go_roundw
        case rel => exact ⟨k + 1, by omega, by go_num, ho, b2⟩
        case measure => simp [intOf]; omega
      · obtain rfl : k = len := by omega
        go_wp2_with fail
        go_ret
        exact ⟨_, rfl, hown, hbl⟩

set_option maxRecDepth 100000 in
set_option maxHeartbeats 1000000 in
theorem rget18 (w : World) (q p l c n : Nat) (β : Nat → Bool) (hc : ∀ i, i < l → w.cell? ⟨q, p + i, none⟩ = some (.int .u8 (b2n (β (p + i)) : Nat))) (hn : n ≤ l) (h64 : n ≤ 64) :
    Calls Tryz.prog 99 #[.slice (some ⟨q, p, none⟩) l c, .int .i64 (n : Nat)] w fun e w' => e = .returned (.int .u64 (num β p n : Nat)) ∧ w' = w := by
  have HC := Lib.hid hc
  clear hc
  go_enter Tryz.func99, Tryz.ntmps99
  go_wp2_with fail
  go_loop [5, 8] (fun v i => ∃ k, k ≤ n ∧ i = .int .i64 (k : Nat) ∧ v = .int .u64 (num β p k : Nat)) (fun _ i => n - (intOf i).toNat)
  case atStart => exact ⟨0, Nat.zero_le _, rfl, rfl⟩
  case round =>
    obtain ⟨k, hk, rfl, rfl⟩ := hrel
    by_cases hkn : k < n
    · have e := HC.out k (by omega)
      have hN := num_lt β p k
      have hor : ∃ Q : Nat, Q ≤ 1 ∧ Q = b2n (β (p + k)) ∧ bits .or .u64 (IntKind.u64.wrap ((num β p k : Nat) * 2)) ((Q : Nat) : Int) = ((num β p (k + 1) : Nat) : Int) := by
        refine ⟨_, b2n_le _, rfl, ?_⟩
        have h2 : 2 ^ k ≤ 2 ^ 63 := Nat.pow_le_pow_right (by decide) (by omega)
        have h1 := b2n_le (β (p + k))
        rw [IntKind.wrap_u64, show ((num β p k : Nat) : Int) * 2 % 18446744073709551616 = ((num β p k * 2 : Nat) : Int) from by omega, u64_or_nat _ _ (by omega) (by omega), nat_join 1 _ _ (by omega) (by omega)]
        simp only [num]
        omega
      obtain ⟨Q, hQ1, hQ, hQor⟩ := hor
      rw [← hQ] at e
      obtain ⟨N, hNe⟩ : ∃ N, N = num β p k := ⟨_, rfl⟩
      obtain ⟨M, hMe⟩ : ∃ M, M = num β p (k + 1) := ⟨_, rfl⟩
      rw [← hNe, ← hMe] at hQor
      rw [← hNe]
      have HM := Lib.hid hMe
      clear hQ hNe hMe hN
      go_wp2_with fail
      go_round
      case rel => exact ⟨k + 1, by omega, by go_num, by rw [HM.out]⟩
      case measure => simp [intOf]; omega
    · obtain rfl : k = n := by omega
      go_wp2_with fail
      go_ret
      exact ⟨rfl, rfl⟩
end Ro
end Go.Proofs.YtjmddomkoholoaaGreatDoor

/- The document's side: Join, bits by lists. -/
namespace Go.Proofs.YtjmddomkoholoaaGreatDoor
open Go.RowKit
namespace Rl
open Cm Bm Mt Wr Cv Rd

/-- A slice of bytes, laid from a block's first cell on; there may be none. -/
def Pz (w : World) (s : Value) (bs : List Nat) : Prop :=
  ∃ g c, s = .slice (some ⟨g, 0, none⟩) bs.length c ∧ ∀ j u, (u8s bs)[j]? = some u → w.cell? ((⟨g, 0, none⟩ : Addr).add j) = some u
theorem Pz.below {w w' : World} {s : Value} {bs : List Nat} (h : Pz w s bs) (b : Below w.heap.size w w') : Pz w' s bs := by
  obtain ⟨g, c, h1, h2⟩ := h
  exact ⟨g, c, h1, fun j u hj => (b.cell (cell_lt (h2 j u hj))).trans (h2 j u hj)⟩
theorem take_flat (ps : List (List Nat)) (k : Nat) (hk : k < ps.length) : (ps.take (k + 1)).flatten = (ps.take k).flatten ++ ps.getD k [] := by
  rw [List.take_add_one, List.flatten_append, List.getElem?_eq_getElem hk, List.getD_eq_getElem?_getD, List.getElem?_eq_getElem hk]
  simp
theorem flat_get (ps : List (List Nat)) (k : Nat) (hk : k < ps.length) : ((ps.take k).flatten).length + (ps.getD k []).length ≤ ps.flatten.length := by
  have h1 := take_flat ps k hk
  have h2 : ps.flatten = (ps.take (k + 1)).flatten ++ (ps.drop (k + 1)).flatten := by rw [← List.flatten_append, List.take_append_drop]
  rw [h2, h1]
  simp

set_option maxRecDepth 100000 in
set_option maxHeartbeats 1000000 in
theorem join33 (w : World) (b : Nat) (K : Nat) (ps : List (List Nat)) (hK : K = ps.length) (hK9 : K ≤ 9) (hl : ps.flatten.length ≤ 70368744177664) (hb : b < w.heap.size)
    (hc : ∀ i, i < K → ∃ s, w.cell? ⟨b, i, none⟩ = some s ∧ Pz w s (ps.getD i [])) :
    Calls Tryz.prog 34 #[.slice (some ⟨b, 0, none⟩) K K] w fun e w' => ∃ r, e = .returned r ∧ w'.ownsRow w.heap.size 5 1 r ps.flatten.length (u8s ps.flatten) ∧ Below w.heap.size w w' := by
  obtain ⟨i0, hi, hz0, hz1, hz2⟩ := info_parts info5
  have HALL : Hid (K = ps.length) := Lib.hid hK
  have HC := Lib.hid hc
  have HL := Lib.hid hl
  clear hc hl hK
  go_enter Tryz.func34, Tryz.ntmps34
  go_wp2_with fail
  go_loopw [4, 3, 7] (fun _ o i wr => ∃ k, k ≤ K ∧ i = .int .i64 (k : Nat) ∧ wr.ownsRow w.heap.size 5 1 o (ps.take k).flatten.length (u8s (ps.take k).flatten) ∧ Below w.heap.size w wr) (fun _ _ i _ => K - (intOf i).toNat)
  case atStart => exact ⟨0, Nat.zero_le _, rfl, World.ownsRow_nil _ _ _ _, Below.refl _ _⟩
  case round =>
    obtain ⟨k, hk, rfl, ho, hbl⟩ := hrel
    by_cases hkn : k < K
    · obtain ⟨s, hs, hP⟩ := HC.out k hkn
      obtain ⟨g, c, rfl, hcell⟩ := hP.below hbl
      have e1 := (hbl.cell hb).trans hs
      have hf := take_flat ps k (by have := HALL.out; omega)
      have hfl := flat_get ps k (by have := HALL.out; omega)
      have hll := HL.out
      obtain ⟨bs, hbs⟩ : ∃ bs, bs = ps.getD k [] := ⟨_, rfl⟩
      obtain ⟨pre, hpre⟩ : ∃ pre, pre = (ps.take k).flatten := ⟨_, rfl⟩
      rw [← hbs] at hcell hf hfl e1
      rw [← hpre] at hf hfl ho
      have hsum : pre.length + bs.length ≤ 70368744177664 := by omega
      have HF : Hid (u8s (ps.take (k + 1)).flatten = u8s pre ++ u8s bs ∧ (ps.take (k + 1)).flatten.length = pre.length + bs.length) := Lib.hid ⟨by rw [hf]; simp [u8s], by rw [hf, List.length_append]⟩
      have hul := u8s_len bs
      have HONE : Hid (∀ u ∈ u8s bs, u.oneCell' = true) := Lib.hid fun u hu => by simp [u8s] at hu; obtain ⟨x, _, rfl⟩ := hu; rfl
      obtain ⟨Q, hQ⟩ : ∃ Q, Q = bs.length := ⟨_, rfl⟩
      obtain ⟨R, hR⟩ : ∃ R, R = pre.length := ⟨_, rfl⟩
      rw [← hQ] at hsum HF hul e1
      rw [← hR] at ho HF hsum
      have HCL := Lib.hid hcell
      have HB := Lib.hid hbl
      have hbs2 := hbl.size
      have hown := ho
      clear ho hbl hcell hf hfl hbs hpre hll hP hs hQ hR
      go_wp2_with (at_builtin; refine wpList_append_own _ rfl (.tmp 10) (.tmp 14) 22 rfl w.heap.size 5 i0 (.int .u8 0) 1 1 Tryz.underlying22 hi hz0 hz1 hz2 rfl (by decide) _ R _ rfl hown ⟨g, 0, none⟩ Q c (u8s bs) rfl (by rw [hul]; omega) ?c1 ?c2 ?c3 ?c4 ?c5 ?_)
      case c1 => exact HCL.out
      case c2 => exact HONE.out
      case c3 => unfold maxLen; omega
      case c4 => omega
      case c5 => omega
      intro v' w2 hown' hgrow _
      have b2 := Lib.hid (Below.grown HB.out hgrow hbs2 (fun r hr => (hown.lt r hr).1))
      clear hgrow
      have hO2 := Lib.hid hown'
      clear hown'
      go_wp2_with fail
      go_roundw
      case rel => exact ⟨k + 1, by omega, by go_num, by rw [HF.out.1, HF.out.2]; exact hO2.out, b2.out⟩
      case measure => simp [intOf]; omega
    · obtain rfl : k = K := by omega
      have HB := Lib.hid hbl
      have HO := Lib.hid ho
      clear ho hbl
      go_wp2_with fail
      go_ret
      refine ⟨_, rfl, ?_, HB.out⟩
      have h1 := HO.out
      rw [List.take_of_length_le (by have := HALL.out; omega)] at h1
      exact h1


theorem new_cell (w : World) (vs : Array Value) (t : TypeId) (i : Nat) (v : Value) (h : vs[i]? = some v) : (w.alloc (.cells vs t)).cell? ⟨w.heap.size, i, none⟩ = some v := by
  rw [cell_of_row _ _ _ _ _ _ (heap_alloc_new _ _)]; exact h
theorem join2n (x : World) (s1 s2 : Value) (p1 p2 : List Nat) (P1 : Pz x s1 p1) (P2 : Pz x s2 p2) (l1 : p1.length ≤ 100000) (l2 : p2.length ≤ 100000) :
    Calls Tryz.prog 34 #[.slice (some ⟨x.heap.size, 0, none⟩) 2 2] (x.alloc (.cells #[s1, s2] 22)) fun e w' => ∃ r, e = .returned r ∧ w'.ownsRow x.heap.size 5 1 r (p1 ++ p2).length (u8s (p1 ++ p2)) ∧ Below x.heap.size x w' := by
  have b0 : Below x.heap.size x (x.alloc (.cells #[s1, s2] 22)) := (Below.refl _ _).alloc (Nat.le_refl _) _
  have h := join33 (x.alloc (.cells #[s1, s2] 22)) x.heap.size 2 [p1, p2] rfl (by decide) (by simp; omega) (by simp) (fun i hi => by
    match i, hi with
    | 0, _ => exact ⟨s1, new_cell _ _ _ 0 _ rfl, P1.below b0⟩
    | 1, _ => exact ⟨s2, new_cell _ _ _ 1 _ rfl, P2.below b0⟩)
  refine h.mono ?_
  rintro e w' ⟨r, he, ho, bl⟩
  have hf : [p1, p2].flatten = p1 ++ p2 := by simp
  rw [hf] at ho
  exact ⟨r, he, Go.Joins.ownsRow_le ho (by simp), b0.trans (bl.mono (by simp))⟩

/-- A row of bits, a bit a place. -/
def Lb (w : World) (B : Nat) (s : Value) (L : List Bool) : Prop := w.ownsRow B 5 1 s L.length (u8s (Rf.bl (ofL L) L.length))
theorem lb_nil (w : World) (B : Nat) : Lb w B (.slice none 0 0) [] := World.ownsRow_nil _ _ _ _
theorem put_lb (w : World) (B : Nat) (s : Value) (L : List Bool) (v N : Nat) (h : Lb w B s L) (hB : B ≤ w.heap.size) (hv : v < 18446744073709551616) (hN : N ≤ 64) (hb : L.length ≤ 1000000) :
    Calls Tryz.prog 104 #[s, .int .u64 (v : Nat), .int .i64 (N : Nat)] w fun e w' => ∃ s', e = .returned s' ∧ Lb w' B s' (L ++ bv v N) ∧ Below B w w' := by
  refine (Rf.rput12 w B s L.length v N (ofL L) h hB hv (N : Nat) (by omega) (by omega) (by omega) (by omega)).mono ?_
  rintro e w' ⟨s', rfl, k1, k2, k3⟩
  refine ⟨s', rfl, ?_, ⟨k2.os, k2.tape, k2.output, k2.size, fun k hk => k2.block k (by omega) (by omega) (fun e => by have := (h.lt k e).1; omega)⟩⟩
  unfold Lb
  rw [put_ofL] at k1
  rw [List.length_append, bv_len]
  exact k1
theorem cut_ofL (L : List Bool) : Rf.cut (ofL L) L.length = ofL L := by
  funext i
  unfold Rf.cut
  split
  · rfl
  · rw [ofL_past (by omega)]
theorem bytes_lb (w : World) (B : Nat) (s : Value) (L : List Bool) (h : Lb w B s L) (hb : L.length ≤ 1000000) :
    Calls Tryz.prog 105 #[s] w fun e w' => ∃ g c, e = .returned (.slice (some ⟨g, 0, none⟩) (pk L).length c) ∧ w'.ownsRow w.heap.size 5 1 (.slice (some ⟨g, 0, none⟩) (pk L).length c) (pk L).length (u8s (pk L)) ∧ Below w.heap.size w w' := by
  refine (Rf.rbytes15 w B s L.length (ofL L) h (by omega)).mono ?_
  rintro e w' ⟨v, bs, rfl, ho, hl, hh, bl, g, c, rfl⟩
  rw [cut_ofL] at hh
  obtain rfl : bs = pk L := hh.unique (pk_has L) (by rw [hl, pk_len])
  exact ⟨g, c, rfl, ho, bl⟩
theorem pz_own {w : World} {B g c : Nat} {bs : List Nat} (h : w.ownsRow B 5 1 (.slice (some ⟨g, 0, none⟩) bs.length c) bs.length (u8s bs)) : Pz w (.slice (some ⟨g, 0, none⟩) bs.length c) bs := ⟨g, c, rfl, h.cells rfl⟩
/-- A first number of 64 bits is eight bytes. -/
theorem pk_first {x : Nat} (L : List Bool) : pk (bv x 64 ++ L) = Mt.eight x ++ pk L := by
  refine (pk_has _).unique (β := ofL (bv x 64 ++ L)) ⟨fun b hb => ?_, fun j k hj hk => ?_⟩ ?_
  · rcases List.mem_append.1 hb with hb | hb
    · exact Mt.eight_lt x b hb
    · exact pk_lt L b hb
  · rw [List.length_append, Mt.eight_len] at hj
    by_cases h8 : j < 8
    · rw [List.getD_eq_getElem?_getD, List.getElem?_append_left (by rw [Mt.eight_len]; exact h8), ← List.getD_eq_getElem?_getD, Mt.eight_bit x j k h8 hk, ofL_left (by rw [bv_len]; omega)]
      unfold ofL
      rw [bv_get _ _ _ (by omega)]
    · obtain ⟨i, rfl⟩ : ∃ i, j = 8 + i := ⟨j - 8, by omega⟩
      rw [List.getD_eq_getElem?_getD, List.getElem?_append_right (by rw [Mt.eight_len]; omega), ← List.getD_eq_getElem?_getD, Mt.eight_len, show 8 + i - 8 = i from by omega, (pk_has L).2 i k (by omega) hk]
      have e := ofL_right (A := bv x 64) (B := L) (8 * i + k)
      rw [bv_len] at e
      rw [show 8 * (8 + i) + k = 64 + (8 * i + k) from by omega, e]
  · rw [pk_len, List.length_append, List.length_append, bv_len, Mt.eight_len, pk_len]; omega
end Rl
end Go.Proofs.YtjmddomkoholoaaGreatDoor
