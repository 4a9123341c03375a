import Derived.Test.YtjmddomkoholoaaGreatDoorG09
import Derived.Deep.RegionLaw
import Derived.Test.YtjmddomkoholoaaGreatDoorG14
import Derived.Test.YtjmddomkoholoaaGreatDoorG05

/- The document's side: ReadAt; an append in a region that draws. -/
namespace Go.Proofs.YtjmddomkoholoaaGreatDoor
open Go.RowKit
namespace Ry
open Mt Wr Bm Pk Rp Cv Rd Rx

/-- An append to a slice of one's own, as one step of a region that draws. -/
theorem step_append_own {P : Program} {ops : Array Oper} {o : Oper} {a : Act} {w : World} {K : Act → World → Prop} {Q : Exit → Act → World → Prop} {E : Prop}
    (hg : o.guard = none) (s x : Operand) (t : TypeId) (hop : o.op = Op.call { callee := Callee.builtin Builtin.append, args := #[s, x], argTypes := #[t, t] })
    (base : Nat) (e : TypeId) (i : TypeInfo) (z : Value) (size bytes : Nat) (h1 : P.underlying t = some (.slice e)) (h2 : P.info? e = some i) (h3 : i.zero = some z) (h4 : i.size = size) (h5 : i.bytes = bytes) (h6 : z.cells.size = size) (h7 : 0 < size)
    (v : Value) (n : Nat) (xs : List Value) (hs : a.eval s = v) (hown : w.ownsRow base e size v n xs)
    (ad : Addr) (m c : Nat) (news : List Value) (hx : a.eval x = .slice (some ad) m c) (hn : news.length = m * size) (hc : ∀ j u, news[j]? = some u → w.cell? (ad.add j) = some u) (h1c : ∀ u ∈ news, u.oneCell' = true)
    (b1 : n + m ≤ maxLen) (b2 : (n + m) * bytes ≤ 140737488355328) (hb : base ≤ w.heap.size)
    (hK : ∀ v' w', w'.ownsRow base e size v' (n + m) (xs ++ news) → w.grownBy w' v.ownBlock → K (a.put o.dst v') w') :
    if Region.wanted o (yielded ops a.tmps) = true then Oper.wp P o a w K Q else E := by
  have hw : Region.wanted o (yielded ops a.tmps) = true := by simp [Region.wanted, hg]
  rw [if_pos hw]
  obtain ⟨v', w', hrun, r1, r2, _⟩ := run_append_own (P := P) w base t o.type e i z size bytes h1 h2 h3 h4 h5 h6 h7 v n xs hown ad m c news hn hc h1c b1 b2 hb
  unfold Oper.wp
  simp [execOp, hop, resolve, invoke, builtin, hs, hx, hrun, Result.andThen]
  exact hK v' w' r1 r2

/-- The number of the first k bytes from j on. -/
def part (bs : List Nat) (j : Nat) : Nat → Nat
  | 0 => 0
  | k + 1 => part bs j k * 256 + bs.getD (j + k) 0
theorem part_lt {bs : List Nat} (h : ∀ b ∈ bs, b < 256) (j k : Nat) : part bs j k < 256 ^ k := by
  induction k with
  | zero => simp [part]
  | succ k ih => have := getD_lt h (j + k); simp only [part]; rw [Nat.pow_succ]; omega
theorem part_eight (bs : List Nat) (j : Nat) : part bs j 8 = num8 bs j := by simp [part, num8]

set_option maxRecDepth 100000 in
theorem readat38 (w : World) (b off len c : Nat) (bs : List Nat) (j N : Nat) (hN : N ≤ 8) (hX : ∀ b ∈ bs, b < 256) (hl : len ≤ 140737488353272) (hj : j + N ≤ len) (hc : ∀ i, i < len → w.cell? ⟨b, off + i, none⟩ = some (.int .u8 (bs.getD i 0 : Nat))) :
    Calls Tryz.prog 20 #[.slice (some ⟨b, off, none⟩) len c, .int .i64 (j : Nat), .int .i64 (N : Nat)] w fun e w' => e = .returned (.int .u64 (part bs j N : Nat)) ∧ w' = w := by
  have HC := Lib.hid hc
  have HX := Lib.hid hX
  clear hc hX
  go_enter Tryz.func20, Tryz.ntmps20
  go_wp2_with fail
  go_loop [7, 10] (fun x i => ∃ k, k ≤ N ∧ i = .int .i64 (k : Nat) ∧ x = .int .u64 (part bs j k : Nat)) (fun _ i => N - (intOf i).toNat)
  case atStart => exact ⟨0, Nat.zero_le _, rfl, rfl⟩
  case round =>
    obtain ⟨k, hk, rfl, rfl⟩ := hrel
    by_cases hk8 : k < N
    · have e := HC.out (j + k) (by omega)
      have h1 := getD_lt HX.out (j + k)
      have h2 := part_lt HX.out j k
      have h3 : 256 ^ k ≤ 256 ^ 7 := Nat.pow_le_pow_right (by decide) (by omega)
      obtain ⟨A, hA⟩ : ∃ A, A = part bs j k := ⟨_, rfl⟩
      obtain ⟨D, hD⟩ : ∃ D, D = bs.getD (j + k) 0 := ⟨_, rfl⟩
      have HN : Hid (part bs j (k + 1) = A * 256 + D) := Lib.hid (by rw [hA, hD]; rfl)
      rw [← hA] at h2 ⊢
      rw [← hD] at e h1
      have hA2 : A < 72057594037927936 := by omega
      have hor : bits .or .u64 ((A : Int) * 256) ((D : Nat) : Int) = ((A * 256 + D : Nat) : Int) := by
        rw [show (A : Int) * 256 = ((A * 256 : Nat) : Int) from by omega, u64_or_nat _ _ (by omega) (by omega), nat_join 8 _ _ (by omega) (by omega)]
      have HOR := Lib.hid hor
      have hi1 : (0 : Int) ≤ (j : Int) + (k : Int) := by omega
      have hi2 : (j : Int) + (k : Int) < (len : Int) := by omega
      have hi3 : ((j : Int) + (k : Int)).toNat = j + k := by omega
      clear hA hD h2 h3 hor
      go_wp2_with fail
      go_round
      case rel => exact ⟨k + 1, by omega, by go_num, by rw [HN.out, HOR.out]⟩
      case measure => simp [intOf]; omega
    · obtain rfl : k = N := by omega
      go_wp2_with fail
      go_ret
      exact ⟨rfl, rfl⟩
theorem readat17 (w : World) (b off len c : Nat) (bs : List Nat) (j : Nat) (hX : ∀ b ∈ bs, b < 256) (hl : len ≤ 140737488353272) (hj : j + 8 ≤ len) (hc : ∀ i, i < len → w.cell? ⟨b, off + i, none⟩ = some (.int .u8 (bs.getD i 0 : Nat))) :
    Calls Tryz.prog 20 #[.slice (some ⟨b, off, none⟩) len c, .int .i64 (j : Nat), .int .i64 8] w fun e w' => e = .returned (.int .u64 (num8 bs j : Nat)) ∧ w' = w := by
  have := readat38 w b off len c bs j 8 (Nat.le_refl _) hX hl hj hc
  rwa [part_eight] at this
end Ry
end Go.Proofs.YtjmddomkoholoaaGreatDoor

/- readFloats. -/
namespace Go.Proofs.YtjmddomkoholoaaGreatDoor
open Go.RowKit
namespace Rw
open Cm Wr Bm Rd Cv Vs

/-- What one that reads answers. -/
def Rres (w : World) (k : Int) (n : Nat) (b : List Nat) (e : Ending) (w' : World) : Prop :=
  ∃ r T, e = .returned r ∧ w'.ownsRow w.heap.size 35 3 r T.length (vcs T) ∧ Rdk k n b T ∧ (T = [] ∨ T.length = n) ∧ Below w.heap.size w w'
theorem Rres.none {w w' : World} {k : Int} {n : Nat} {b : List Nat} (h : ∀ T, ¬ Of k n b T) (bl : Below w.heap.size w w') : Rres w k n b (.returned (.slice none 0 0)) w' :=
  ⟨_, [], rfl, World.ownsRow_nil _ _ _ _, Rdk.nil h, .inl rfl, bl⟩
theorem mk_snoc (k : Int) (l : List Nat) (x : Nat) : mk k (l ++ [x]) = mk k l ++ [(k, x, [])] := by simp [mk]
theorem vcs_one_cell (k : Int) (x : Nat) : vc (k, x, []) = [.int .i64 k, .int .u64 (x : Nat), .string ⟨#[]⟩] := by simp [vc, str_nil]
theorem cells3_new (w : World) (a b c : Value) (t : TypeId) : ∀ j u, [a, b, c][j]? = some u → (w.alloc (.cells #[a, b, c] t)).cell? ((⟨w.heap.size, 0, none⟩ : Addr).add j) = some u := by
  intro j u hj
  match j, hj with
  | 0, hj => simp at hj; subst hj; simp [Addr.add]
  | 1, hj => simp at hj; subst hj; simp [Addr.add]
  | 2, hj => simp at hj; subst hj; simp [Addr.add]
theorem own_val {w : World} {B g n c : Nat} {xs : List Value} (h : w.ownsRow B 35 3 (.slice (some ⟨g, 0, none⟩) n c) n xs) (j : Nat) (u : Value) (hj : xs[j]? = some u) : w.cell? ⟨g, j, none⟩ = some u := by
  have := h.cells rfl j u hj
  unfold Addr.add at this
  split at this
  · rename_i e; subst e; exact this
  · simpa using this

set_option maxRecDepth 100000 in
set_option maxHeartbeats 4000000 in
theorem floats57 (w : World) (v : Value) (bs : List Nat) (n : Nat) (hIs : Is w v bs) (hX : ∀ b ∈ bs, b < 256) (hb : bs.length ≤ 140737488353272) (hn : 1 ≤ n) (hn9 : n ≤ 1000) :
    Calls Tryz.prog 114 #[.int .i64 (n : Nat), v] w fun e w' => Rres w 1 n bs e w' := by
  obtain ⟨i0, hi, hz0, hz1, hz2⟩ := info_parts info35
  have F75 := Lib.hid (new_rs w v bs hIs hb)
  have F76 := Lib.hid (fun (y : World) (g : Nat) (s : Value) (h : Rs y g s bs (some 0)) => get_rs y g s bs (some 0) 64 h (by decide) (by decide) hX hb)
  have F77 := Lib.hid (fun (y : World) (g : Nat) (s : Value) (q : Option Nat) (h : Rs y g s bs q) => unlike77 y g s bs q h hX hb)
  have HS0 := Lib.hid (go_start (b := bs) hn)
  have hx0 := rg_lt bs (some 0) 64
  obtain ⟨⟨x0, q0⟩, hq0⟩ : ∃ a, a = rg bs (some 0) 64 := ⟨_, rfl⟩
  rw [← hq0] at F76 HS0 hx0
  simp only at F76 HS0 hx0
  have HX := Lib.hid hX
  obtain ⟨m, hm⟩ : ∃ m, n = m + 1 := ⟨n - 1, by omega⟩
  have hmi : (n : Int) - 1 = (m : Int) := by omega
  clear hIs hX hb hq0
  go_enter Tryz.func114, Tryz.ntmps114
  go_wp2_with fail
  refine F75.out.mono ?_
  rintro e w1 ⟨g, s, rfl, h1, h2, h3, b1⟩
  have H1 := Lib.hid h1
  have B1 := Lib.hid b1
  have HG := Lib.hid (And.intro h2 h3)
  have hlt := h1.lt
  clear h1 h2 h3 b1
  go_wp2_with fail
  refine (F76.out _ _ _ H1.out).mono ?_
  rintro e w2 ⟨rfl, ⟨s2, r2, e2⟩, o2⟩
  have R2 := Lib.hid (Rs.alloc r2 (.cells #[.int .i64 1, .int .u64 (x0 : Nat), .string ⟨#[]⟩] 35))
  have HB := Lib.hid (show g < w1.heap.size ∧ (∀ k, s2.ownBlock = some k → k < w1.heap.size) from ⟨hlt.1, fun k hk => by
    rcases e2 with rfl | rfl
    · exact hlt.2 k hk
    · cases hk⟩)
  have B2 := Lib.hid (show Below w.heap.size w (w2.alloc (.cells #[.int .i64 1, .int .u64 (x0 : Nat), .string ⟨#[]⟩] 35)) ∧ w1.heap.size ≤ w2.heap.size from ⟨(B1.out.trans (o2.below HG.out.1 B1.out.size)).alloc (Nat.le_trans B1.out.size o2.size) _, o2.size⟩)
  have O2 := Lib.hid (show (w2.alloc (.cells #[.int .i64 1, .int .u64 (x0 : Nat), .string ⟨#[]⟩] 35)).ownsRow w1.heap.size 35 3 (.slice (some ⟨w2.heap.size, 0, none⟩) 1 1) 1 (vcs (mk 1 [x0])) from by
    have h := Go.Joins.ownsRow_le (World.ownsRow_lit (size := 3) (e := 35) w2 #[.int .i64 1, .int .u64 (x0 : Nat), .string ⟨#[]⟩] 1 (Nat.le_refl _) (by decide) rfl) o2.size
    have e : vcs (mk 1 [x0]) = [.int .i64 1, .int .u64 (x0 : Nat), .string ⟨#[]⟩] := by simp [vcs, mk, vcs_one_cell]
    rw [e]
    exact h)
  obtain ⟨BB, hBB⟩ : ∃ BB, BB = w1.heap.size := ⟨_, rfl⟩
  rw [← hBB] at HB B2 O2
  clear r2 e2 o2 hlt hBB
  go_wp2_with fail
  go_loopw [6, 16] (fun x i wr => ∃ k o y q s, k ≤ m ∧ i = .int .i64 (k : Nat) ∧ o.length = k ∧ (∀ z ∈ o ++ [y], z < 18446744073709551616) ∧ wr.ownsRow BB 35 3 x (k + 1) (vcs (mk 1 (o ++ [y]))) ∧ GO bs n (o ++ [y]) q ∧ Rs wr g s bs q ∧ (∀ j, s.ownBlock = some j → j < BB) ∧ Below w.heap.size w wr ∧ BB ≤ wr.heap.size) (fun _ i _ => m - (intOf i).toNat)
  case atStart => exact ⟨0, [], x0, q0, s2, Nat.zero_le _, rfl, rfl, by intro z hz; simp at hz; subst hz; exact hx0, O2.out, HS0.out, R2.out, HB.out.2, B2.out.1, Nat.le_trans B2.out.2 (by simp)⟩
  case round =>
    obtain ⟨k, o, y, q, s, hk, rfl, hol, hz, ho, hgo, hrs, hsb, hbl, hBB⟩ := hrel
    by_cases hkm : k < m
    · obtain ⟨gx, cx, rfl⟩ := Go.Joins.ownsRow_form ho (by omega)
      have hgx := ho.lt gx rfl
      have hlen : (mk 1 (o ++ [y])).length = k + 1 := by rw [mk_len]; simp [hol]
      have hget : (vcs (mk 1 (o ++ [y])))[k * 3 + 1]? = some (.int .u64 (y : Nat)) := by
        rw [vcs_get _ k 1 (by omega) (by decide)]
        have e : (mk 1 (o ++ [y])).getD k z0 = (1, y, []) := by rw [mk_snoc, List.getD_eq_getElem?_getD, List.getElem?_append_right (by rw [mk_len]; omega), mk_len, hol]; simp
        rw [e]
        rfl
      have e24 := own_val ho _ _ hget
      have HGO := Lib.hid (go_step hgo (by omega))
      have F77k := Lib.hid (F77.out wr.drew g s q (hrs.drewN 1))
      have hu := gu_lt bs q
      obtain ⟨⟨uv, uq⟩, huq⟩ : ∃ a, a = gu bs q := ⟨_, rfl⟩
      rw [← huq] at F77k hu HGO
      simp only at F77k hu HGO
      have hy := hz y (by simp)
      have hxor := Fl.xor_u64 y uv hy hu
      have hzl : y ^^^ uv < 18446744073709551616 := Nat.xor_lt_two_pow (n := 64) hy hu
      obtain ⟨Z, hZ⟩ : ∃ Z, Z = y ^^^ uv := ⟨_, rfl⟩
      rw [← hZ] at hxor HGO hzl
      have HO := Lib.hid ho
      have HZ := Lib.hid hz
      have HOL := Lib.hid hol
      have HSB := Lib.hid hsb
      have HBL := Lib.hid hbl
      have f24 : Hid (∀ w5, Only wr.drew w5 g → w5.cell? ⟨gx, k * 3 + 1, none⟩ = some (.int .u64 (y : Nat)) ∧ w5.ownsRow BB 35 3 (.slice (some ⟨gx, 0, none⟩) (k + 1) cx) (k + 1) (vcs (mk 1 (o ++ [y])))) := Lib.hid fun w5 o5 => by
        have h := own_apart HO.out.drew o5 (by show some gx ≠ some g; intro e; cases e; have := HB.out.1; omega)
        exact ⟨own_val h _ _ hget, h⟩
      clear ho hz hol hsb hbl hgo hrs huq hZ hget hlen
      have FIN : Hid (∀ w5 s5, Rs w5 g s5 bs uq → (s5 = s ∨ s5 = .slice none 0 0) → Only wr.drew w5 g → (w5.alloc (.cells #[.int .i64 1, .int .u64 (Z : Nat), .string ⟨#[]⟩] 35)).ownsRow BB 35 3 (.slice (some ⟨gx, 0, none⟩) (k + 1) cx) (k + 1) (vcs (mk 1 (o ++ [y]))) ∧ BB ≤ (w5.alloc (.cells #[.int .i64 1, .int .u64 (Z : Nat), .string ⟨#[]⟩] 35)).heap.size) := Lib.hid fun w5 s5 r5 e5 o5 =>
        ⟨(f24.out w5 o5).2.alloc _, by have := o5.size; simp at this; simp; omega⟩
      have FEND : Hid (∀ w5 s5 v6 w6, Rs w5 g s5 bs uq → (s5 = s ∨ s5 = .slice none 0 0) → Only wr.drew w5 g → w6.ownsRow BB 35 3 v6 (k + 1 + 1) (vcs (mk 1 (o ++ [y])) ++ [.int .i64 1, .int .u64 (Z : Nat), .string ⟨#[]⟩]) → (w5.alloc (.cells #[.int .i64 1, .int .u64 (Z : Nat), .string ⟨#[]⟩] 35)).grownBy w6 (some gx) →
          w6.ownsRow BB 35 3 v6 (k + 1 + 1) (vcs (mk 1 (o ++ [y] ++ [Z]))) ∧ Rs w6 g s5 bs uq ∧ (∀ j, s5.ownBlock = some j → j < BB) ∧ Below w.heap.size w w6 ∧ BB ≤ w6.heap.size) := Lib.hid fun w5 s5 v6 w6 r5 e5 o5 h6 g6 => by
        have hs5 : ∀ j, s5.ownBlock = some j → j < BB := fun j hj => by
          rcases e5 with rfl | rfl
          · exact HSB.out j hj
          · cases hj
        refine ⟨by rw [mk_snoc 1 (o ++ [y]), vcs_snoc, vcs_one_cell]; exact h6, (r5.alloc _).kept g6 (by intro e; cases e; have := HB.out.1; omega) ?_, hs5, ?_, ?_⟩
        · by_cases e : s5.ownBlock = none
          · exact .inl e
          · right
            intro e'
            have := hs5 gx e'
            omega
        · have b5 := HBL.out.drew.trans (o5.below HG.out.1 HBL.out.drew.size)
          exact (b5.alloc b5.size _).grown g6 (by have := b5.size; simp; omega) (fun r hr => by cases hr; have := B1.out.size; have := HG.out.1; have := HB.out.1; omega)
        · have h1 := g6.size
          have h2 := o5.size
          simp at h1 h2
          omega
      have hkk : (k : Int) < (k : Int) + 1 := by omega
      have hf24 : wr.drew.cell? ⟨gx, k * 3 + 1, none⟩ = some (.int .u64 (y : Nat)) := e24
      go_wp2_with fail
      go_region_law (first
        | (go_simp; go_at_call 148; refine F77k.out.mono ?_; rintro e w5 ⟨rfl, ⟨⟨s5, r5, e5⟩, o5⟩⟩; have f5 := (f24.out w5 o5).1; have R5 := Lib.hid r5; have E5 := Lib.hid e5; have O5 := Lib.hid o5; clear r5 e5 o5)
        | (refine Ry.step_append_own rfl (.tmp 19) (.tmp 29) 57 rfl BB 35 i0 (.agg #[.int .i64 0, .int .u64 0, .string ⟨#[]⟩]) 3 32 Tryz.underlying57 hi hz0 hz1 hz2 rfl (by decide) (.slice (some ⟨gx, 0, none⟩) (k + 1) cx) (k + 1) (vcs (mk 1 (o ++ [y]))) (by simp [Act.eval]) (FIN.out _ _ R5.out E5.out O5.out).1 ⟨w5.heap.size, 0, none⟩ 1 1 [.int .i64 1, .int .u64 (Z : Nat), .string ⟨#[]⟩] (by simp [Act.eval]) rfl (cells3_new _ _ _ _ _) (by intro u hu; simp at hu; rcases hu with rfl | rfl | rfl <;> rfl) (by unfold maxLen; omega) (by omega) (FIN.out _ _ R5.out E5.out O5.out).2 ?_; intro v6 w6 h6 g6))
      all_goals
        have Q6 := Lib.hid (FEND.out _ _ _ _ R5.out E5.out O5.out h6 g6)
        clear h6 g6 f5 hf24
        go_wp2_with fail
        go_roundw
        case rel =>
          refine ⟨k + 1, o ++ [y], Z, uq, s5, by omega, by go_num, by rw [List.length_append, HOL.out]; rfl, fun z hz => ?_, Q6.out.1, HGO.out, Q6.out.2.1, Q6.out.2.2.1, Q6.out.2.2.2.1, Q6.out.2.2.2.2⟩
          rcases List.mem_append.1 hz with hz | hz
          · exact HZ.out z hz
          · simp at hz; omega
        case measure => simp [intOf]; omega
    · obtain rfl : k = m := by omega
      have HO := Lib.hid ho
      have HGO := Lib.hid hgo
      have hlen : (mk 1 (o ++ [y])).length = k + 1 := by rw [mk_len]; simp [hol]
      have HD := Lib.hid (Rdk.floats hgo (by simp [hol]; omega) hz)
      have HL := Lib.hid (And.intro hlen hm)
      have HBL := Lib.hid hbl
      clear ho hgo hlen hz hsb hrs hbl hol
      go_wp2_with fail
      go_ret
      refine ⟨_, mk 1 (o ++ [y]), rfl, ?_, HD.out, .inr (by rw [HL.out.1, HL.out.2]), HBL.out⟩
      rw [HL.out.1]
      exact Go.Joins.ownsRow_le HO.out (by have := B1.out.size; have := HG.out.1; have := HB.out.1; omega)
end Rw
end Go.Proofs.YtjmddomkoholoaaGreatDoor

/- readPlain, readBooleans. -/
namespace Go.Proofs.YtjmddomkoholoaaGreatDoor
open Go.RowKit
namespace Rw
open Cm Wr Bm Rd Cv Vs

/-- Where the reader stands behind k readings of N bits; what the next one gives. -/
def st (b : List Nat) (N k : Nat) : Option Nat := if N * k ≤ 8 * b.length then some (N * k) else none
def val (b : List Nat) (N k : Nat) : Nat := if N * (k + 1) ≤ 8 * b.length then num (bo b) (N * k) N else 0
theorem rg_st (b : List Nat) (N k : Nat) : rg b (st b N k) N = (val b N k, st b N (k + 1)) := by
  unfold st val
  have e : N * (k + 1) = N * k + N := by rw [Nat.mul_add, Nat.mul_one]
  by_cases h : N * k ≤ 8 * b.length
  · rw [if_pos h]
    unfold rg
    simp only
    rw [e]
    by_cases h2 : N * k + N ≤ 8 * b.length
    · rw [if_pos h2, if_pos h2, if_pos h2]
    · rw [if_neg h2, if_neg h2, if_neg h2]
  · rw [if_neg h, if_neg (by omega), if_neg (by omega)]
    rfl
theorem val_bit (b : List Nat) (k : Nat) : val b 1 k = bitN b k := by unfold val bitN; rw [Nat.one_mul, Nat.one_mul]
theorem val_lt {b : List Nat} {N : Nat} (hN : N ≤ 64) (k : Nat) : val b N k < 18446744073709551616 := by
  unfold val
  split
  · exact Nat.lt_of_lt_of_le (num_lt _ _ _) (Nat.pow_le_pow_right (n := 2) (by decide) hN)
  · decide
theorem num_word {bs : List Nat} (hX : ∀ b ∈ bs, b < 256) (k : Nat) : num (bo bs) (64 * k) 64 = Mt.num8 bs (8 * k) := by
  exact Mt.num_word hX k
theorem val_word {b : List Nat} (hX : ∀ x ∈ b, x < 256) (k : Nat) : val b 64 k = word b k := by
  unfold val word
  by_cases h : 8 * (k + 1) ≤ b.length
  · rw [if_pos (by omega), if_pos h, num_word hX]
  · rw [if_neg (by omega), if_neg h]

set_option maxRecDepth 100000 in
set_option maxHeartbeats 4000000 in
theorem bools59 (w : World) (v : Value) (bs : List Nat) (n : Nat) (hIs : Is w v bs) (hX : ∀ b ∈ bs, b < 256) (hb : bs.length ≤ 140737488353272) (hn9 : n ≤ 1000) :
    Calls Tryz.prog 116 #[.int .i64 (n : Nat), v] w fun e w' => ∃ r, e = .returned r ∧ w'.ownsRow w.heap.size 35 3 r n (vcs (mk 3 (tab (val bs 1) n))) ∧ Below w.heap.size w w' := by
  obtain ⟨i0, hi, hz0, hz1, hz2⟩ := info_parts info35
  have F75 := Lib.hid (new_rs w v bs hIs hb)
  have F76 := Lib.hid (fun (y : World) (g : Nat) (s : Value) (k : Nat) (h : Rs y g s bs (st bs 1 k)) => (show Calls Tryz.prog 57 #[.pointer (some ⟨g, 0, none⟩), .int .i64 1] y fun e w' => e = .returned (.int .u64 (val bs 1 k : Nat)) ∧ (∃ s', Rs w' g s' bs (st bs 1 (k + 1)) ∧ (s' = s ∨ s' = .slice none 0 0)) ∧ Only y w' g from by
    have := get_rs y g s bs (st bs 1 k) 1 h (by decide) (by decide) hX hb
    rw [rg_st] at this
    exact this))
  have HST0 := Lib.hid (show st bs 1 0 = some 0 from by unfold st; rw [if_pos (by omega)])
  clear hIs hX hb
  go_enter Tryz.func116, Tryz.ntmps116
  go_wp2_with fail
  refine F75.out.mono ?_
  rintro e w1 ⟨g, s, rfl, h1, h2, h3, b1⟩
  have H1 := Lib.hid (show Rs w1 g s bs (st bs 1 0) from by rw [HST0.out]; exact h1)
  have B1 := Lib.hid b1
  have HG := Lib.hid (And.intro h2 h3)
  have hlt := h1.lt
  obtain ⟨BB, hBB⟩ : ∃ BB, BB = w1.heap.size := ⟨_, rfl⟩
  rw [← hBB] at hlt
  have HB := Lib.hid hlt
  have HBB := Lib.hid hBB
  clear h1 h2 h3 b1 hlt hBB
  go_wp2_with fail
  go_loopw [5, 10] (fun x i wr => ∃ k s, k ≤ n ∧ i = .int .i64 (k : Nat) ∧ wr.ownsRow BB 35 3 x k (vcs (mk 3 (tab (val bs 1) k))) ∧ Rs wr g s bs (st bs 1 k) ∧ (∀ j, s.ownBlock = some j → j < BB) ∧ Below w.heap.size w wr ∧ BB ≤ wr.heap.size) (fun _ i _ => n - (intOf i).toNat)
  case atStart => exact ⟨0, s, Nat.zero_le _, rfl, World.ownsRow_nil _ _ _ _, H1.out, HB.out.2, B1.out, by rw [HBB.out]; exact Nat.le_refl _⟩
  case round =>
    obtain ⟨k, s, hk, rfl, ho, hrs, hsb, hbl, hBB⟩ := hrel
    by_cases hkm : k < n
    · have F76k := Lib.hid (F76.out wr g s k hrs)
      obtain ⟨Z, hZ⟩ : ∃ Z, Z = val bs 1 k := ⟨_, rfl⟩
      rw [← hZ] at F76k
      have HZ := Lib.hid (show tab (val bs 1) (k + 1) = tab (val bs 1) k ++ [Z] from by rw [tab_succ, hZ])
      have hx : ∀ j, u5.ownBlock = some j → BB ≤ j ∧ j < wr.heap.size := ho.lt
      have HX := Lib.hid hx
      have HO := Lib.hid ho
      have HSB := Lib.hid hsb
      have HBL := Lib.hid hbl
      have HBW := Lib.hid hBB
      clear ho hsb hbl hrs hZ hx hBB
      go_wp2_with fail
      refine F76k.out.mono ?_
      rintro e w5 ⟨rfl, ⟨s5, r5, e5⟩, o5⟩
      have O5 := Lib.hid (own_apart HO.out o5 (fun e => by have h1 := (HX.out g e).1; have := HB.out.1; omega))
      have HSZ := Lib.hid (show BB ≤ w5.heap.size from Nat.le_trans HBW.out o5.size)
      have HQ := Lib.hid (show (∀ j, s5.ownBlock = some j → j < BB) ∧ Below w.heap.size w w5 ∧ Rs w5 g s5 bs (st bs 1 (k + 1)) from ⟨fun j hj => (by
          rcases e5 with rfl | rfl
          · exact HSB.out j hj
          · cases hj), HBL.out.trans (o5.below HG.out.1 HBL.out.size), r5⟩)
      clear r5 e5 o5
      go_wp2_with (at_builtin; refine wpList_append_own _ rfl (.tmp 12) (.tmp 16) 57 rfl BB 35 i0 (.agg #[.int .i64 0, .int .u64 0, .string ⟨#[]⟩]) 3 32 Tryz.underlying57 hi hz0 hz1 hz2 rfl (by decide) _ _ _ rfl (O5.out.alloc _) ⟨w5.heap.size, 0, none⟩ 1 1 [.int .i64 3, .int .u64 (Z : Nat), .string ⟨#[]⟩] rfl rfl (cells3_new _ _ _ _ _) ?c2 ?c3 ?c4 ?c5 ?_)
      case c2 => intro u hu; simp at hu; rcases hu with rfl | rfl | rfl <;> rfl
      case c3 => unfold maxLen; omega
      case c4 => omega
      case c5 => have := HSZ.out; simp; omega
      intro v6 w6 h6 g6 _
      have HE := Lib.hid (show w6.ownsRow BB 35 3 v6 (k + 1) (vcs (mk 3 (tab (val bs 1) (k + 1)))) ∧ Rs w6 g s5 bs (st bs 1 (k + 1)) ∧ Below w.heap.size w w6 ∧ BB ≤ w6.heap.size from by
        refine ⟨by rw [HZ.out, mk_snoc, vcs_snoc, vcs_one_cell]; exact h6, (HQ.out.2.2.alloc _).kept g6 (fun e => by have h1 := (HX.out g e).1; have := HB.out.1; omega) ?_, ?_, ?_⟩
        · by_cases e : s5.ownBlock = none
          · exact .inl e
          · right
            intro e'
            cases hs : s5.ownBlock with
            | none => exact e hs
            | some j => have h1 := HQ.out.1 j hs; have h2 := (HX.out j (by rw [← e', hs])).1; omega
        · exact (HQ.out.2.1.alloc HQ.out.2.1.size _).grown g6 (by have := HQ.out.2.1.size; simp; omega) (fun r hr => by have h1 := (HX.out r hr).1; have := HB.out.1; have := HG.out.1; omega)
        · have h1 := g6.size
          have := HSZ.out
          simp at h1
          omega)
      clear h6 g6
      go_wp2_with fail
      go_roundw
      case rel => exact ⟨k + 1, s5, by omega, by go_num, HE.out.1, HE.out.2.1, HQ.out.1, HE.out.2.2.1, HE.out.2.2.2⟩
      case measure => simp [intOf]; omega
    · obtain rfl : k = n := by omega
      have HO := Lib.hid ho
      have HBL := Lib.hid hbl
      clear ho hsb hrs hbl
      go_wp2_with fail
      go_ret
      exact ⟨_, rfl, Go.Joins.ownsRow_le HO.out (by have := HB.out.1; have := HG.out.1; omega), HBL.out⟩

set_option maxRecDepth 100000 in
set_option maxHeartbeats 4000000 in
theorem plain78 (w : World) (v : Value) (bs : List Nat) (n : Nat) (hIs : Is w v bs) (hX : ∀ b ∈ bs, b < 256) (hb : bs.length ≤ 140737488353272) (hn9 : n ≤ 1000) :
    Calls Tryz.prog 149 #[.int .i64 (n : Nat), v] w fun e w' => ∃ r, e = .returned r ∧ w'.ownsRow w.heap.size 35 3 r n (vcs (mk 2 (tab (val bs 64) n))) ∧ Below w.heap.size w w' := by
  obtain ⟨i0, hi, hz0, hz1, hz2⟩ := info_parts info35
  have F75 := Lib.hid (new_rs w v bs hIs hb)
  have F76 := Lib.hid (fun (y : World) (g : Nat) (s : Value) (k : Nat) (h : Rs y g s bs (st bs 64 k)) => (show Calls Tryz.prog 57 #[.pointer (some ⟨g, 0, none⟩), .int .i64 64] y fun e w' => e = .returned (.int .u64 (val bs 64 k : Nat)) ∧ (∃ s', Rs w' g s' bs (st bs 64 (k + 1)) ∧ (s' = s ∨ s' = .slice none 0 0)) ∧ Only y w' g from by
    have := get_rs y g s bs (st bs 64 k) 64 h (by decide) (by decide) hX hb
    rw [rg_st] at this
    exact this))
  have HST0 := Lib.hid (show st bs 64 0 = some 0 from by unfold st; rw [if_pos (by omega)])
  clear hIs hX hb
  go_enter Tryz.func149, Tryz.ntmps149
  go_wp2_with fail
  refine F75.out.mono ?_
  rintro e w1 ⟨g, s, rfl, h1, h2, h3, b1⟩
  have H1 := Lib.hid (show Rs w1 g s bs (st bs 64 0) from by rw [HST0.out]; exact h1)
  have B1 := Lib.hid b1
  have HG := Lib.hid (And.intro h2 h3)
  have hlt := h1.lt
  obtain ⟨BB, hBB⟩ : ∃ BB, BB = w1.heap.size := ⟨_, rfl⟩
  rw [← hBB] at hlt
  have HB := Lib.hid hlt
  have HBB := Lib.hid hBB
  clear h1 h2 h3 b1 hlt hBB
  go_wp2_with fail
  go_loopw [5, 10] (fun x i wr => ∃ k s, k ≤ n ∧ i = .int .i64 (k : Nat) ∧ wr.ownsRow BB 35 3 x k (vcs (mk 2 (tab (val bs 64) k))) ∧ Rs wr g s bs (st bs 64 k) ∧ (∀ j, s.ownBlock = some j → j < BB) ∧ Below w.heap.size w wr ∧ BB ≤ wr.heap.size) (fun _ i _ => n - (intOf i).toNat)
  case atStart => exact ⟨0, s, Nat.zero_le _, rfl, World.ownsRow_nil _ _ _ _, H1.out, HB.out.2, B1.out, by rw [HBB.out]; exact Nat.le_refl _⟩
  case round =>
    obtain ⟨k, s, hk, rfl, ho, hrs, hsb, hbl, hBB⟩ := hrel
    by_cases hkm : k < n
    · have F76k := Lib.hid (F76.out wr g s k hrs)
      obtain ⟨Z, hZ⟩ : ∃ Z, Z = val bs 64 k := ⟨_, rfl⟩
      rw [← hZ] at F76k
      have HZ := Lib.hid (show tab (val bs 64) (k + 1) = tab (val bs 64) k ++ [Z] from by rw [tab_succ, hZ])
      have hx : ∀ j, u5.ownBlock = some j → BB ≤ j ∧ j < wr.heap.size := ho.lt
      have HX := Lib.hid hx
      have HO := Lib.hid ho
      have HSB := Lib.hid hsb
      have HBL := Lib.hid hbl
      have HBW := Lib.hid hBB
      clear ho hsb hbl hrs hZ hx hBB
      go_wp2_with fail
      refine F76k.out.mono ?_
      rintro e w5 ⟨rfl, ⟨s5, r5, e5⟩, o5⟩
      have O5 := Lib.hid (own_apart HO.out o5 (fun e => by have h1 := (HX.out g e).1; have := HB.out.1; omega))
      have HSZ := Lib.hid (show BB ≤ w5.heap.size from Nat.le_trans HBW.out o5.size)
      have HQ := Lib.hid (show (∀ j, s5.ownBlock = some j → j < BB) ∧ Below w.heap.size w w5 ∧ Rs w5 g s5 bs (st bs 64 (k + 1)) from ⟨fun j hj => (by
          rcases e5 with rfl | rfl
          · exact HSB.out j hj
          · cases hj), HBL.out.trans (o5.below HG.out.1 HBL.out.size), r5⟩)
      clear r5 e5 o5
      go_wp2_with (at_builtin; refine wpList_append_own _ rfl (.tmp 12) (.tmp 16) 57 rfl BB 35 i0 (.agg #[.int .i64 0, .int .u64 0, .string ⟨#[]⟩]) 3 32 Tryz.underlying57 hi hz0 hz1 hz2 rfl (by decide) _ _ _ rfl (O5.out.alloc _) ⟨w5.heap.size, 0, none⟩ 1 1 [.int .i64 2, .int .u64 (Z : Nat), .string ⟨#[]⟩] rfl rfl (cells3_new _ _ _ _ _) ?c2 ?c3 ?c4 ?c5 ?_)
      case c2 => intro u hu; simp at hu; rcases hu with rfl | rfl | rfl <;> rfl
      case c3 => unfold maxLen; omega
      case c4 => omega
      case c5 => have := HSZ.out; simp; omega
      intro v6 w6 h6 g6 _
      have HE := Lib.hid (show w6.ownsRow BB 35 3 v6 (k + 1) (vcs (mk 2 (tab (val bs 64) (k + 1)))) ∧ Rs w6 g s5 bs (st bs 64 (k + 1)) ∧ Below w.heap.size w w6 ∧ BB ≤ w6.heap.size from by
        refine ⟨by rw [HZ.out, mk_snoc, vcs_snoc, vcs_one_cell]; exact h6, (HQ.out.2.2.alloc _).kept g6 (fun e => by have h1 := (HX.out g e).1; have := HB.out.1; omega) ?_, ?_, ?_⟩
        · by_cases e : s5.ownBlock = none
          · exact .inl e
          · right
            intro e'
            cases hs : s5.ownBlock with
            | none => exact e hs
            | some j => have h1 := HQ.out.1 j hs; have h2 := (HX.out j (by rw [← e', hs])).1; omega
        · exact (HQ.out.2.1.alloc HQ.out.2.1.size _).grown g6 (by have := HQ.out.2.1.size; simp; omega) (fun r hr => by have h1 := (HX.out r hr).1; have := HB.out.1; have := HG.out.1; omega)
        · have h1 := g6.size
          have := HSZ.out
          simp at h1
          omega)
      clear h6 g6
      go_wp2_with fail
      go_roundw
      case rel => exact ⟨k + 1, s5, by omega, by go_num, HE.out.1, HE.out.2.1, HQ.out.1, HE.out.2.2.1, HE.out.2.2.2⟩
      case measure => simp [intOf]; omega
    · obtain rfl : k = n := by omega
      have HO := Lib.hid ho
      have HBL := Lib.hid hbl
      clear ho hsb hrs hbl
      go_wp2_with fail
      go_ret
      exact ⟨_, rfl, Go.Joins.ownsRow_le HO.out (by have := HB.out.1; have := HG.out.1; omega), HBL.out⟩
end Rw
end Go.Proofs.YtjmddomkoholoaaGreatDoor

/- The program's side: Unpack. -/
namespace Go.Proofs.YtjmddomkoholoaaGreatDoor
open Go.RowKit
namespace Ux
open Mt Wr Bm Pk Rp Cv Rd Rx

/-- What Unpack answers. -/
def Unpacked (w : World) (bs : List Nat) (n : Int) (e : Ending) (w' : World) : Prop :=
  ((∃ l r, unpacks bs n = some l ∧ e = .returned (.tuple #[r, .int .i64 0]) ∧ w'.ownsRow w.heap.size 33 1 r l.length (u64s l) ∧ Small l ∧ (l.length : Int) = n) ∨
    (unpacks bs n = none ∧ e = .returned (.tuple #[.slice none 0 0, .int .i64 2]))) ∧ Below w.heap.size w w'

theorem small64 {l : List Nat} (h : Small l) : ∀ x ∈ l, x < 18446744073709551616 := fun x hx => Nat.lt_trans (h x hx) (by decide)

theorem got_len (bs : List Nat) (n : Int) : (got bs n).length ≤ min n.toNat (60 * (bs.length / 8)) := by
  unfold got
  split
  · simp
  · cases h : reads n.toNat [] (wordsOf bs (bs.length / 8)) with
    | none => simp
    | some l =>
      have h1 := reads_le h (Nat.zero_le _)
      have h2 := reads_len h
      rw [wordsOf_len, List.length_nil] at h2
      simp only [Option.getD_some]
      omega


set_option maxRecDepth 100000 in
set_option maxHeartbeats 1000000 in
theorem unpack11 (w : World) (v : Value) (bs : List Nat) (n : Int) (hP : Pl w v bs) (hIs : Is w v bs) (hX : ∀ b ∈ bs, b < 256) (hT : Tab w) (hb : bs.length ≤ 140737488353272) (hbd : min n.toNat (60 * (bs.length / 8)) ≤ 17592186044159)
    (n1 : -9223372036854775808 ≤ n) (n2 : n ≤ 9223372036854775807) : Calls Tryz.prog 146 #[v, .int .i64 n] w fun e w' => Unpacked w bs n e w' := by
  have F18 := Lib.hid (read18 w v bs n hIs hX hT hb hbd n1 n2)
  have hgl := Nat.le_trans (got_len bs n) hbd
  have hgu := got_unpacks bs n
  obtain ⟨l, hl⟩ : ∃ l, l = got bs n := ⟨_, rfl⟩
  have hS : Small l := by rw [hl]; exact got_small bs n
  rw [← hl] at F18 hgu hgl
  have F16 : Hid (∀ x r B, Below w.heap.size w x → World.ownsRow x B 33 1 r l.length (u64s l) → Calls Tryz.prog 133 #[r] x fun e w' => ∃ r', e = .returned r' ∧ (convert 22 9 r').run Tryz.prog w' = .ok (.string (str (packs l))) w' ∧ (convert 22 9 v).run Tryz.prog w' = .ok (.string (str bs)) w' ∧ w'.ownsRow B 33 1 r l.length (u64s l) ∧ Below w.heap.size w w') :=
    Lib.hid fun x r B hb ho => (packed16 x r l (iu_own ho (small64 hS)) hS (hT.below hb hT.1) hgl).mono fun e w' ⟨r', he, ho', bl⟩ =>
      ⟨r', he, conv_own ho', conv_pl (hP.below (hb.trans (bl.mono hb.size))), own_below ho bl, hb.trans (bl.mono hb.size)⟩
  have hne : packs l ≠ bs → ((str (packs l)).toList == (str bs).toList) = false := fun h => toList_ne fun e => h (str_inj (flat_lt _) hX e)
  have heq : packs l = bs → str (packs l) = str bs := fun h => by rw [h]
  have HS := Lib.hid hS
  have HGU := Lib.hid hgu
  have HEQ := Lib.hid heq
  have HNE := Lib.hid hne
  obtain ⟨S, hSS⟩ : ∃ S, S = str (packs l) := ⟨_, rfl⟩
  obtain ⟨T, hTT⟩ : ∃ T, T = str bs := ⟨_, rfl⟩
  rw [← hSS] at HEQ HNE F16
  rw [← hTT] at HEQ HNE F16
  obtain ⟨m, hm⟩ : ∃ m, m = l.length := ⟨_, rfl⟩
  rw [← hm] at F18 F16 hgl
  have HM := Lib.hid hm
  clear hl hS hgu hP hIs hX hT hne heq hSS hTT hm
  by_cases h1 : (m : Int) = n
  · by_cases h2 : packs l = bs
    · have hu : Hid (unpacks bs n = some l) := Lib.hid (by rw [← HGU.out, ← HM.out, if_pos ⟨h1, h2⟩])
      obtain rfl := HEQ.out h2
      have FE : Hid (∀ x u v, (convert 22 9 u).run Tryz.prog x = .ok (.string S) x → (convert 22 9 v).run Tryz.prog x = .ok (.string S) x → Calls Tryz.prog 55 #[u, v] x fun e w' => e = .returned (.bool true) ∧ w' = x) := Lib.hid fun x u v => equal_yes x u v S
      clear h2
      go_enter Tryz.func146, Tryz.ntmps146
      go_wp2_with (go_at_call 169; refine F18.out.mono ?_; rintro e w2 ⟨r, rfl, o2, b2⟩; obtain ⟨a2, c2, rfl⟩ := slice_of' o2; have O2 := Lib.hid o2; have B2 := Lib.hid b2; clear o2 b2)
      refine (F16.out _ _ _ B2.out O2.out).mono ?_
      rintro e w3 ⟨r3, rfl, q1, q2, o3, b3⟩
      have O3 := Lib.hid o3
      have B3 := Lib.hid b3
      have F19 := Lib.hid (FE.out _ _ _ q1 q2)
      clear o3 b3 q1 q2
      go_wp2_with (go_at_call 55; refine F19.out.mono ?_; rintro e w4 ⟨rfl, rfl⟩)
      go_ret2
      exact ⟨.inl ⟨l, _, hu.out, rfl, by rw [← HM.out]; exact O3.out, HS.out, by rw [← HM.out]; exact h1⟩, B3.out⟩
    · have hu : Hid (unpacks bs n = none) := Lib.hid (by rw [← HGU.out, if_neg fun h => h2 h.2])
      have hst := HNE.out h2
      have FE : Hid (∀ x u v, (convert 22 9 u).run Tryz.prog x = .ok (.string S) x → (convert 22 9 v).run Tryz.prog x = .ok (.string T) x → Calls Tryz.prog 55 #[u, v] x fun e w' => e = .returned (.bool false) ∧ w' = x) := Lib.hid fun x u v h3 h4 => equal_no x u v S T h3 h4 hst
      clear h2 hst
      go_enter Tryz.func146, Tryz.ntmps146
      go_wp2_with (go_at_call 169; refine F18.out.mono ?_; rintro e w2 ⟨r, rfl, o2, b2⟩; obtain ⟨a2, c2, rfl⟩ := slice_of' o2; have O2 := Lib.hid o2; have B2 := Lib.hid b2; clear o2 b2)
      refine (F16.out _ _ _ B2.out O2.out).mono ?_
      rintro e w3 ⟨r3, rfl, q1, q2, o3, b3⟩
      have B3 := Lib.hid b3
      have F19 := Lib.hid (FE.out _ _ _ q1 q2)
      clear o3 b3 q1 q2
      go_wp2_with (go_at_call 55; refine F19.out.mono ?_; rintro e w4 ⟨rfl, rfl⟩)
      go_ret2
      exact ⟨.inr ⟨hu.out, rfl⟩, B3.out⟩
  · have hu : Hid (unpacks bs n = none) := Lib.hid (by rw [← HGU.out, ← HM.out, if_neg fun h => h1 h.1])
    go_enter Tryz.func146, Tryz.ntmps146
    go_wp2_with (go_at_call 169; refine F18.out.mono ?_; rintro e w2 ⟨r, rfl, o2, b2⟩; obtain ⟨a2, c2, rfl⟩ := slice_of' o2; have B2 := Lib.hid b2; clear o2 b2)
    go_ret2
    exact ⟨.inr ⟨hu.out, rfl⟩, B2.out⟩
end Ux
end Go.Proofs.YtjmddomkoholoaaGreatDoor
