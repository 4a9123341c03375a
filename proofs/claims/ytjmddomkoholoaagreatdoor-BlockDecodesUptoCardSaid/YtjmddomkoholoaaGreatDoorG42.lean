import Derived.Test.YtjmddomkoholoaaGreatDoorG41

/- The document's read: floats. -/
namespace Go.Proofs.YtjmddomkoholoaaGreatDoor
open Go.RowKit
namespace Qr
open Cm Wr Bm Rd Cv Vs Rw Rf Ro Qo

def lenOf : Value → Nat
  | .slice _ n _ => n
  | _ => 0
/-- The bits that are left, from p on: L of them lie in block g. -/
def Bt (g L c p : Nat) (v : Value) : Prop := p ≤ L ∧ L ≤ c ∧ ((p < L ∧ v = .slice (some ⟨g, p, none⟩) (L - p) (c - p)) ∨ (p = L ∧ ∃ a z, v = .slice a 0 z))
/-- What holds ahead of each round. -/
def FQ (w2 wr : World) (bs : List Nat) (n g L c : Nat) (x v : Value) (y : Nat) (o : List Nat) (p : Nat) : Prop :=
  wr.ownsRow w2.heap.size 35 3 x (o.length + 1) (vcs (mk 1 (o ++ [y]))) ∧ GF bs n (o ++ [y]) (64 + p) ∧ (∀ z ∈ o ++ [y], z < 18446744073709551616) ∧ o.length + 1 ≤ n ∧ Bt g L c p v ∧ Below w2.heap.size w2 wr

theorem fq_next {w2 wr w6 : World} {bs o : List Nat} {n g L c p p' y y' : Nat} {x v v6 v' : Value} (h : FQ w2 wr bs n g L c x v y o p) (hk : o.length + 1 < n) (h6 : w6.ownsRow w2.heap.size 35 3 v6 (o.length + 1 + 1) (vcs (mk 1 (o ++ [y])) ++ [.int .i64 1, .int .u64 (y' : Nat), .string ⟨#[]⟩]))
    (b6 : Below w2.heap.size w2 w6) (hg : GF bs n (o ++ [y] ++ [y']) (64 + p')) (hy : y' < 18446744073709551616) (hB : Bt g L c p' v') : FQ w2 w6 bs n g L c v6 v' y' (o ++ [y]) p' := by
  refine ⟨by rw [mk_snoc 1 (o ++ [y]), vcs_snoc, vcs_one_cell, List.length_append]; exact h6, hg, fun z hz => ?_, by rw [List.length_append]; exact hk, hB, b6⟩
  rcases List.mem_append.1 hz with hz | hz
  · exact h.2.2.1 z hz
  · simp at hz; omega

set_option maxRecDepth 100000 in
set_option maxHeartbeats 4000000 in
theorem qfloats (w : World) (v : Value) (bs : List Nat) (n : Nat) (hP : Pl w v bs) (hX : ∀ b ∈ bs, b < 256) (hb : bs.length ≤ 10000000000) (hn1 : 1 ≤ n) (hn9 : n ≤ 1000) :
    Calls Tryz.prog 53 #[.int .i64 1, .int .i64 (n : Nat), v] w fun e w' => Rq w 1 n bs e w' := by
  obtain ⟨i0, hi, hz0, hz1, hz2⟩ := info_parts info35
  by_cases h8 : bs.length < 8
  · have HN := Lib.hid (fun T => nf_done ((gf_start (b := bs) hn1).2 (by omega)) T)
    obtain ⟨a, c, hv⟩ : ∃ a c, v = .slice a bs.length c := by
      rcases hP with ⟨rfl, a, c, rfl⟩ | ⟨_, b, off, c, rfl, _⟩
      · exact ⟨a, c, rfl⟩
      · exact ⟨_, _, rfl⟩
    subst hv
    obtain ⟨l, hl⟩ : ∃ l, l = bs.length := ⟨_, rfl⟩
    rw [← hl] at h8 ⊢
    clear hP hX hb hl
    go_enter Tryz.func53, Tryz.ntmps53
    go_wp2_with fail
    go_ret
    exact Rq.none HN.out (Below.refl _ _)
  rcases hP with ⟨rfl, _⟩ | ⟨_, b, off, c, rfl, hc, hcell⟩
  · simp at h8
  have hbw : b < w.heap.size := cell_lt (hcell 0 (by omega))
  have hgf := (gf_start (b := bs) hn1).1 (by omega)
  have hw0 := num_word hX 0
  rw [Nat.mul_zero] at hw0
  rw [hw0] at hgf
  have hy64 : Mt.num8 bs 0 < 18446744073709551616 := num8_lt hX 0
  have F50 := Lib.hid (fun (x : World) (hx : Below w.heap.size w x) => (show Calls Tryz.prog 20 #[.slice (some ⟨b, off, none⟩) bs.length c, .int .i64 0, .int .i64 8] x fun e w' => e = .returned (.int .u64 (Mt.num8 bs 0 : Nat)) ∧ w' = x from
    Ry.readat17 x b off bs.length c bs 0 hX (by omega) (by omega) (fun i hi => (hx.cell (p := ⟨b, off + i, none⟩) hbw).trans (hcell i hi))))
  have hdl : (bs.drop 8).length = bs.length - 8 := by simp
  have hdX : ∀ x ∈ bs.drop 8, x < 256 := fun x hx => hX x (List.mem_of_mem_drop hx)
  have F51 := Lib.hid (fun (x : World) (hx : Below w.heap.size w x) => (show (¬ c = 8 → Calls Tryz.prog 98 #[.slice (some ⟨b, off + 8, none⟩) (bs.length - 8) (c - 8)] x fun e w' => ∃ v, e = .returned v ∧ w'.ownsRow x.heap.size 5 1 v (8 * (bs.length - 8)) (u8s (bl (bb (bs.drop 8)) (8 * (bs.length - 8)))) ∧ Below x.heap.size x w') ∧
      (c = 8 → ∀ a z, Calls Tryz.prog 98 #[.slice a 0 z] x fun e w' => ∃ v, e = .returned v ∧ w'.ownsRow x.heap.size 5 1 v (8 * (bs.length - 8)) (u8s (bl (bb (bs.drop 8)) (8 * (bs.length - 8)))) ∧ Below x.heap.size x w') from ⟨fun _ => by
    have h := of17w x _ (bs.drop 8) ((by_drop (w := w) (k := 8) rfl hc (by omega) hcell).2.below hx) hdX (by omega)
    rwa [hdl] at h, fun hc8 a z => by
    have h0 : bs.drop 8 = [] := List.length_eq_zero_iff.1 (by omega)
    have h := of17w x (.slice a 0 z) (bs.drop 8) (.inl ⟨h0, a, z, rfl⟩) hdX (by omega)
    rwa [hdl] at h⟩))
  obtain ⟨y0, hy0⟩ : ∃ y0, y0 = Mt.num8 bs 0 := ⟨_, rfl⟩
  rw [← hy0] at hgf hy64 F50
  obtain ⟨L, hL⟩ : ∃ L, L = 8 * (bs.length - 8) := ⟨_, rfl⟩
  rw [← hL] at F51
  have HG := Lib.hid hgf
  have HL := Lib.hid (show L ≤ 80000000000 ∧ 8 * bs.length = 64 + L from by omega)
  obtain ⟨l, hl⟩ : ∃ l, l = bs.length := ⟨_, rfl⟩
  rw [← hl] at h8 hc hb F50 F51 ⊢
  have hL9 : L ≤ 80000000000 := HL.out.1
  have HLZ := Lib.hid (show l ≤ 8 → L = 0 from by omega)
  clear hcell hX hgf hw0 hy0 hL hl hdl hdX
  by_cases hc8 : c = 8
  case' pos =>
    have F := Lib.hid (fun (x : World) (hx : Below w.heap.size w x) => (F51.out x hx).2 hc8)
    have hL0 : L = 0 := HLZ.out (by omega)
    clear F51
    subst hc8
    go_enter Tryz.func53, Tryz.ntmps53
    go_wp2_with fail
    refine (F50.out _ (Below.refl _ _)).mono ?_
    rintro e w1 ⟨rfl, h1⟩
    rw [h1]
    clear h1 w1
    go_wp2_with fail
    refine (F.out _ (Below.refl _ _) _ _).mono ?_
    rintro e w2 ⟨v2, rfl, o2, b2⟩
    have O2 := Lib.hid o2
    have B2 := Lib.hid b2
    have hf := Go.Joins.ownsRow_forms o2
    clear o2 b2 F F50 h8 hc hb
  case' neg =>
    have F := Lib.hid (fun (x : World) (hx : Below w.heap.size w x) => (F51.out x hx).1 hc8)
    clear F51
    go_enter Tryz.func53, Tryz.ntmps53
    go_wp2_with fail
    refine (F50.out _ (Below.refl _ _)).mono ?_
    rintro e w1 ⟨rfl, h1⟩
    rw [h1]
    clear h1 w1
    go_wp2_with fail
    refine (F.out _ (Below.refl _ _)).mono ?_
    rintro e w2 ⟨v2, rfl, o2, b2⟩
    have O2 := Lib.hid o2
    have B2 := Lib.hid b2
    have hf := Go.Joins.ownsRow_forms o2
    clear o2 b2 F F50 h8 hc hb
  all_goals
    obtain ⟨g, cb, hB0⟩ : ∃ g cb, Bt g L cb 0 v2 ∧ (0 < L → v2 = .slice (some ⟨g, 0, none⟩) L cb) := by
      rcases O2.out.2 with ⟨rfl, h0⟩ | ⟨g, cb, cur, rfl, _, _, hnc, _⟩
      · exact ⟨0, L, ⟨Nat.zero_le _, Nat.le_refl _, .inr ⟨h0.symm, none, 0, rfl⟩⟩, fun h => by omega⟩
      · refine ⟨g, cb, ⟨Nat.zero_le _, hnc, ?_⟩, fun _ => rfl⟩
        by_cases h0 : L = 0
        · exact .inr ⟨h0.symm, _, _, by rw [h0]⟩
        · exact .inl ⟨by omega, rfl⟩
    have HB0 := Lib.hid hB0
    have HC := Lib.hid (fun (x : World) (hx : Below w2.heap.size w2 x) (i : Nat) (hi : i < L) => (show x.cell? ⟨g, i, none⟩ = some (.int .u8 (b2n (bo bs (64 + i)) : Nat)) from by
      have h1 := hB0.2 (by omega)
      subst h1
      have h2 := bits_cells O2.out i hi
      rw [bb_drop] at h2
      exact (hx.cell (p := ⟨g, i, none⟩) (O2.out.lt g rfl).2).trans h2))
    clear hB0 hf
    go_wp2_with (at_builtin; refine wpList_append_own _ rfl _ _ 57 rfl w2.heap.size 35 i0 (.agg #[.int .i64 0, .int .u64 0, .string ⟨#[]⟩]) 3 32 Tryz.underlying57 hi hz0 hz1 hz2 rfl (by decide) _ 0 [] rfl (World.ownsRow_nil _ _ _ _) ⟨w2.heap.size, 0, none⟩ 1 1 [.int .i64 1, .int .u64 (y0 : Nat), .string ⟨#[]⟩] rfl rfl (cells3_new _ _ _ _ _) ?c2 ?c3 ?c4 ?c5 ?_)
    case c2 => intro u hu; simp at hu; rcases hu with rfl | rfl | rfl <;> rfl
    case c3 => unfold maxLen; omega
    case c4 => omega
    case c5 => simp
    intro v3 w3 h3 g3 _
    have H0 := Lib.hid (show FQ w2 w3 bs n g L cb v3 v2 y0 [] 0 from ⟨by
      have e : vcs (mk 1 ([] ++ [y0])) = [] ++ [.int .i64 1, .int .u64 (y0 : Nat), .string ⟨#[]⟩] := by simp [vcs, mk, vcs_one_cell]
      rw [e]
      exact h3, HG.out, fun z hz => by simp at hz; omega, hn1, HB0.out.1, ((Below.refl _ _).alloc (Nat.le_refl _) _).grown g3 (by simp) (fun r hr => by cases hr)⟩)
    clear h3 g3
    go_wp2_with fail
    go_loopw [7, 8, 9, 10, 11] (fun x l v _ _ wr => ∃ y o p, l = .int .u64 (y : Nat) ∧ FQ w2 wr bs n g L cb x v y o p) (fun x _ _ _ _ _ => n - lenOf x)
    case atStart => exact ⟨y0, [], 0, rfl, H0.out⟩
    case round =>
      obtain ⟨y, o, p, rfl, hR⟩ := hrel
      have HR := Lib.hid hR
      obtain ⟨a1, a2, a3, a4, a5, a6⟩ := hR
      obtain ⟨k, hk⟩ : ∃ k, k = o.length := ⟨_, rfl⟩
      rw [← hk] at a1 a4
      have HK := Lib.hid hk
      obtain ⟨gx, cx, hu7⟩ := Go.Joins.ownsRow_form a1 (by omega)
      subst hu7
      have hbs := a6.size
      have HO := Lib.hid a1
      have HBL := Lib.hid a6
      have HEND := Lib.hid (fun (h : k + 1 = n ∨ p = L) => (show Rq w 1 n bs (.returned (.slice (some ⟨gx, 0, none⟩) (k + 1) cx)) wr from by
        have hml : (mk 1 (o ++ [y])).length = k + 1 := by rw [mk_len]; simp [hk]
        refine ⟨_, mk 1 (o ++ [y]), rfl, by rw [hml]; exact Go.Joins.ownsRow_le a1 B2.out.size, ⟨by rw [hml]; exact a4, mk_wv (.inl rfl) a3, fun T hT => ?_⟩, B2.out.trans (a6.mono B2.out.size)⟩
        by_cases hn' : k + 1 = n
        · exact gf_done a2 (by simp; omega) T hT
        · rcases h with h | h
          · exact absurd h hn'
          · exact absurd hT (nf_done (gf_end a2 (by omega) (by have := HL.out.2; omega)) T)))
      clear a1 a2 a3 a6 hk
      by_cases hkn : k + 1 = n
      · have HE0 := HEND.out (.inl hkn)
        rw [hkn] at HE0
        have HE := Lib.hid HE0
        clear HE0
        have hki : ¬ ((k : Int) + 1 < (n : Int)) := by omega
        clear HEND
        obtain ⟨b1, b2, ⟨hpL, rfl⟩ | ⟨hpL, a, z, rfl⟩⟩ := a5
        · go_wp2_with fail
          go_ret
          exact HE.out
        · go_wp2_with fail
          go_ret
          exact HE.out
      have hki : (k : Int) + 1 < (n : Int) := by omega
      obtain ⟨b1, b2, ⟨hpL, rfl⟩ | ⟨hpL, a, z, rfl⟩⟩ := a5
      case inr =>
        have HE := Lib.hid (HEND.out (.inr hpL))
        clear HEND
        go_wp2_with fail
        go_ret
        exact HE.out
      clear HEND
      first | (exfalso; omega) | skip
      all_goals
        have e1 := HC.out wr HBL.out p hpL
        have hq := b2n_le (bo bs (64 + p))
        obtain ⟨Q, hQ⟩ : ∃ Q, Q = b2n (bo bs (64 + p)) := ⟨_, rfl⟩
        rw [← hQ] at e1 hq
        have HQ := Lib.hid hQ
        clear hQ
        by_cases hQ0 : Q = 0
        · subst hQ0
          have hnum : num (bo bs) (64 + p) 1 = 0 := by rw [num_one]; exact HQ.out.symm
          have HGZ := Lib.hid (gf_zero HR.out.2.1 (by have := HK.out; omega) hnum)
          have hy64' : y < 18446744073709551616 := HR.out.2.2.1 y (by simp)
          have HNX := Lib.hid (fun (w6 : World) (v6 v' : Value) (h6 : w6.ownsRow w2.heap.size 35 3 v6 (k + 1 + 1) (vcs (mk 1 (o ++ [y])) ++ [.int .i64 1, .int .u64 (y : Nat), .string ⟨#[]⟩])) (b6 : Below w2.heap.size w2 w6) (hB : Bt g L cb (p + 1) v') => fq_next HR.out (by have := HK.out; omega) (by rw [← HK.out]; exact h6) b6 HGZ.out hy64' hB)
          have H1 := Lib.hid hkn
          by_cases hcp : cb - p = 1
          · have hLp : L - p = 1 := by omega
            rw [hLp, hcp]
            go_wp2_with (at_builtin; refine wpList_append_own _ rfl _ _ 57 rfl w2.heap.size 35 i0 (.agg #[.int .i64 0, .int .u64 0, .string ⟨#[]⟩]) 3 32 Tryz.underlying57 hi hz0 hz1 hz2 rfl (by decide) _ _ _ rfl (HO.out.alloc _) ⟨wr.heap.size, 0, none⟩ 1 1 [.int .i64 1, .int .u64 (y : Nat), .string ⟨#[]⟩] rfl rfl (cells3_new _ _ _ _ _) ?c2 ?c3 ?c4 ?c5 ?_)
            case c2 => intro u hu; simp at hu; rcases hu with rfl | rfl | rfl <;> rfl
            case c3 => unfold maxLen; omega
            case c4 => omega
            case c5 => simp; omega
            intro v6 w6 h6 g6 _
            have B6 := Lib.hid (Below.grown (HBL.out.alloc hbs _) g6 (by simp; omega) (fun r hr => (HO.out.lt r hr).1))
            have N6 := Lib.hid (fun v' hB => HNX.out w6 v6 v' h6 B6.out hB)
            obtain ⟨g6', c6', hv6⟩ := Go.Joins.ownsRow_form h6 (by omega)
            subst hv6
            clear h6 g6
            go_wp2_with fail
            exact ⟨⟨y, o ++ [y], p + 1, rfl, N6.out _ ⟨by omega, b2, .inr ⟨by omega, _, _, rfl⟩⟩⟩, by simp [lenOf]; omega⟩
          · go_wp2_with (at_builtin; refine wpList_append_own _ rfl _ _ 57 rfl w2.heap.size 35 i0 (.agg #[.int .i64 0, .int .u64 0, .string ⟨#[]⟩]) 3 32 Tryz.underlying57 hi hz0 hz1 hz2 rfl (by decide) _ _ _ rfl (HO.out.alloc _) ⟨wr.heap.size, 0, none⟩ 1 1 [.int .i64 1, .int .u64 (y : Nat), .string ⟨#[]⟩] rfl rfl (cells3_new _ _ _ _ _) ?c2 ?c3 ?c4 ?c5 ?_)
            case c2 => intro u hu; simp at hu; rcases hu with rfl | rfl | rfl <;> rfl
            case c3 => unfold maxLen; omega
            case c4 => omega
            case c5 => simp; omega
            intro v6 w6 h6 g6 _
            have B6 := Lib.hid (Below.grown (HBL.out.alloc hbs _) g6 (by simp; omega) (fun r hr => (HO.out.lt r hr).1))
            have N6 := Lib.hid (fun v' hB => HNX.out w6 v6 v' h6 B6.out hB)
            obtain ⟨g6', c6', hv6⟩ := Go.Joins.ownsRow_form h6 (by omega)
            subst hv6
            clear h6 g6
            go_wp2_with fail
            refine ⟨⟨y, o ++ [y], p + 1, rfl, N6.out _ ⟨by omega, b2, ?_⟩⟩, by simp [lenOf]; omega⟩
            by_cases hpe : p + 1 = L
            · exact .inr ⟨hpe, _, _, by rw [show L - p - 1 = 0 from by omega]⟩
            · exact .inl ⟨by omega, by rw [show L - p - 1 = L - (p + 1) from by omega, show cb - p - 1 = cb - (p + 1) from by omega]⟩
        · obtain rfl : Q = 1 := by omega
          have hnum : num (bo bs) (64 + p) 1 ≠ 0 := by rw [num_one, ← HQ.out]; decide
          have hko : o.length + 1 < n := by have := HK.out; omega
          by_cases h13 : L - p < 13
          · have HN := Lib.hid (fun T => nf_done (gf_13 HR.out.2.1 hko hnum (by have := HL.out.2; omega)) T)
            have hBB := Lib.hid (B2.out.trans (HBL.out.mono B2.out.size))
            go_wp2_with fail
            go_ret
            exact Rq.none HN.out hBB.out
          have hG1 := Lib.hid (fun (x : World) (hx : Below w2.heap.size w2 x) (q l c m : Nat) (hq : q + l = L) (hm : m ≤ l) (h64 : m ≤ 64) => (show Calls Tryz.prog 99 #[.slice (some ⟨g, q, none⟩) l c, .int .i64 (m : Nat)] x fun e w' => e = .returned (.int .u64 (num (bo bs) (64 + q) m : Nat)) ∧ w' = x from by
            have h := rget18 x g q l c m (fun i => bo bs (64 + i)) (fun i hi => HC.out x hx (q + i) (by omega)) hm h64
            have e : num (fun i => bo bs (64 + i)) q m = num (bo bs) (64 + q) m := num_congr fun i _ => by rw [Nat.add_assoc]
            rwa [e] at h))
          have H6 := Lib.hid (fun (x : World) (hx : Below w2.heap.size w2 x) (q l c : Nat) (hq : q + l = L) (hm : 6 ≤ l) => (show Calls Tryz.prog 99 #[.slice (some ⟨g, q, none⟩) l c, .int .i64 6] x fun e w' => e = .returned (.int .u64 (num (bo bs) (64 + q) 6 : Nat)) ∧ w' = x from hG1.out x hx q l c 6 hq hm (by decide)))
          have hz6 := num_lt (bo bs) (64 + (p + 1)) 6
          have hs6 := num_lt (bo bs) (64 + (p + 7)) 6
          obtain ⟨Z, hZe⟩ : ∃ Z, Z = num (bo bs) (64 + (p + 1)) 6 := ⟨_, rfl⟩
          obtain ⟨S, hSe⟩ : ∃ S, S = num (bo bs) (64 + (p + 7)) 6 := ⟨_, rfl⟩
          rw [← hZe] at hz6
          rw [← hSe] at hs6
          have HZS := Lib.hid (And.intro hZe hSe)
          have hZe' := hZe.symm
          have hSe' := hSe.symm
          have hcp1 : ¬ cb - p = 1 := by omega
          have hcp7 : ¬ cb - p = 7 := by omega
          have HNUM := Lib.hid hnum
          have HKO := Lib.hid hko
          clear hZe hSe hnum
          have hwz : IntKind.i64.wrap (Z : Int) = (Z : Int) := by rw [IntKind.wrap_i64]; omega
          have hws : IntKind.i64.wrap (S : Int) = (S : Int) := by rw [IntKind.wrap_i64]; omega
          obtain ⟨s, hs⟩ : ∃ s, s = S + 1 := ⟨_, rfl⟩
          have hws1 : IntKind.i64.wrap ((S : Int) + 1) = (s : Int) := by rw [IntKind.wrap_i64]; omega
          have HS := Lib.hid hs
          have hs1 : 1 ≤ s := by omega
          have hs64 : s ≤ 64 := by omega
          have hZ64 : Z < 64 := hz6
          have HFEW := Lib.hid (fun (h : L - p - 13 < s) T => nf_done (gf_few HR.out.2.1 HKO.out HNUM.out (by rw [Nat.add_assoc 64 p 7, ← HZS.out.2]; have := HL.out.2; have := HS.out; omega)) T)
          have HWID := Lib.hid (fun (h : 64 < Z + s) T => nf_done (gf_wide HR.out.2.1 HKO.out HNUM.out (by rw [Nat.add_assoc 64 p 1, Nat.add_assoc 64 p 7, ← HZS.out.1, ← HZS.out.2]; have := HS.out; omega)) T)
          have HBB := Lib.hid (fun (x : World) (hx : Below w2.heap.size w2 x) => B2.out.trans (hx.mono B2.out.size))
          have hzs : IntKind.i64.wrap ((Z : Int) + (s : Int)) = ((Z + s : Nat) : Int) := by rw [IntKind.wrap_i64]; omega
          clear hs hs6 hz6
          have BW := Lib.hid (show Below w2.heap.size w2 wr.drew from HBL.out.drew)
          go_wp2_with fail
          have hp1 : (1 : Int) ≤ ((L - p : Nat) : Int) := by omega
          have hp7 : (7 : Int) ≤ ((L - p : Nat) : Int) := by omega
          have hp1' : 1 ≤ L - p := by omega
          have hp7' : 7 ≤ L - p := by omega
          clear hki hko h13
          go_region_held (fun _ : World => True) (trivial)
            (first | (go_at_call 99; refine (H6.out _ BW.out _ _ _ (by omega) (by omega)).mono ?_; rintro e w5 ⟨rfl, rfl⟩; dsimp only))
          clear hp1 hp7 hp1' hp7' hcp1 hcp7 hZe' hSe' hwz hws hws1
          by_cases hcp : cb - p = 13
          · have hLp : L - p = 13 := by omega
            have HE := Lib.hid (HFEW.out (by omega))
            have hsp : (0 : Int) < (s : Int) := by omega
            rw [hLp, hcp]
            go_wp2_with fail
            go_ret
            exact Rq.none HE.out (HBB.out _ BW.out)
          by_cases hfew : L - p - 13 < s
          · have HE := Lib.hid (HFEW.out hfew)
            have hlt : ((L - p - 13 : Nat) : Int) < (s : Int) := by omega
            go_wp2_with fail
            go_ret
            exact Rq.none HE.out (HBB.out _ BW.out)
          have hnlt : ¬ ((L - p - 13 : Nat) : Int) < (s : Int) := by omega
          by_cases hwid : 64 < Z + s
          · have HE := Lib.hid (HWID.out hwid)
            have hlt : (64 : Int) < (Z : Int) + (s : Int) := by omega
            go_wp2_with fail
            go_ret
            exact Rq.none HE.out (HBB.out _ BW.out)
          go_wp2_with fail
          refine (hG1.out _ BW.out (p + 13) (L - p - 13) (cb - p - 13) s (by omega) (by omega) (by omega)).mono ?_
          rintro e w5 ⟨rfl, rfl⟩
          have hGz := num_lt (bo bs) (64 + (p + 13)) s
          have HGS := Lib.hid (gf_some HR.out.2.1 HKO.out HNUM.out Z s (by rw [Nat.add_assoc, ← HZS.out.1]) (by rw [Nat.add_assoc, ← HZS.out.2, HS.out]))
          rw [Nat.add_assoc 64 p 13, Nat.add_assoc 64 (p + 13) s] at HGS
          obtain ⟨G, hG⟩ : ∃ G, G = num (bo bs) (64 + (p + 13)) s := ⟨_, rfl⟩
          rw [← hG] at hGz HGS ⊢
          obtain ⟨E, hE⟩ : ∃ E, E = 64 - Z := ⟨_, rfl⟩
          rw [← hE] at HGS
          obtain ⟨D, hD⟩ : ∃ D, D = E - s := ⟨_, rfl⟩
          rw [← hD] at HGS
          have hPz : G * 2 ^ D < 18446744073709551616 := by
            have h1 : G * 2 ^ D < 2 ^ s * 2 ^ D := Nat.mul_lt_mul_of_pos_right hGz (Nat.pos_of_ne_zero (by simp))
            have h2 : 2 ^ s * 2 ^ D ≤ 2 ^ 64 := by
              rw [← Nat.pow_add]
              exact Nat.pow_le_pow_right (by decide) (by omega)
            exact Nat.lt_of_lt_of_le h1 h2
          have hd1 : IntKind.i64.wrap (64 - (Z : Int)) = (E : Int) := by rw [IntKind.wrap_i64]; omega
          have hd2 : IntKind.i64.wrap ((E : Int) - (s : Int)) = (D : Int) := by rw [IntKind.wrap_i64]; omega
          have hd3 : IntKind.u64.wrap (D : Int) = (D : Int) := by rw [IntKind.wrap_u64]; omega
          have hmin : min D 64 = D := by omega
          obtain ⟨P, hP'⟩ : ∃ P, P = G * 2 ^ D := ⟨_, rfl⟩
          have hshl : IntKind.u64.wrap ((G : Int) * 2 ^ D) = (P : Int) := by
            have e : ((G : Int) * 2 ^ D) = ((G * 2 ^ D : Nat) : Int) := by simp
            rw [e, ← hP', IntKind.wrap_u64]
            omega
          rw [← hP'] at HGS hPz
          have hyz := HR.out.2.2.1 y (by simp)
          have hx := Fl.xor_u64 y P hyz hPz
          have hV : y ^^^ P < 18446744073709551616 := Nat.xor_lt_two_pow (n := 64) hyz hPz
          obtain ⟨V, hVe⟩ : ∃ V, V = y ^^^ P := ⟨_, rfl⟩
          rw [← hVe] at HGS hx hV
          have HVZ := Lib.hid hV
          clear hG hE hD hP' hVe hGz hPz hyz hV
          have HO2 := Lib.hid HO.out.drew
          obtain ⟨wd, hwd⟩ : ∃ wd, wd = wr.drew := ⟨_, rfl⟩
          rw [← hwd] at HO2 BW ⊢
          have hbd := BW.out.size
          have HNX := Lib.hid (fun (w6 : World) (v6 v' : Value) (h6 : w6.ownsRow w2.heap.size 35 3 v6 (k + 1 + 1) (vcs (mk 1 (o ++ [y])) ++ [.int .i64 1, .int .u64 (V : Nat), .string ⟨#[]⟩])) (b6 : Below w2.heap.size w2 w6) (hB : Bt g L cb (p + 13 + s) v') => fq_next HR.out HKO.out (by rw [← HK.out]; exact h6) b6 HGS.out HVZ.out hB)
          have H1 := Lib.hid hkn
          clear hwd hkn hbs
          by_cases hcs : cb - p - 13 = s
          · have hLp : L - p - 13 = s := by omega
            have HL2 := Lib.hid hLp
            subst hcs
            rw [hLp]
            go_wp2_with (at_builtin; refine wpList_append_own _ rfl _ _ 57 rfl w2.heap.size 35 i0 (.agg #[.int .i64 0, .int .u64 0, .string ⟨#[]⟩]) 3 32 Tryz.underlying57 hi hz0 hz1 hz2 rfl (by decide) _ _ _ rfl (HO2.out.alloc _) ⟨wd.heap.size, 0, none⟩ 1 1 [.int .i64 1, .int .u64 (V : Nat), .string ⟨#[]⟩] rfl rfl (cells3_new _ _ _ _ _) ?c2 ?c3 ?c4 ?c5 ?_)
            case c2 => intro u hu; simp at hu; rcases hu with rfl | rfl | rfl <;> rfl
            case c3 => unfold maxLen; omega
            case c4 => omega
            case c5 => simp; omega
            intro v6 w6 h6 g6 _
            have B6 := Lib.hid (Below.grown (BW.out.alloc hbd _) g6 (by simp; omega) (fun r hr => (HO2.out.lt r hr).1))
            have N6 := Lib.hid (fun v' hB => HNX.out w6 v6 v' h6 B6.out hB)
            obtain ⟨g6', c6', hv6⟩ := Go.Joins.ownsRow_form h6 (by omega)
            subst hv6
            clear h6 g6
            go_wp2_with fail
            exact ⟨⟨V, o ++ [y], _, rfl, N6.out _ ⟨by omega, b2, .inr ⟨by omega, _, _, rfl⟩⟩⟩, by have := HKO.out; have := HK.out; simp [lenOf]; omega⟩
          · have hls : (s : Int) ≤ ((L - p - 13 : Nat) : Int) := by omega
            go_wp2_with (at_builtin; refine wpList_append_own _ rfl _ _ 57 rfl w2.heap.size 35 i0 (.agg #[.int .i64 0, .int .u64 0, .string ⟨#[]⟩]) 3 32 Tryz.underlying57 hi hz0 hz1 hz2 rfl (by decide) _ _ _ rfl (HO2.out.alloc _) ⟨wd.heap.size, 0, none⟩ 1 1 [.int .i64 1, .int .u64 (V : Nat), .string ⟨#[]⟩] rfl rfl (cells3_new _ _ _ _ _) ?c2 ?c3 ?c4 ?c5 ?_)
            case c2 => intro u hu; simp at hu; rcases hu with rfl | rfl | rfl <;> rfl
            case c3 => unfold maxLen; omega
            case c4 => omega
            case c5 => simp; omega
            intro v6 w6 h6 g6 _
            have B6 := Lib.hid (Below.grown (BW.out.alloc hbd _) g6 (by simp; omega) (fun r hr => (HO2.out.lt r hr).1))
            have N6 := Lib.hid (fun v' hB => HNX.out w6 v6 v' h6 B6.out hB)
            obtain ⟨g6', c6', hv6⟩ := Go.Joins.ownsRow_form h6 (by omega)
            subst hv6
            clear h6 g6
            go_wp2_with fail
            refine ⟨⟨V, o ++ [y], _, rfl, N6.out _ ⟨by omega, b2, ?_⟩⟩, by have := HKO.out; have := HK.out; simp [lenOf]; omega⟩
            by_cases hpe : p + 13 + s = L
            · exact .inr ⟨hpe, _, _, by rw [show L - p - 13 - s = 0 from by omega]⟩
            · exact .inl ⟨by omega, by rw [show L - p - 13 - s = L - (p + 13 + s) from by omega, show cb - p - 13 - s = cb - (p + 13 + s) from by omega]⟩
end Qr
end Go.Proofs.YtjmddomkoholoaaGreatDoor
