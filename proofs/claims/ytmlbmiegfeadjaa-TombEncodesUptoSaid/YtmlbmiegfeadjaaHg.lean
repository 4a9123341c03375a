/- The points of a column that stay. -/
import Derived.Test.YtmlbmiegfeadjaaHf
namespace Go.Proofs.Ytmlbmiegfeadjaa
open Go.RowKit
namespace Hg
open Jb Ca Cz Ga Gm Gn Gt Gw Gy Gz Hb Hc He Hf

/-- What stays of points. -/
def keep (f : Int → Bool) (P : List Pnt) : List Pnt := P.filter fun p => !f p.1
theorem keep_take (f : Int → Bool) (P : List Pnt) {k : Nat} (hk : k < P.length) : keep f (P.take (k + 1)) = keep f (P.take k) ++ (if f (P.getD k p0).1 then [] else [P.getD k p0]) := by
  unfold keep
  rw [List.take_add_one, List.getElem?_eq_getElem hk, List.getD_eq_getElem?_getD, List.getElem?_eq_getElem hk, List.filter_append]
  simp only [Option.toList_some, Option.getD_some]
  congr 1
  cases h : f (P[k].1) <;> simp [h]
theorem keep_len (f : Int → Bool) (P : List Pnt) (k : Nat) : (keep f (P.take k)).length ≤ k := by
  unfold keep
  refine Nat.le_trans (List.length_filter_le _ _) ?_
  rw [List.length_take]; omega
theorem keep_wp {f : Int → Bool} {P : List Pnt} (h : ∀ x ∈ P, Wp x) : ∀ x ∈ keep f P, Wp x := fun x hx => h x (List.mem_filter.1 hx).1
/-- Points' elements, in every world behind. -/
theorem pi_get {w : World} {v : Value} {P : List Pnt} (h : Pi w v P) : ∃ a c, v = .slice a P.length c ∧ ∀ i, i < P.length → ∃ b off, a = some ⟨b, off, none⟩ ∧ P.length ≤ c ∧ b < w.heap.size ∧ ∀ y, Below w.heap.size w y → PAt y b (off + i * 4) (P.getD i p0) := by
  rcases h.2 with ⟨a, c, rfl, rfl⟩ | ⟨b, off, c, rfl, h1, h2, h3⟩
  · exact ⟨a, c, rfl, fun i hi => by simp at hi⟩
  · exact ⟨_, c, rfl, fun i hi => ⟨b, off, rfl, h1, h2, fun y hy => (h3 i hi).of_block (hy.block b h2)⟩⟩
set_option maxRecDepth 100000
set_option maxHeartbeats 8000000
theorem left31 (w : World) (B : Nat) (gv : Value) (R : List Gc) (k : Ky) (pa : Option Addr) (pn pc : Nat) (P : List Pnt) (f : Int → Bool) (H : GR w B gv R) (hI : (tabG R).Pairwise (fun a b => klt a.1 b.1 = true)) (hG : ∀ k, Gd (lk (tabG R) k)) (hlk : ∀ k, (lk (tabG R) k).length ≤ 4000000000000) (hn : R.length ≤ 4000000000000)
    (hf : ∀ t, (inS (lk (tabG R) (k.1, ⟨#[]⟩)) t || inS (lk (tabG R) k) t) = f t) (hP : Pi w (.slice pa pn pc) P) (hp : pn * 40 ≤ 140737488355328) :
    Calls Try.prog 31 #[gv, .agg #[.string k.1, .string k.2, .slice pa pn pc]] w fun e w' => ∃ r, e = .returned r ∧ w'.ownsRow w.heap.size 50 4 r (keep f P).length (pcs (keep f P)) ∧ Below w.heap.size w w' := by
  obtain ⟨i0, hi, hz0, hz1, hz2⟩ := info_parts infoP
  obtain ⟨pa', pc', e, hpg⟩ := pi_get hP
  cases e
  have PG := Lib.hid hpg
  obtain ⟨n, hN⟩ : ∃ n, n = P.length := ⟨_, rfl⟩
  have HN := Lib.hid hN
  rw [← hN] at PG hp ⊢
  have F49a := Lib.hid (fun (y : World) (hy : Below w.heap.size w y) => find49 y B gv R (k.1, ⟨#[]⟩) (H.below hy) hI hn)
  have F49b := Lib.hid (fun (y : World) (hy : Below w.heap.size w y) => find49 y B gv R k (H.below hy) hI hn)
  have F50a := Lib.hid (fun (y : World) v t (h : Si y v (lk (tabG R) (k.1, ⟨#[]⟩))) => within50 y v _ t h (hG _) (hlk _))
  have F50b := Lib.hid (fun (y : World) v t (h : Si y v (lk (tabG R) k)) => within50 y v _ t h (hG _) (hlk _))
  have HF := Lib.hid hf
  obtain ⟨ga, gc, rfl⟩ := own_forms H.own
  generalize lk (tabG R) (k.1, ⟨#[]⟩) = S1 at F49a F50a HF
  generalize lk (tabG R) k = S2 at F49b F50b HF
  obtain ⟨k0, k1⟩ := k
  simp only at F49a F49b ⊢
  have bA := (Below.refl w.heap.size w).alloc (Nat.le_refl _) (.cells #[.string k0, .string k1, .slice pa n pc] 53)
  have ha := heap_alloc_new w (.cells #[.string k0, .string k1, .slice pa n pc] 53)
  have CB := Lib.hid (show ∀ y, Below (w.heap.size + 1) (w.alloc (.cells #[.string k0, .string k1, .slice pa n pc] 53)) y → Below w.heap.size w y ∧ y.cell? ⟨w.heap.size, 0, none⟩ = some (.string k0) ∧ y.cell? ⟨w.heap.size, 1, none⟩ = some (.string k1) ∧ y.cell? ⟨w.heap.size, 2, none⟩ = some (.slice pa n pc) from fun y hy => by
    have hb := (hy.block w.heap.size (by omega)).trans ha
    exact ⟨bA.trans (hy.mono (by omega)), cell_at hb 0, cell_at hb 1, cell_at hb 2⟩)
  have A0 := Lib.hid (F49a.out _ bA)
  have HSZ := Lib.hid (show (w.alloc (.cells #[.string k0, .string k1, .slice pa n pc] 53)).heap.size = w.heap.size + 1 by simp)
  clear H hI hG hlk hn hf hP hpg hN bA ha
  go_enter Try.func31, Try.ntmps31
  go_upto_region 1 with (fail)
  go_wp2_with fail
  refine A0.out.mono ?_
  rintro e w1 ⟨r1, rfl, s1, b1⟩
  have B1 := Lib.hid (show Below (w.heap.size + 1) (w.alloc (.cells #[.string k0, .string k1, .slice pa n pc] 53)) w1 from b1.mono (by rw [HSZ.out]; exact Nat.le_refl _))
  obtain ⟨c0, c1, c2, c3⟩ := CB.out w1 B1.out
  have A1 := Lib.hid (F49b.out w1 c0)
  have S1' := Lib.hid s1
  clear A0 F49a F49b c0 s1 b1
  go_wp2_with fail
  refine A1.out.mono ?_
  rintro e w2 ⟨r2, rfl, s2, b2⟩
  have Q1 := Lib.hid (S1'.out.below b2)
  have Q2 := Lib.hid s2
  have B2 := Lib.hid (B1.out.trans (b2.mono (by have := B1.out.size; rw [HSZ.out] at this; exact this)))
  obtain ⟨c0, c1', c2', c3'⟩ := CB.out w2 B2.out
  have C0 := Lib.hid c0
  clear c1 c2 c3 c0 A1 s2 b2 S1'
  have FA := Lib.hid (show ∀ y t, Below w2.heap.size w2 y → Calls Try.prog 50 #[r1, .int .i64 t] y fun e w' => e = .returned (.bool (inS S1 t)) ∧ Below y.heap.size y w' from fun y t hy => F50a.out y r1 t (Q1.out.below hy))
  have FB := Lib.hid (show ∀ y t, Below w2.heap.size w2 y → Calls Try.prog 50 #[r2, .int .i64 t] y fun e w' => e = .returned (.bool (inS S2 t)) ∧ Below y.heap.size y w' from fun y t hy => F50b.out y r2 t (Q2.out.below hy))
  clear F50a F50b Q1 Q2
  go_wp2_with fail
  go_loopw [7, 23] (fun o i wr => ∃ k, k ≤ n ∧ i = .int .i64 (k : Nat) ∧ Hid (wr.ownsRow w2.heap.size 50 4 o (keep f (P.take k)).length (pcs (keep f (P.take k)))) ∧ Hid (Below w2.heap.size w2 wr)) (fun _ i _ => n - (intOf i).toNat)
  case atStart => exact ⟨0, Nat.zero_le _, rfl, Lib.hid (World.ownsRow_nil _ _ _ _), Lib.hid (Below.refl _ _)⟩
  case round =>
    obtain ⟨k, hk, rfl, HO, HB⟩ := hrel
    by_cases hkn : k < n
    case neg =>
      obtain rfl : k = n := by omega
      go_wp2_with fail
      go_ret
      refine ⟨_, rfl, ?_, C0.out.trans (HB.out.mono C0.out.size)⟩
      have := HO.out
      rw [List.take_of_length_le (by rw [HN.out]; exact Nat.le_refl _)] at this
      exact Hc.own_base this C0.out.size
    obtain ⟨b, off, rfl, hnc, hb, hat⟩ := PG.out k hkn
    obtain ⟨wa, rfl⟩ : ∃ wa, wa = wr := ⟨_, rfl⟩
    obtain ⟨y0, y1, y2, y3⟩ := hat wa (C0.out.trans (HB.out.mono C0.out.size))
    have KT := Lib.hid (keep_take f P (k := k) (by rw [← HN.out]; exact hkn))
    have KL := keep_len f P k
    have hF := fun t => HF.out t
    obtain ⟨x, hx⟩ : ∃ x, x = P.getD k p0 := ⟨_, rfl⟩
    rw [← hx] at y0 y1 y2 y3 KT
    have hbz : b < wa.heap.size := Nat.lt_of_lt_of_le hb (Nat.le_trans C0.out.size HB.out.size)
    clear hat PG hx
    obtain ⟨x0, x1, x2, x3⟩ := x
    simp only at y0 y1 y2 y3
    have zb := HB.out.size
    have ha := heap_alloc_new wa (.cells #[.int .i64 x0, .int .i64 x1, .int .u64 (x2 : Nat), .string (str x3)] 50)
    have bA := (Below.refl wa.heap.size wa).alloc (Nat.le_refl _) (.cells #[.int .i64 x0, .int .i64 x1, .int .u64 (x2 : Nat), .string (str x3)] 50)
    obtain ⟨W, hW⟩ : ∃ W, W = wa.alloc (.cells #[.int .i64 x0, .int .i64 x1, .int .u64 (x2 : Nat), .string (str x3)] 50) := ⟨_, rfl⟩
    rw [← hW] at ha bA
    have hWs : W.heap.size = wa.heap.size + 1 := by rw [hW]; simp
    have BX := Lib.hid (show ∀ y, Below W.heap.size W y → Below w2.heap.size w2 y ∧ y.cell? ⟨wa.heap.size, 0, none⟩ = some (.int .i64 x0) ∧ y.cell? ⟨wa.heap.size, 1, none⟩ = some (.int .i64 x1) ∧ y.cell? ⟨wa.heap.size, 2, none⟩ = some (.int .u64 (x2 : Nat)) ∧ y.cell? ⟨wa.heap.size, 3, none⟩ = some (.string (str x3)) ∧ y.ownsRow w2.heap.size 50 4 u7 (keep f (P.take k)).length (pcs (keep f (P.take k))) from fun y hy => by
      have hb := (hy.block wa.heap.size (by omega)).trans ha
      have hy2 := bA.trans (hy.mono (by omega))
      exact ⟨HB.out.trans (hy2.mono zb), cell_at hb 0, cell_at hb 1, cell_at hb 2, cell_at hb 3, Hc.own_of_block HO.out fun j hj => hy2.block j (Gt.own_lt HO.out hj).2⟩)
    have CA := Lib.hid (FA.out W x0 (BX.out W (Below.refl _ _)).1)
    obtain ⟨_, z0, z1, z2, z3, _⟩ := BX.out W (Below.refl _ _)
    clear HO ha bA HB
    go_upto_region 7 with (fail)
    rw [← hW]
    have HWW := Lib.hid hW
    clear hW
    cases e1 : inS S1 x0 with
    | true =>
      have hfx : f x0 = true := by rw [← hF, e1]; rfl
      have KT2 := Lib.hid (show keep f (P.take (k + 1)) = keep f (P.take k) by rw [KT.out]; simp only; rw [if_pos hfx, List.append_nil])
      rw [e1] at CA
      clear hF e1 hfx KT
      go_wp2_with (go_at_call 50; refine CA.out.mono ?_; rintro e w3 ⟨rfl, b3⟩; have B3 := Lib.hid (BX.out w3 b3); clear b3)
      go_roundw
      case rel => exact ⟨k + 1, by omega, by go_num, by rw [KT2.out]; exact Lib.hid B3.out.2.2.2.2.2, Lib.hid B3.out.1⟩
      case measure => simp [intOf]; omega
    | false =>
      rw [e1] at CA
      cases e2 : inS S2 x0 with
      | true =>
        have hfx : f x0 = true := by rw [← hF, e1, e2]; rfl
        have KT2 := Lib.hid (show keep f (P.take (k + 1)) = keep f (P.take k) by rw [KT.out]; simp only; rw [if_pos hfx, List.append_nil])
        have CBB := Lib.hid (show ∀ y, Below W.heap.size W y → Calls Try.prog 50 #[r2, .int .i64 x0] y fun e w' => e = .returned (.bool true) ∧ Below y.heap.size y w' from fun y hy => by have := FB.out y x0 (BX.out y hy).1; rwa [e2] at this)
        clear hF e1 e2 hfx KT
        go_wp2_with fail
        refine CA.out.mono ?_
        rintro e w3 ⟨rfl, b3⟩
        obtain ⟨_, z0, z1, z2, z3, _⟩ := BX.out w3 b3
        have B3 := Lib.hid b3
        have CC := Lib.hid (CBB.out w3 b3)
        clear b3
        go_wp2_with fail
        refine CC.out.mono ?_
        rintro e w4 ⟨rfl, b4⟩
        have B4 := Lib.hid (BX.out w4 (B3.out.trans (b4.mono B3.out.size)))
        clear b4
        go_wp2_with fail
        go_roundw
        case rel => exact ⟨k + 1, by omega, by go_num, by rw [KT2.out]; exact Lib.hid B4.out.2.2.2.2.2, Lib.hid B4.out.1⟩
        case measure => simp [intOf]; omega
      | false =>
        have hfx : f x0 = false := by rw [← hF, e1, e2]; rfl
        have KT2 := Lib.hid (show pcs (keep f (P.take (k + 1))) = pcs (keep f (P.take k)) ++ Ca.pc (x0, x1, x2, x3) ∧ (keep f (P.take (k + 1))).length = (keep f (P.take k)).length + 1 by rw [KT.out]; simp only; rw [hfx]; exact ⟨by rw [if_neg (by decide), pcs_snoc], by rw [if_neg (by decide)]; simp⟩)
        have CBB := Lib.hid (show ∀ y, Below W.heap.size W y → Calls Try.prog 50 #[r2, .int .i64 x0] y fun e w' => e = .returned (.bool false) ∧ Below y.heap.size y w' from fun y hy => by have := FB.out y x0 (BX.out y hy).1; rwa [e2] at this)
        obtain ⟨M, hM⟩ : ∃ M, M = (keep f (P.take k)).length := ⟨_, rfl⟩
        rw [← hM] at KL KT2 BX
        clear hF e1 e2 hfx KT hM
        go_wp2_with fail
        refine CA.out.mono ?_
        rintro e w3 ⟨rfl, b3⟩
        obtain ⟨_, z0, z1, z2, z3, _⟩ := BX.out w3 b3
        have B3 := Lib.hid b3
        have CC := Lib.hid (CBB.out w3 b3)
        clear b3
        go_wp2_with fail
        refine CC.out.mono ?_
        rintro e w4 ⟨rfl, b4⟩
        obtain ⟨h4, z0', z1', z2', z3', o4⟩ := BX.out w4 (B3.out.trans (b4.mono B3.out.size))
        have B4 := Lib.hid h4
        have NEWC : ∀ j u, (Ca.pc (x0, x1, x2, x3))[j]? = some u → (w4.alloc (.cells #[.int .i64 x0, .int .i64 x1, .int .u64 (x2 : Nat), .string (str x3)] 50)).cell? ((⟨w4.heap.size, 0, none⟩ : Addr).add j) = some u := fun j u hj => by
          have hb := heap_alloc_new w4 (.cells #[.int .i64 x0, .int .i64 x1, .int .u64 (x2 : Nat), .string (str x3)] 50)
          match j, hj with
          | 0, hj => cases hj; exact cell_at hb 0
          | 1, hj => cases hj; exact cell_at hb 1
          | 2, hj => cases hj; exact cell_at hb 2
          | 3, hj => cases hj; exact cell_at hb 3
        have OWN := Lib.hid (o4.alloc (.cells #[.int .i64 x0, .int .i64 x1, .int .u64 (x2 : Nat), .string (str x3)] 50))
        have hbw : w2.heap.size ≤ (w4.alloc (.cells #[.int .i64 x0, .int .i64 x1, .int .u64 (x2 : Nat), .string (str x3)] 50)).heap.size := by have := h4.size; simp; omega
        clear b4 h4 o4 z0 z1 z2 z3 BX
        go_wp2_with (at_builtin; refine wpList_append_own _ rfl (.tmp 39) (.tmp 41) 51 rfl w2.heap.size 50 i0 _ 4 40 Try.underlying51 hi hz0 hz1 hz2 rfl (by decide) u7 M (pcs (keep f (P.take k))) (by simp [Act.eval]) OWN.out ⟨w4.heap.size, 0, none⟩ 1 1 (Ca.pc (x0, x1, x2, x3)) rfl rfl NEWC ?c2 ?c3 ?c4 ?c5 ?_)
        case c2 => exact pc_one _
        case c3 => unfold maxLen; omega
        case c4 => omega
        case c5 => exact hbw
        intro v' w6 hown6 hgrow _
        have B6 := Lib.hid ((B4.out.alloc (by have := B4.out.size; omega) (.cells #[.int .i64 x0, .int .i64 x1, .int .u64 (x2 : Nat), .string (str x3)] 50)).grown hgrow hbw (fun j ej => (Gt.own_lt OWN.out ej).1))
        have O6 := Lib.hid hown6
        clear hown6 hgrow
        go_wp2_with fail
        go_roundw
        case rel => exact ⟨k + 1, by omega, by go_num, by rw [KT2.out.1, KT2.out.2]; exact Lib.hid O6.out, Lib.hid B6.out⟩
        case measure => simp [intOf]; omega
end Hg
end Go.Proofs.Ytmlbmiegfeadjaa
