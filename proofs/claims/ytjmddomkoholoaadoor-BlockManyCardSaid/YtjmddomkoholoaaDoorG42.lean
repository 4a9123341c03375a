import Derived.Test.YtjmddomkoholoaaDoorG41

/- The law BlockMany. -/
namespace Go.Proofs.YtjmddomkoholoaaDoor
open Go.RowKit
namespace Km
open Cm Wr Bm Pk Zs Vs Cv Kd Kp Ke Kw Ku Ky Kz Kb

/-- The first k points of the row. -/
def Pm (F : Int) (K k : Nat) : List Pnt := Cm.tab (fun i => (F + (i : Int), ((K : Int), i % 2, []))) k
theorem Pm_len (F : Int) (K k : Nat) : (Pm F K k).length = k := Cm.tab_len _ _
theorem Pm_succ (F : Int) (K k : Nat) : Pm F K (k + 1) = Pm F K k ++ [(F + (k : Int), ((K : Int), k % 2, []))] := Cm.tab_succ _ _
theorem Pm_mem {F : Int} {K k : Nat} {p : Pnt} (h : p ∈ Pm F K k) : ∃ i, i < k ∧ p = (F + (i : Int), ((K : Int), i % 2, [])) := Cm.tab_mem h
theorem Pm_wp {F : Int} {K k : Nat} (hF : -2305843009213693952 ≤ F ∧ F ≤ 2305843009213693951) (hK : K ≤ 3) (hk : k ≤ 1003) : ∀ p ∈ Pm F K k, Wp p := fun p hp => by
  obtain ⟨i, hi, rfl⟩ := Pm_mem hp
  exact ⟨by simp only; omega, by simp only; omega, by simp only; omega, by simp only; omega, fun y hy => by cases hy⟩
theorem Pm_get {F : Int} {K k i : Nat} (h : i < k) : (Pm F K k).getD i p0 = (F + (i : Int), ((K : Int), i % 2, [])) := by
  simp [Pm, Cm.tab, List.getD_eq_getElem?_getD, h]
theorem Pm_ok {F : Int} {K k : Nat} (h1 : 1 ≤ k) (h9 : k ≤ 1000) : Tm.Ok (tms (Pm F K k)) := by
  refine ⟨by rw [tms_len, Pm_len]; exact h1, by rw [tms_len, Pm_len]; exact h9, fun i hi => ?_⟩
  rw [tms_len, Pm_len] at hi
  rw [tms_get, tms_get, Pm_get (by omega), Pm_get (by omega)]
  simp only
  omega
theorem Pm_bad {F : Int} {K k : Nat} (h : k < 1 ∨ 1000 < k) : ¬ Tm.Ok (tms (Pm F K k)) := fun h' => by
  have h1 := h'.1
  have h2 := h'.2.1
  rw [tms_len, Pm_len] at h1 h2
  omega
theorem Pm_enc {F : Int} {K k : Nat} (hK : K = 1 ∨ K = 2 ∨ K = 3) (h1 : 1 ≤ k) (h9 : k ≤ 1000) : (enc (vls (Pm F K k))).1 = 0 := by
  have hl : (vls (Pm F K k)).length = k := by rw [vls_len, Pm_len]
  have h0 : ((vls (Pm F K k)).getD 0 z0).1 = (K : Int) := by rw [vls_get, Pm_get (by omega)]
  have hm : ∀ v ∈ vls (Pm F K k), ∃ i, v = ((K : Int), i % 2, []) := fun v hv => by
    simp only [vls, List.mem_map] at hv
    obtain ⟨p, hp, rfl⟩ := hv
    obtain ⟨i, _, rfl⟩ := Pm_mem hp
    exact ⟨i, rfl⟩
  rw [En.enc_kind (by omega) (by omega) ?_ ?_, h0]
  · rcases hK with rfl | rfl | rfl <;> rfl
  · rw [List.all_eq_true]
    intro v hv
    obtain ⟨i, rfl⟩ := hm v hv
    have : i % 2 = 0 ∨ i % 2 = 1 := by omega
    rcases hK with rfl | rfl | rfl <;> rcases this with h | h <;> rw [h] <;> decide
  · unfold one
    rw [List.all_eq_true]
    intro v hv
    obtain ⟨i, rfl⟩ := hm v hv
    rw [h0]
    simp

theorem tdiv4 {f : Int} (f1 : -9223372036854775808 ≤ f) (f2 : f ≤ 9223372036854775807) : -2305843009213693952 ≤ f.tdiv 4 ∧ f.tdiv 4 ≤ 2305843009213693951 := by
  by_cases h : 0 ≤ f
  · rw [Int.tdiv_eq_ediv_of_nonneg h]; omega
  · obtain ⟨g, rfl⟩ : ∃ g, f = -g := ⟨-f, by omega⟩
    rw [Int.neg_tdiv, Int.tdiv_eq_ediv_of_nonneg (by omega)]; omega

set_option maxRecDepth 100000 in
set_option maxHeartbeats 2000000 in
theorem many8 (w : World) (n y : Nat) (f : Int) (hn : n < 65536) (hy : y < 256) (f1 : -9223372036854775808 ≤ f) (f2 : f ≤ 9223372036854775807) (hT : Tab w) (hD : Dt w) :
    Calls Tryd.prog 6 #[.int .u16 (n : Nat), .int .i64 f, .int .u8 (y : Nat)] w fun e w' => e = .returned (.bool true) ∧ Below w.heap.size w w' := by
  obtain ⟨i0, hi, hz0, hz1, hz2⟩ := info_parts infoP
  have FA := Lib.hid (awake14 w hT hD)
  have HTD := Lib.hid (And.intro hT hD)
  obtain ⟨C, hC⟩ : ∃ C, C = n % 1003 := ⟨_, rfl⟩
  have hCi : (n : Int) % 1003 = (C : Int) := by omega
  have hC9 : C ≤ 1002 := by omega
  obtain ⟨K, hK⟩ : ∃ K, K = y % 3 + 1 := ⟨_, rfl⟩
  have hKi : 1 + (y : Int) % 3 = (K : Int) := by omega
  have hK3 : K = 1 ∨ K = 2 ∨ K = 3 := by omega
  have hF4 : -2305843009213693952 ≤ f.tdiv 4 ∧ f.tdiv 4 ≤ 2305843009213693951 := tdiv4 f1 f2
  clear hT hD hC hK
  go_enter Tryd.func6, Tryd.ntmps6
  go_wp2_with (go_at_call 7; refine FA.out.mono ?_; rintro e w1 ⟨rfl, b1⟩; have B1 := Lib.hid b1; clear b1)
  simp only [hCi]
  clear hCi
  go_loopw [8, 9, 10, 21] (fun o _ _ i wr => ∃ k, k ≤ C ∧ i = .int .i64 (k : Nat) ∧ wr.ownsRow w.heap.size 42 4 o k (pcs (Pm (f.tdiv 4) K k)) ∧ Below w.heap.size w wr) (fun _ _ _ i _ => C - (intOf i).toNat)
  case atStart => exact ⟨0, Nat.zero_le _, rfl, World.ownsRow_nil _ _ _ _, B1.out⟩
  case round =>
    obtain ⟨k, hk, rfl, ho, hbl⟩ := hrel
    by_cases hkn : k < C
    · have HTk := Lib.hid (Pm_succ (f.tdiv 4) K k)
      have HB := Lib.hid hbl
      have HO := Lib.hid ho
      have hbs := hbl.size
      have hk2 : (k : Int).tmod 2 = ((k % 2 : Nat) : Int) := by rw [Int.tmod_eq_emod_of_nonneg (by omega)]; omega
      have hk2' : (k : Int) % 2 = ((k % 2 : Nat) : Int) := by omega
      obtain ⟨m, hm⟩ : ∃ m, m = k % 2 := ⟨_, rfl⟩
      rw [← hm] at hk2 hk2' HTk
      have hm1 : m ≤ 1 := by omega
      clear ho hbl hm
      have hown := (HO.out.alloc (.cells #[.int .i64 (K : Nat), .int .u64 (m : Nat), .string ⟨#[]⟩] 40)).alloc (.cells #[.int .i64 (f.tdiv 4 + (k : Int)), .int .i64 (K : Nat), .int .u64 (m : Nat), .string ⟨#[]⟩] 42)
      have HCN := Lib.hid (show ∀ j u, [Value.int .i64 (f.tdiv 4 + (k : Int)), Value.int .i64 (K : Nat), Value.int .u64 (m : Nat), Value.string ⟨#[]⟩][j]? = some u → ((wr.alloc (.cells #[.int .i64 (K : Nat), .int .u64 (m : Nat), .string ⟨#[]⟩] 40)).alloc (.cells #[.int .i64 (f.tdiv 4 + (k : Int)), .int .i64 (K : Nat), .int .u64 (m : Nat), .string ⟨#[]⟩] 42)).cell? ((⟨wr.heap.size + 1, 0, none⟩ : Addr).add j) = some u from fun j u hj => by
        have := Kt.cells4_new (wr.alloc (.cells #[.int .i64 (K : Nat), .int .u64 (m : Nat), .string ⟨#[]⟩] 40)) (.int .i64 (f.tdiv 4 + (k : Int))) (.int .i64 (K : Nat)) (.int .u64 (m : Nat)) (.string ⟨#[]⟩) 42 j u hj
        simpa using this)
      go_wp2_with (at_builtin; refine wpList_append_own _ rfl (.tmp 32) (.tmp 39) 22 rfl w.heap.size 42 i0 (.agg #[.int .i64 0, .int .i64 0, .int .u64 0, .string ⟨#[]⟩]) 4 40 Tryd.underlying22 hi hz0 hz1 hz2 rfl (by decide) _ _ _ rfl hown ⟨wr.heap.size + 1, 0, none⟩ 1 1 [.int .i64 (f.tdiv 4 + (k : Int)), .int .i64 (K : Nat), .int .u64 (m : Nat), .string ⟨#[]⟩] rfl rfl ?c1 ?c2 ?c3 ?c4 ?c5 ?_)
      case c1 => exact HCN.out
      case c2 => intro u hu; simp at hu; rcases hu with rfl | rfl | rfl | rfl <;> rfl
      case c3 => unfold maxLen; omega
      case c4 => omega
      case c5 => simp; omega
      intro v' w2 hown' hgrow _
      have b2 := Lib.hid (Below.grown ((HB.out.alloc hbs _).alloc (by simp; omega) _) hgrow (by simp; omega) (fun r hr => (HO.out.lt r hr).1))
      clear hgrow hown
      have hO2 := Lib.hid hown'
      clear hown'
      go_wp2_with fail
      go_roundw
      case rel => exact ⟨k + 1, by omega, by go_num, by rw [HTk.out, pcs_snoc]; have h := hO2.out; rw [← str_nil] at h; exact h, b2.out⟩
      case measure => simp [intOf]; omega
    · obtain rfl : k = C := by omega
      have HO := Lib.hid ho
      have HB := Lib.hid hbl
      have hwp := Pm_wp (k := k) hF4 (show K ≤ 3 by omega) (by omega)
      have hPl := Pm_len (f.tdiv 4) K k
      have hTD : ∀ x, Below w.heap.size w x → Tab x ∧ Dt x := fun x hx => ⟨HTD.out.1.below hx HTD.out.1.1, HTD.out.2.below hx (by have := HTD.out.2.1; omega)⟩
      have hpi : Pi wr u8 (Pm (f.tdiv 4) K k) := pi_own (by rw [hPl]; exact ho) hwp
      have F16 := Lib.hid (encode16 wr u8 _ hpi (by rw [hPl]; omega) (hTD wr hbl).1 (hTD wr hbl).2)
      unfold BEnc at F16
      by_cases hk0 : k < 1 ∨ 1000 < k
      · rw [enc8_bad (Pm_bad hk0)] at F16
        clear ho hbl hwp hPl hTD hpi
        rcases hk0 with hk0 | hk0
        · obtain rfl : k = 0 := by omega
          go_wp2_with fail
          refine F16.out.mono ?_
          rintro e w2 ⟨r2, rfl, o2, b2⟩
          have B2 := Lib.hid (HB.out.trans (b2.mono HB.out.size))
          clear b2 o2
          go_wp2_with fail
          go_ret
          exact ⟨rfl, B2.out⟩
        · have hk1 : ¬ ((k : Int) < 1) := by omega
          go_wp2_with fail
          refine F16.out.mono ?_
          rintro e w2 ⟨r2, rfl, o2, b2⟩
          have B2 := Lib.hid (HB.out.trans (b2.mono HB.out.size))
          clear b2 o2
          go_wp2_with fail
          go_ret
          exact ⟨rfl, B2.out⟩
      have he := enc8_ok (Pm_ok (F := f.tdiv 4) (K := K) (k := k) (by omega) (by omega)) (Pm_enc hK3 (by omega) (by omega))
      obtain ⟨bs, hbs⟩ : ∃ bs, bs = lay (kd (Pm (f.tdiv 4) K k)) (Tm.bytesOf (tms (Pm (f.tdiv 4) K k))) (enc (vls (Pm (f.tdiv 4) K k))).2 := ⟨_, rfl⟩
      rw [← hbs] at he
      rw [he] at F16
      obtain ⟨hsay, _⟩ := says_back hwp he
      obtain ⟨hb9, hb10, hX, _⟩ := enc8_size hwp he
      simp only at F16
      have G17 := Lib.hid (fun (x : World) (B : Nat) (r : Value) (hx : Below w.heap.size w x) (ho : x.ownsRow B 5 1 r bs.length (u8s bs)) => (show Calls Tryd.prog 10 #[r] x fun e w' => ∃ q, e = .returned (.tuple #[q, .int .i64 0]) ∧ w'.ownsRow x.heap.size 42 4 q (Pm (f.tdiv 4) K k).length (pcs (Pm (f.tdiv 4) K k)) ∧ Below x.heap.size x w' from
        (decode17 x r bs (pl_own ho (by omega)) hX (by omega) (hTD x hx).1 (hTD x hx).2).mono fun e w' hd => by
          obtain ⟨⟨Q, q, _, hu, _, _, _, h1, h2⟩ | ⟨hno, _⟩, b⟩ := hd
          · rw [← hu _ hsay] at h2
            exact ⟨q, h1, h2, b⟩
          · exact absurd hsay (hno _)))
      have G18 := Lib.hid (fun (x : World) (B : Nat) (r : Value) (hx : Below wr.heap.size wr x) (ho : x.ownsRow B 42 4 r (Pm (f.tdiv 4) K k).length (pcs (Pm (f.tdiv 4) K k))) => (show Calls Tryd.prog 11 #[r, u8] x fun e w' => e = .returned (.bool true) ∧ Below x.heap.size x w' from by
        have := same18 x r u8 _ _ (pi_own ho hwp) (hpi.below hx) (by rw [hPl]; omega)
        rwa [decide_eq_true rfl] at this))
      have hk1 : ¬ ((k : Int) < 1) := by omega
      have hk2 : ¬ ((1000 : Int) < (k : Int)) := by omega
      clear ho hbl hwp hPl hTD hpi he hbs hsay hX
      go_wp2_with fail
      refine F16.out.mono ?_
      rintro e w2 ⟨r2, rfl, o2, b2⟩
      have O2 := Lib.hid o2
      have HW2 := Lib.hid b2
      have B2 := Lib.hid (HB.out.trans (b2.mono HB.out.size))
      clear b2 o2
      go_wp2_with fail
      refine (G17.out _ _ _ B2.out O2.out).mono ?_
      rintro e w3 ⟨r3, rfl, o3, b3⟩
      have O3 := Lib.hid o3
      have HW3 := Lib.hid (HW2.out.trans (b3.mono HW2.out.size))
      have B3 := Lib.hid (B2.out.trans (b3.mono B2.out.size))
      clear o3 b3
      go_wp2_with fail
      refine (G18.out _ _ _ HW3.out O3.out).mono ?_
      rintro e w4 ⟨rfl, b4⟩
      have B4 := Lib.hid (B3.out.trans (b4.mono B3.out.size))
      clear b4
      go_wp2_with fail
      go_ret
      exact ⟨rfl, B4.out⟩
theorem many8i (w : World) (n y : Int) (f : Int) (n1 : 0 ≤ n) (hn : n < 65536) (y1 : 0 ≤ y) (hy : y < 256) (f1 : -9223372036854775808 ≤ f) (f2 : f ≤ 9223372036854775807) (hT : Tab w) (hD : Dt w) :
    Calls Tryd.prog 6 #[.int .u16 n, .int .i64 f, .int .u8 y] w fun e w' => e = .returned (.bool true) ∧ Below w.heap.size w w' := by
  obtain ⟨n, rfl⟩ := Int.eq_ofNat_of_zero_le n1
  obtain ⟨y, rfl⟩ := Int.eq_ofNat_of_zero_le y1
  exact many8 w n y f (by omega) (by omega) f1 f2 hT hD
end Km
end Go.Proofs.YtjmddomkoholoaaDoor
