import Derived.Test.YtjmddomkoholoaaGreatDoorG32
import Derived.Test.YtjmddomkoholoaaGreatDoorG15
import Derived.Test.YtjmddomkoholoaaGreatDoorG24

/- timesOf, valuesOf, joined. -/
namespace Go.Proofs.YtjmddomkoholoaaGreatDoor
open Go.RowKit
namespace Kt
open Cm Wr Cv Vs Kd Kp Ti

set_option maxRecDepth 100000 in
set_option maxHeartbeats 1000000 in
theorem times (w : World) (v : Value) (P : List Pnt) (h : Pi w v P) (hl : P.length ≤ 3518437208781) :
    Calls Tryz.prog 45 #[v] w fun e w' => ∃ r, e = .returned r ∧ w'.ownsRow w.heap.size 2 1 r P.length (i64s (tms P)) ∧ Below w.heap.size w w' := by
  obtain ⟨i0, hi, hz0, hz1, hz2⟩ := info_parts info2
  rcases h.cases with ⟨a, c, rfl, rfl⟩ | ⟨h0, b, off, c, rfl, hc, hb, hcell⟩
  · clear h
    go_enter Tryz.func45, Tryz.ntmps45
    go_wp2_with fail
    refine wp_loop_rounds 1 ?_
    rw [rounds_succ]
    go_wp2_with fail
    go_ret
    exact ⟨_, rfl, World.ownsRow_nil _ _ _ _, Below.refl _ _⟩
  · have HT := Lib.hid (fun k (hk : k < P.length) => tms_take P k hk)
    have HALL : Hid (tms P = tms (P.take P.length)) := Lib.hid (by rw [List.take_length])
    obtain ⟨n, hn⟩ : ∃ n, n = P.length := ⟨_, rfl⟩
    rw [← hn] at h0 hc hcell HT hl HALL ⊢
    have HC := Lib.hid hcell
    clear h hcell hn
    go_enter Tryz.func45, Tryz.ntmps45
    go_wp2_with fail
    go_loopw [3, 5, 8] (fun o _ i wr => ∃ k, k ≤ n ∧ i = .int .i64 (k : Nat) ∧ wr.ownsRow w.heap.size 2 1 o k (i64s (tms (P.take k))) ∧ Below w.heap.size w wr) (fun _ _ i _ => n - (intOf i).toNat)
    case atStart => exact ⟨0, Nat.zero_le _, rfl, World.ownsRow_nil _ _ _ _, Below.refl _ _⟩
    case round =>
      obtain ⟨k, hk, rfl, ho, hbl⟩ := hrel
      by_cases hkn : k < n
      · obtain ⟨e0, e1, e2, e3⟩ := (HC.out k hkn).of_block (hbl.block b hb)
        have HTk := Lib.hid (HT.out k hkn)
        obtain ⟨p, hp⟩ : ∃ p, p = P.getD k p0 := ⟨_, rfl⟩
        rw [← hp] at e0 e1 e2 e3 HTk
        clear hp
        obtain ⟨t, q1, q2, q3⟩ := p
        simp only at e0 e1 e2 e3 HTk
        have HB := Lib.hid hbl
        have HO := Lib.hid ho
        have hbs := hbl.size
        clear ho hbl
        have hown := (HO.out.alloc (.cells #[.int .i64 t, .int .i64 q1, .int .u64 (q2 : Nat), .string (str q3)] 37)).alloc (.cells #[.int .i64 t] 2)
        have hcn : ∀ j u, [Value.int .i64 t][j]? = some u → ((wr.alloc (.cells #[.int .i64 t, .int .i64 q1, .int .u64 (q2 : Nat), .string (str q3)] 37)).alloc (.cells #[.int .i64 t] 2)).cell? ((⟨wr.heap.size + 1, 0, none⟩ : Addr).add j) = some u := fun j u hj => by
          have := cell_one_new (wr.alloc (.cells #[.int .i64 t, .int .i64 q1, .int .u64 (q2 : Nat), .string (str q3)] 37)) (.int .i64 t) 2 j u hj
          simpa using this
        have HCN := Lib.hid hcn
        clear hcn
        go_wp2_with (at_builtin; refine wpList_append_own _ rfl (.tmp 12) (.tmp 15) 54 rfl w.heap.size 2 i0 (.int .i64 0) 1 8 Tryz.underlying54 hi hz0 hz1 hz2 rfl (by decide) _ _ _ rfl hown ⟨wr.heap.size + 1, 0, none⟩ 1 1 [.int .i64 t] rfl rfl ?c1 ?c2 ?c3 ?c4 ?c5 ?_)
        case c1 => exact HCN.out
        case c2 => intro u hu; simp at hu; subst hu; rfl
        case c3 => unfold maxLen; omega
        case c4 => omega
        case c5 => simp; omega
        intro v' w2 hown' hgrow _
        have b2 := Lib.hid (Below.grown ((HB.out.alloc hbs _).alloc (by simp; omega) _) hgrow (by simp; omega) (fun r hr => (HO.out.lt r hr).1))
        clear hgrow hown
        have hO2 := Lib.hid hown'
        clear hown'
        go_wp2_with fail
        go_roundw
        case rel => exact ⟨k + 1, by omega, by go_num, by rw [HTk.out, i64s_snoc]; exact hO2.out, b2.out⟩
        case measure => simp [intOf]; omega
      · obtain rfl : k = n := by omega
        have HB := Lib.hid hbl
        have HO := Lib.hid ho
        clear ho hbl
        go_wp2_with fail
        go_ret
        exact ⟨_, rfl, by rw [HALL.out]; exact HO.out, HB.out⟩

set_option maxRecDepth 100000 in
set_option maxHeartbeats 1000000 in
theorem values (w : World) (v : Value) (P : List Pnt) (h : Pi w v P) (hl : P.length ≤ 3518437208781) :
    Calls Tryz.prog 47 #[v] w fun e w' => ∃ r, e = .returned r ∧ w'.ownsRow w.heap.size 35 3 r P.length (vcs (vls P)) ∧ Below w.heap.size w w' := by
  obtain ⟨i0, hi, hz0, hz1, hz2⟩ := info_parts info35
  rcases h.cases with ⟨a, c, rfl, rfl⟩ | ⟨h0, b, off, c, rfl, hc, hb, hcell⟩
  · clear h
    go_enter Tryz.func47, Tryz.ntmps47
    go_wp2_with fail
    refine wp_loop_rounds 1 ?_
    rw [rounds_succ]
    go_wp2_with fail
    go_ret
    exact ⟨_, rfl, World.ownsRow_nil _ _ _ _, Below.refl _ _⟩
  · have HT := Lib.hid (fun k (hk : k < P.length) => vls_take P k hk)
    have HALL : Hid (vls P = vls (P.take P.length)) := Lib.hid (by rw [List.take_length])
    obtain ⟨n, hn⟩ : ∃ n, n = P.length := ⟨_, rfl⟩
    rw [← hn] at h0 hc hcell HT hl HALL ⊢
    have HC := Lib.hid hcell
    clear h hcell hn
    go_enter Tryz.func47, Tryz.ntmps47
    go_wp2_with fail
    go_loopw [3, 5, 8] (fun o _ i wr => ∃ k, k ≤ n ∧ i = .int .i64 (k : Nat) ∧ wr.ownsRow w.heap.size 35 3 o k (vcs (vls (P.take k))) ∧ Below w.heap.size w wr) (fun _ _ i _ => n - (intOf i).toNat)
    case atStart => exact ⟨0, Nat.zero_le _, rfl, World.ownsRow_nil _ _ _ _, Below.refl _ _⟩
    case round =>
      obtain ⟨k, hk, rfl, ho, hbl⟩ := hrel
      by_cases hkn : k < n
      · obtain ⟨e0, e1, e2, e3⟩ := (HC.out k hkn).of_block (hbl.block b hb)
        have HTk := Lib.hid (HT.out k hkn)
        obtain ⟨p, hp⟩ : ∃ p, p = P.getD k p0 := ⟨_, rfl⟩
        rw [← hp] at e0 e1 e2 e3 HTk
        clear hp
        obtain ⟨t, q1, q2, q3⟩ := p
        simp only at e0 e1 e2 e3 HTk
        have HB := Lib.hid hbl
        have HO := Lib.hid ho
        have hbs := hbl.size
        clear ho hbl
        have hown := (HO.out.alloc (.cells #[.int .i64 t, .int .i64 q1, .int .u64 (q2 : Nat), .string (str q3)] 37)).alloc (.cells #[.int .i64 q1, .int .u64 (q2 : Nat), .string (str q3)] 35)
        have hcn : ∀ j u, [Value.int .i64 q1, Value.int .u64 (q2 : Nat), Value.string (str q3)][j]? = some u → ((wr.alloc (.cells #[.int .i64 t, .int .i64 q1, .int .u64 (q2 : Nat), .string (str q3)] 37)).alloc (.cells #[.int .i64 q1, .int .u64 (q2 : Nat), .string (str q3)] 35)).cell? ((⟨wr.heap.size + 1, 0, none⟩ : Addr).add j) = some u := fun j u hj => by
          have := Rw.cells3_new (wr.alloc (.cells #[.int .i64 t, .int .i64 q1, .int .u64 (q2 : Nat), .string (str q3)] 37)) (.int .i64 q1) (.int .u64 (q2 : Nat)) (.string (str q3)) 35 j u hj
          simpa using this
        have HCN := Lib.hid hcn
        clear hcn
        go_wp2_with (at_builtin; refine wpList_append_own _ rfl (.tmp 12) (.tmp 15) 57 rfl w.heap.size 35 i0 (.agg #[.int .i64 0, .int .u64 0, .string ⟨#[]⟩]) 3 32 Tryz.underlying57 hi hz0 hz1 hz2 rfl (by decide) _ _ _ rfl hown ⟨wr.heap.size + 1, 0, none⟩ 1 1 [.int .i64 q1, .int .u64 (q2 : Nat), .string (str q3)] rfl rfl ?c1 ?c2 ?c3 ?c4 ?c5 ?_)
        case c1 => exact HCN.out
        case c2 => intro u hu; simp at hu; rcases hu with rfl | rfl | rfl <;> rfl
        case c3 => unfold maxLen; omega
        case c4 => omega
        case c5 => simp; omega
        intro v' w2 hown' hgrow _
        have b2 := Lib.hid (Below.grown ((HB.out.alloc hbs _).alloc (by simp; omega) _) hgrow (by simp; omega) (fun r hr => (HO.out.lt r hr).1))
        clear hgrow hown
        have hO2 := Lib.hid hown'
        clear hown'
        go_wp2_with fail
        go_roundw
        case rel => exact ⟨k + 1, by omega, by go_num, by rw [HTk.out, vcs_snoc]; exact hO2.out, b2.out⟩
        case measure => simp [intOf]; omega
      · obtain rfl : k = n := by omega
        have HB := Lib.hid hbl
        have HO := Lib.hid ho
        clear ho hbl
        go_wp2_with fail
        go_ret
        exact ⟨_, rfl, by rw [HALL.out]; exact HO.out, HB.out⟩
end Kt
end Go.Proofs.YtjmddomkoholoaaGreatDoor

/- joined. -/
namespace Go.Proofs.YtjmddomkoholoaaGreatDoor
open Go.RowKit
namespace Kt
open Cm Wr Cv Vs Kd Kp Ti

/-- The first k points. -/
def jn (T : List Int) (V : List Vl) (k : Nat) : List Pnt := Cm.tab (fun i => (T.getD i 0, V.getD i z0)) k
theorem jn_succ (T : List Int) (V : List Vl) (k : Nat) : jn T V (k + 1) = jn T V k ++ [(T.getD k 0, V.getD k z0)] := Cm.tab_succ _ _
theorem jn_len (T : List Int) (V : List Vl) (k : Nat) : (jn T V k).length = k := Cm.tab_len _ _
theorem jn_all {T : List Int} {V : List Vl} (h : T.length = V.length) : jn T V T.length = T.zip V := by
  refine List.ext_getElem (by rw [jn_len, List.length_zip]; omega) fun i h1 h2 => ?_
  rw [jn_len] at h1
  simp [jn, Cm.tab, List.getD_eq_getElem?_getD, h1, show i < V.length by omega]
theorem cells4_new (w : World) (a b c d : Value) (t : TypeId) : ∀ j u, [a, b, c, d][j]? = some u → (w.alloc (.cells #[a, b, c, d] t)).cell? ((⟨w.heap.size, 0, none⟩ : Addr).add j) = some u := by
  intro j u hj
  match j, hj with
  | 0, hj => simp at hj; subst hj; simp [Addr.add]
  | 1, hj => simp at hj; subst hj; simp [Addr.add]
  | 2, hj => simp at hj; subst hj; simp [Addr.add]
  | 3, hj => simp at hj; subst hj; simp [Addr.add]

set_option maxRecDepth 100000 in
set_option maxHeartbeats 1000000 in
theorem joined (w : World) (u v : Value) (T : List Int) (V : List Vl) (hT : Ii w u T) (hV : Vi w v V) (hl : T.length = V.length) (h1 : 1 ≤ T.length) (h9 : T.length ≤ 1000) :
    Calls Tryz.prog 26 #[u, v] w fun e w' => ∃ r, e = .returned r ∧ w'.ownsRow w.heap.size 37 4 r T.length (pcs (T.zip V)) ∧ Below w.heap.size w w' := by
  obtain ⟨i0, hi, hz0, hz1, hz2⟩ := info_parts infoP
  obtain ⟨b, off, c, rfl, hc, hb, hcell⟩ := Th.ii_open hT h1
  rcases hV.cases with ⟨_, _, _, rfl⟩ | ⟨_, b', off', c', rfl, hc', hb', hcell'⟩
  · rw [hl] at h1; simp at h1
  have HALL := Lib.hid (jn_all hl)
  rw [← hl] at hc' hcell' ⊢
  have HJ := Lib.hid (fun k => jn_succ T V k)
  obtain ⟨n, hn⟩ : ∃ n, n = T.length := ⟨_, rfl⟩
  rw [← hn] at h1 h9 hc hc' hcell hcell' HALL ⊢
  have HC := Lib.hid hcell
  have HD := Lib.hid hcell'
  clear hT hV hl hcell hcell' hn
  go_enter Tryz.func26, Tryz.ntmps26
  go_wp2_with fail
  go_loopw [5, 6, 7, 10] (fun o _ _ i wr => ∃ k, k ≤ n ∧ i = .int .i64 (k : Nat) ∧ wr.ownsRow w.heap.size 37 4 o k (pcs (jn T V k)) ∧ Below w.heap.size w wr) (fun _ _ _ i _ => n - (intOf i).toNat)
  case atStart => exact ⟨0, Nat.zero_le _, rfl, World.ownsRow_nil _ _ _ _, Below.refl _ _⟩
  case round =>
    obtain ⟨k, hk, rfl, ho, hbl⟩ := hrel
    by_cases hkn : k < n
    · have e0 := (hbl.cell (p := ⟨b, off + k, none⟩) hb).trans (HC.out k hkn)
      obtain ⟨e1, e2, e3⟩ := (HD.out k hkn).of_block (hbl.block b' hb')
      have HTk := Lib.hid (HJ.out k)
      obtain ⟨t, ht⟩ : ∃ t, t = T.getD k 0 := ⟨_, rfl⟩
      obtain ⟨p, hp⟩ : ∃ p, p = V.getD k z0 := ⟨_, rfl⟩
      rw [← ht] at e0 HTk
      rw [← hp] at e1 e2 e3 HTk
      clear hp ht
      obtain ⟨q1, q2, q3⟩ := p
      simp only at e1 e2 e3 HTk
      have HB := Lib.hid hbl
      have HO := Lib.hid ho
      have hbs := hbl.size
      clear ho hbl
      go_wp2_with (at_builtin; refine wpList_append_own _ rfl (.tmp 15) (.tmp 22) 24 rfl w.heap.size 37 i0 (.agg #[.int .i64 0, .int .i64 0, .int .u64 0, .string ⟨#[]⟩]) 4 40 Tryz.underlying24 hi hz0 hz1 hz2 rfl (by decide) _ _ _ rfl (HO.out.alloc _) ⟨wr.heap.size, 0, none⟩ 1 1 [.int .i64 t, .int .i64 q1, .int .u64 (q2 : Nat), .string (str q3)] rfl rfl (cells4_new _ _ _ _ _ _) ?c2 ?c3 ?c4 ?c5 ?_)
      case c2 => intro u hu; simp at hu; rcases hu with rfl | rfl | rfl | rfl <;> rfl
      case c3 => unfold maxLen; omega
      case c4 => omega
      case c5 => simp; omega
      intro v' w2 hown' hgrow _
      have b2 := Lib.hid (Below.grown (HB.out.alloc hbs _) hgrow (by simp; omega) (fun r hr => (HO.out.lt r hr).1))
      clear hgrow
      have hO2 := Lib.hid hown'
      clear hown'
      go_wp2_with fail
      go_roundw
      case rel => exact ⟨k + 1, by omega, by go_num, by rw [HTk.out, pcs_snoc]; exact hO2.out, b2.out⟩
      case measure => simp [intOf]; omega
    · obtain rfl : k = n := by omega
      have HB := Lib.hid hbl
      have HO := Lib.hid ho
      clear ho hbl
      go_wp2_with fail
      go_ret
      exact ⟨_, rfl, by rw [← HALL.out]; exact HO.out, HB.out⟩
end Kt
end Go.Proofs.YtjmddomkoholoaaGreatDoor
