import Derived.Test.YtjmddomkoholoaaGreatDoorG41
import Derived.Test.YtjmddomkoholoaaGreatDoorG04

/- The document's Unpack of bytes. -/
namespace Go.Proofs.YtjmddomkoholoaaGreatDoor
open Go.RowKit
namespace Qu
open Bm Wr Cv

/-- What Unpack answers. -/
def Uq (w : World) (l : List Nat) (e : Ending) (w' : World) : Prop :=
  ((∃ o r, Lu.unp 4194304 [] l = .ok o ∧ e = .returned (.tuple #[r, .int .i64 0]) ∧ w'.ownsRow w.heap.size 5 1 r o.length (u8s o) ∧ (∀ x ∈ o, x < 256) ∧ o.length ≤ 4194304) ∨
    (∃ k : Nat, Lu.unp 4194304 [] l = .error k ∧ e = .returned (.tuple #[.slice none 0 0, .int .i64 (k : Nat)]))) ∧ Below w.heap.size w w'
/-- What holds ahead of each round. -/
def UQ (w wr : World) (l : List Nat) (s : Value) (o : List Nat) (a : Nat) : Prop :=
  a ≤ l.length ∧ Lu.unp 4194304 o (l.drop a) = Lu.unp 4194304 [] l ∧ o.length ≤ 4194304 ∧ (∀ x ∈ o, x < 256) ∧ wr.ownsRow w.heap.size 5 1 s o.length (u8s o) ∧ Below w.heap.size w wr

theorem drop_cons {l : List Nat} {a : Nat} (h : a < l.length) : l.drop a = l.getD a 0 :: l.drop (a + 1) := by
  rw [List.drop_eq_getElem_cons h, List.getD_eq_getElem?_getD, List.getElem?_eq_getElem h]
  rfl
theorem g_drop (l : List Nat) (a i : Nat) : Lm.g (l.drop a) i = l.getD (a + i) 0 := by
  unfold Lm.g
  simp [List.getD_eq_getElem?_getD]
theorem uq_next {w wr w2 : World} {l o o' : List Nat} {s s' : Value} {a a' : Nat} (h : UQ w wr l s o a) (ha : a' ≤ l.length) (hu : Lu.unp 4194304 o (l.drop a) = Lu.unp 4194304 o' (l.drop a')) (hl : o'.length ≤ 4194304) (hX : ∀ x ∈ o', x < 256) (ho : w2.ownsRow w.heap.size 5 1 s' o'.length (u8s o')) (b : Below w.heap.size w w2) : UQ w w2 l s' o' a' :=
  ⟨ha, by rw [← hu]; exact h.2.1, hl, hX, ho, b⟩

theorem getD_drop_take {l : List Nat} {p M j : Nat} (hj : j < M) : ((l.drop p).take M).getD j 0 = l.getD (p + j) 0 := by
  simp [List.getD_eq_getElem?_getD, hj]
theorem piece_cells {x : World} {b off n : Nat} {l : List Nat} (hn : n = l.length) (h : ∀ i, i < n → x.cell? ⟨b, off + i, none⟩ = some (.int .u8 (l.getD i 0 : Nat))) (p M : Nat) (hM : p + M ≤ n) :
    ∀ j u, (u8s ((l.drop p).take M))[j]? = some u → x.cell? ⟨b, off + p + j, none⟩ = some u := by
  intro j u hj
  have hlen : ((l.drop p).take M).length = M := by rw [List.length_take, List.length_drop]; omega
  have hj' : j < M := by
    have := (List.getElem?_eq_some_iff.1 hj).1
    simp only [u8s, List.length_map] at this
    omega
  rw [Wr.u8s_get _ j (by omega), getD_drop_take hj'] at hj
  cases hj
  have hc := h (p + j) (by omega)
  rw [← Nat.add_assoc] at hc
  exact hc

theorem cell1_new (w : World) (a : Value) (t : TypeId) : ∀ j u, [a][j]? = some u → (w.alloc (.cells #[a] t)).cell? ((⟨w.heap.size, 0, none⟩ : Addr).add j) = some u := by
  intro j u hj
  match j, hj with
  | 0, hj => simp at hj; subst hj; simp [Addr.add]
theorem bdn {B : Nat} {a w : World} (h : Below B a w) (n : Nat) : Below B a (w.drewN n) := ⟨h.os, h.tape, h.output, h.size, h.block⟩
theorem or_i64 (X Y : Nat) (hX : X < 256) (hY : Y < 256) : bits .or .i64 ((X : Int) * 256) (Y : Int) = ((X * 256 + Y : Nat) : Int) := by
  have e : ((X : Int) * 256) = ((X * 256 : Nat) : Int) := by simp
  rw [e]
  show IntKind.i64.wrap ((BitVec.ofInt 64 ((X * 256 : Nat) : Int) ||| BitVec.ofInt 64 (Y : Int)).toNat : Int) = _
  have h := Nat.two_pow_add_eq_or_of_lt (i := 8) (b := Y) hY X
  have hz : ∀ a : Nat, a < 18446744073709551616 → (BitVec.ofInt 64 (a : Int)).toNat = a := fun a ha => by
    rw [BitVec.toNat_ofInt]
    omega
  rw [BitVec.toNat_or, hz (X * 256) (by omega), hz Y (by omega), show X * 256 = 2 ^ 8 * X from by omega, ← h, IntKind.wrap_i64]
  omega

set_option maxRecDepth 100000 in
set_option maxHeartbeats 4000000 in
theorem qunpack (w : World) (v : Value) (l : List Nat) (hP : Pl w v l) (hX : ∀ x ∈ l, x < 256) (hl : l.length ≤ 140737488353272) :
    Calls Tryz.prog 100 #[v, .int .i64 4194304] w fun e w' => Uq w l e w' := by
  obtain ⟨i0, hi, hz0, hz1, hz2⟩ := info_parts info5
  rcases hP with ⟨rfl, a, c, rfl⟩ | ⟨h0, b, off, c, rfl, hlc, hcell⟩
  · go_enter Tryz.func100, Tryz.ntmps100
    go_wp2_with fail
    refine wp_loop_rounds 1 ?_
    rw [rounds_succ]
    go_wp2_with fail
    go_ret2
    exact ⟨.inl ⟨[], _, rfl, rfl, World.ownsRow_nil _ _ _ _, by simp, by simp⟩, Below.refl _ _⟩
  have hbw : b < w.heap.size := cell_lt (hcell 0 h0)
  have HC := Lib.hid hcell
  have HX := Lib.hid hX
  have HU0 := Lib.hid (show UQ w w l (.slice none 0 0) [] 0 from ⟨Nat.zero_le _, rfl, by simp, by simp, World.ownsRow_nil _ _ _ _, Below.refl _ _⟩)
  obtain ⟨n, hn⟩ : ∃ n, n = l.length := ⟨_, rfl⟩
  rw [← hn] at h0 hl hlc ⊢
  have HN := Lib.hid hn
  clear hcell hX hn
  go_enter Tryz.func100, Tryz.ntmps100
  go_wp2_with fail
  go_loopw [6, 7, 8, 9] (fun x i _ _ wr => ∃ a o, i = .int .i64 (a : Nat) ∧ UQ w wr l x o a) (fun _ i _ _ _ => n - (intOf i).toNat)
  case atStart => exact ⟨0, [], rfl, HU0.out⟩
  case round =>
    obtain ⟨a, o, rfl, hU⟩ := hrel
    have HU := Lib.hid hU
    have HB := Lib.hid hU.2.2.2.2.2
    have HO := Lib.hid hU.2.2.2.2.1
    have ha := hU.1
    have hol := hU.2.2.1
    rw [← HN.out] at ha
    clear hU
    by_cases han : a < n
    case neg =>
      obtain rfl : a = n := by omega
      have HE := Lib.hid (show Lu.unp 4194304 [] l = .ok o from by
        rw [← HU.out.2.1, List.drop_of_length_le (by rw [← HN.out]; exact Nat.le_refl _), Lu.unp_nil])
      go_wp2_with fail
      go_ret2
      exact ⟨.inl ⟨o, _, HE.out, rfl, HO.out, HU.out.2.2.2.1, HU.out.2.2.1⟩, HB.out⟩
    have hdr := drop_cons (l := l) (a := a) (by rw [← HN.out]; exact han)
    have hrl : (l.drop (a + 1)).length = n - (a + 1) := by rw [List.length_drop, HN.out]
    have hg0 := g_drop l (a + 1) 0
    have hg1 := g_drop l (a + 1) 1
    rw [Nat.add_zero] at hg0
    rw [show a + 1 + 1 = a + 2 from rfl] at hg1
    have HC1 := Lib.hid (fun (x : World) (hx : Below w.heap.size w x) (i : Nat) (hi : i < n) => (show x.cell? ⟨b, off + i, none⟩ = some (.int .u8 (l.getD i 0 : Nat)) from (hx.cell (p := ⟨b, off + i, none⟩) hbw).trans (HC.out i (by rw [← HN.out]; exact hi))))
    have e0 := HC1.out wr HB.out a han
    have hN := getD_lt HX.out a
    have UA := Lib.hid (@Ua.unp_A 4194304 o (l.getD a 0) (l.drop (a + 1)))
    have UB := Lib.hid (@Ua.unp_B 4194304 o (l.getD a 0) (l.drop (a + 1)))
    have UC := Lib.hid (@Ua.unp_C 4194304 o (l.getD a 0) (l.drop (a + 1)))
    have UD := Lib.hid (@Ua.unp_D 4194304 o (l.getD a 0) (l.drop (a + 1)))
    have UE := Lib.hid (@Ua.unp_E 4194304 o (l.getD a 0) (l.drop (a + 1)))
    have UF := Lib.hid (@Ua.unp_F 4194304 o (l.getD a 0) (l.drop (a + 1)))
    have HERR := Lib.hid (fun (k : Nat) (h : Lu.unp 4194304 o (l.getD a 0 :: l.drop (a + 1)) = .error k) (x : World) (hx : Below w.heap.size w x) => (show Uq w l (.returned (.tuple #[.slice none 0 0, .int .i64 (k : Nat)])) x from ⟨.inr ⟨k, by rw [← HU.out.2.1, hdr, h], rfl⟩, hx⟩))
    have HNX := Lib.hid (fun (x : World) (s' : Value) (o' : List Nat) (a' : Nat) (ha : a' ≤ n) (hu : Lu.unp 4194304 o (l.getD a 0 :: l.drop (a + 1)) = Lu.unp 4194304 o' (l.drop a')) (hl : o'.length ≤ 4194304) (hX' : ∀ x ∈ o', x < 256) (ho : x.ownsRow w.heap.size 5 1 s' o'.length (u8s o')) (bb : Below w.heap.size w x) => (show UQ w x l s' o' a' from uq_next HU.out (by rw [← HN.out]; exact ha) (by rw [hdr]; exact hu) hl hX' ho bb))
    obtain ⟨M, hM⟩ : ∃ M, M = l.getD a 0 := ⟨_, rfl⟩
    rw [← hM] at e0 hN UA UB UC UD UE UF HERR HNX
    obtain ⟨K, hK⟩ : ∃ K, K = o.length := ⟨_, rfl⟩
    rw [← hK] at UB UC UD UE UF HO hol
    rw [hrl] at UE UF UB UC UD
    have HK := Lib.hid hK
    have HM := Lib.hid hM
    have HRL := Lib.hid hrl
    have HG := Lib.hid (And.intro hg0 hg1)
    clear hdr hM hK hrl hg0 hg1
    by_cases hM0 : M = 0
    · have HE := Lib.hid (HERR.out 2 (UA.out (.inl hM0)) wr HB.out)
      subst hM0
      go_wp2_with fail
      go_ret2
      exact HE.out
    have hMz : ((M : Int) == 0) = false := by rw [beq_eq_false_iff_ne]; omega
    by_cases hM128 : M < 128
    · by_cases hfew : n - (a + 1) < M
      · have HE := Lib.hid (HERR.out 2 (UA.out (.inr (.inl ⟨hM128, by rw [HRL.out]; exact hfew⟩))) wr HB.out)
        have hgt : (n : Int) < (a : Int) + 1 + (M : Int) := by omega
        go_wp2_with fail
        go_ret2
        exact HE.out
      · have hgt : ¬ (n : Int) < (a : Int) + 1 + (M : Int) := by omega
        obtain ⟨a6, c6, hv6⟩ := Fb.slice_any HO.out
        subst hv6
        have hpl : ((l.drop (a + 1)).take M).length = M := by rw [List.length_take, HRL.out]; omega
        have hPC := Lib.hid (piece_cells HN.out (HC1.out wr HB.out) (a + 1) M (by omega))
        have hPX := Lib.hid (fun x (hx : x ∈ (l.drop (a + 1)).take M) => HX.out x (List.mem_of_mem_drop (List.mem_of_mem_take hx)))
        have UEm := Lib.hid (UE.out hM0 hM128 (by omega))
        have UFm := Lib.hid (UF.out hM0 hM128 (by omega))
        have hdd : (l.drop (a + 1)).drop M = l.drop (a + 1 + M) := by rw [List.drop_drop]
        rw [hdd] at UFm
        obtain ⟨PC, hPCe⟩ : ∃ PC, PC = (l.drop (a + 1)).take M := ⟨_, rfl⟩
        rw [← hPCe] at hpl hPC hPX UFm
        have HPL := Lib.hid hpl
        have hul : (u8s PC).length = M := by simp [u8s, hpl]
        have HON := Lib.hid (Bs.u8s_one PC)
        have hwb := HB.out.size
        clear hPCe hdd hpl
        go_wp2_with (at_builtin; refine wpList_append_own _ rfl (.tmp 30) (.tmp 38) 22 rfl w.heap.size 5 i0 (.int .u8 0) 1 1 Tryz.underlying22 hi hz0 hz1 hz2 rfl (by decide) _ _ _ rfl HO.out ⟨b, off + (a + 1), none⟩ (a + 1 + M - (a + 1)) (c - (a + 1)) (u8s PC) rfl (by rw [hul]; omega) ?c1 ?c2 ?c3 ?c4 ?c5 ?_)
        case c1 => exact hPC.out
        case c2 => exact HON.out
        case c3 => unfold maxLen; omega
        case c4 => omega
        intro v' w3 hown' hgrow _
        have B3 := Lib.hid (Below.grown HB.out hgrow hwb (fun r hr => (HO.out.lt r hr).1))
        have O3 : Hid (w3.ownsRow w.heap.size 5 1 v' (o ++ PC).length (u8s (o ++ PC))) := Lib.hid (by
          have e : u8s (o ++ PC) = u8s o ++ u8s PC := by simp [u8s]
          rw [e, List.length_append, HPL.out, ← HK.out]
          exact hown')
        obtain ⟨R, hR⟩ : ∃ R, R = K + M := ⟨_, rfl⟩
        have hl3 : (o ++ PC).length = R := by rw [List.length_append, HPL.out, ← HK.out, hR]
        obtain ⟨g3, c3, hv3⟩ := Go.Joins.ownsRow_form O3.out (by omega)
        subst hv3
        have HNN := Lib.hid (fun s' => HNX.out w3 s' (o ++ PC) (a + 1 + M) (by omega))
        have HL3 := Lib.hid hl3
        have hPX' := Lib.hid (fun x (hx : x ∈ o ++ PC) => (List.mem_append.1 hx).elim (HU.out.2.2.2.1 x) (hPX.out x))
        have HERM := Lib.hid (HERR.out 4)
        rw [hl3] at O3 ⊢
        clear hown' hgrow hPC hul hl3
        by_cases hmost : 4194304 < R
        · have HE := Lib.hid (HERM.out (UEm.out (by omega)) w3 B3.out)
          have hmi : (4194304 : Int) < (R : Int) := by omega
          go_wp2_with fail
          go_ret2
          exact HE.out
        · have HE := Lib.hid (HNN.out _ (UFm.out (by omega)) (by rw [HL3.out]; omega) hPX'.out (by rw [HL3.out]; exact O3.out) B3.out)
          have hmi : ¬ (4194304 : Int) < (R : Int) := by omega
          clear hR
          go_wp2_with fail
          go_roundw
          case rel => exact ⟨a + 1 + M, o ++ PC, by go_num, HE.out⟩
          case measure => simp [intOf]; omega
    · have hM8 : ¬ (M : Int) < 128 := by omega
      by_cases hr2 : n - (a + 1) < 2
      · have HE := Lib.hid (HERR.out 2 (UA.out (.inr (.inr ⟨by omega, .inl (by rw [HRL.out]; exact hr2)⟩))) wr HB.out)
        have hgt : (n : Int) < (a : Int) + 3 := by omega
        go_wp2_with fail
        go_ret2
        exact HE.out
      · have hgt : ¬ (n : Int) < (a : Int) + 3 := by omega
        have e1 := HC1.out wr HB.out (a + 1) (by omega)
        have e2 := HC1.out wr HB.out (a + 2) (by omega)
        have hX9 := getD_lt HX.out (a + 1)
        have hY9 := getD_lt HX.out (a + 2)
        have hg := HG.out
        rw [hg.1, hg.2] at UB UC UD
        have UA0 := UA.out
        unfold Ua.NoPiece at UA0
        rw [hg.1, hg.2] at UA0
        have hor := or_i64 _ _ hX9 hY9
        obtain ⟨D, hD⟩ : ∃ D, D = l.getD (a + 1) 0 * 256 + l.getD (a + 2) 0 := ⟨_, rfl⟩
        rw [← hD] at UB UC UD UA0 hor
        have hD9 : D < 65536 := by omega
        obtain ⟨X, hXe⟩ : ∃ X, X = l.getD (a + 1) 0 := ⟨_, rfl⟩
        rw [← hXe] at e1 hor hX9
        obtain ⟨Y, hYe⟩ : ∃ Y, Y = l.getD (a + 2) 0 := ⟨_, rfl⟩
        rw [← hYe] at e2 hor hY9
        have UA1 := Lib.hid UA0
        have hia1 : (a : Int) + 1 < (n : Int) := by omega
        have hia2 : (a : Int) + 2 < (n : Int) := by omega
        clear UA0 hg hD hXe hYe
        obtain ⟨a6, c6, hv6⟩ := Fb.slice_any HO.out
        subst hv6
        go_wp2_with fail
        go_quiet (fail)
        have HB2 := Lib.hid (show Below w.heap.size w (wr.drewN nq) from bdn HB.out nq)
        have HO2 := Lib.hid (show (wr.drewN nq).ownsRow w.heap.size 5 1 (.slice a6 K c6) K (u8s o) from HO.out)
        obtain ⟨wd, hwd⟩ : ∃ wd, wd = wr.drewN nq := ⟨_, rfl⟩
        rw [← hwd] at HB2 HO2 ⊢
        clear e0 e1 e2 hor hwd hX9 hY9 hia1 hia2
        by_cases hD0 : D = 0
        · have HE := Lib.hid (HERR.out 2 (UA1.out (.inr (.inr ⟨by omega, .inr hD0⟩))) wd HB2.out)
          subst hD0
          go_wp2_with fail
          go_ret2
          exact HE.out
        have hD1 : ¬ (D : Int) < 1 := by omega
        by_cases hKD : K < D
        · have HE := Lib.hid (HERR.out 2 (UB.out (by omega) (by omega) hKD) wd HB2.out)
          have hKDi : (K : Int) < (D : Int) := by omega
          go_wp2_with fail
          go_ret2
          exact HE.out
        have hKDi : ¬ (K : Int) < (D : Int) := by omega
        have UCm := Lib.hid (UC.out (by omega) (by omega) hD0 hKD)
        have UDm := Lib.hid (UD.out (by omega) (by omega) hD0 hKD)
        obtain ⟨T, hT⟩ : ∃ T, T = M - 124 := ⟨_, rfl⟩
        rw [← hT] at UCm UDm
        have hT1 : IntKind.i64.wrap ((M : Int) - 128) = (M : Int) - 128 := by rw [IntKind.wrap_i64]; omega
        have hT2 : IntKind.i64.wrap ((M : Int) - 128 + 4) = (T : Int) := by rw [IntKind.wrap_i64]; omega
        have hT3 : (M : Int) - 128 + 4 = (T : Int) := by omega
        have hT9 : T < 256 := by omega
        have HLEN := Lib.hid (fun k => Lu.copyN_len D k o)
        have HSN := Lib.hid (fun k => Lu.copyN_snoc D k o)
        have HCB := Lib.hid (Lu.copyN_bytes D T o HU.out.2.2.2.1)
        have HLS := Lib.hid (show Hid (Lu.unp 4194304 o (M :: l.drop (a + 1)) = Lu.unp 4194304 (Lu.copyN o D T) (l.drop (a + 3)) ∨ ¬ (K : Int) + (T : Int) ≤ 4194304) from Lib.hid (by
          by_cases h : (4194304 : Int) < (K : Int) + (T : Int)
          · exact .inr (by omega)
          · left
            have h2 := UDm.out (by omega)
            rw [List.drop_drop] at h2
            exact h2))
        have H0 := Lib.hid (show wd.ownsRow w.heap.size 5 1 (.slice a6 K c6) (Lu.copyN o D 0).length (u8s (Lu.copyN o D 0)) from by
          have h := HO2.out
          rw [HK.out] at h ⊢
          exact h)
        have hDK : D ≤ K := by omega
        clear hT hT1 hT2 hD1 hKDi hgt hM8 hMz
        go_wp2_with fail
        go_loopw [6, 74] (fun x i wr2 => ∃ k, k ≤ T ∧ i = .int .i64 (k : Nat) ∧ wr2.ownsRow w.heap.size 5 1 x (Lu.copyN o D k).length (u8s (Lu.copyN o D k)) ∧ Below w.heap.size w wr2) (fun _ i _ => T - (intOf i).toNat)
        case atStart => exact ⟨0, Nat.zero_le _, rfl, H0.out, HB2.out⟩
        case round =>
          obtain ⟨k, hk, rfl, ho, hb⟩ := hrel
          have hlen := HLEN.out k
          obtain ⟨G, cc, hv2⟩ := Go.Joins.ownsRow_form ho (by rw [hlen, ← HK.out]; omega)
          subst hv2
          rw [← HK.out] at hlen
          by_cases hkm : k < T
          · have e1 := (ho.cellAt (K + k - D) (by omega)).trans (Wr.u8s_get _ _ (by omega))
            have hsn := Lib.hid (HSN.out k)
            obtain ⟨V, hV⟩ : ∃ V, V = (Lu.copyN o D k).getD (K + k - D) 0 := ⟨_, rfl⟩
            rw [← hV] at e1
            have HNX2 : Hid (u8s (Lu.copyN o D (k + 1)) = u8s (Lu.copyN o D k) ++ [.int .u8 (V : Nat)] ∧ (Lu.copyN o D (k + 1)).length = K + k + 1) := Lib.hid (by
              rw [hsn.out, hV, hlen]
              refine ⟨by simp [u8s, Lm.g], ?_⟩
              rw [List.length_append, hlen]
              rfl)
            obtain ⟨LL, hLL⟩ : ∃ LL, LL = K + k := ⟨_, rfl⟩
            obtain ⟨I, hI⟩ : ∃ I, I = K + k - D := ⟨_, rfl⟩
            have hi1 : (LL : Int) - (D : Int) = (I : Int) := by omega
            have hIL : I < LL := by omega
            rw [← hLL] at hlen HNX2
            rw [hlen] at ho ⊢
            rw [← hI] at e1
            have HOk := Lib.hid ho
            have HBk := Lib.hid hb
            have hbk := hb.size
            have hL9 : LL ≤ 4200000 := by omega
            clear ho hb hV hI hLL hlen hT3
            go_wp2_with (at_builtin; refine wpList_append_own _ rfl _ _ 22 rfl w.heap.size 5 i0 (.int .u8 0) 1 1 Tryz.underlying22 hi hz0 hz1 hz2 rfl (by decide) _ _ _ rfl (HOk.out.alloc _) ⟨wr.heap.size, 0, none⟩ 1 1 [.int .u8 (V : Nat)] rfl rfl ?d1 ?d2 ?d3 ?d4 ?d5 ?_)
            case d1 => exact cell1_new _ _ _
            case d2 => intro u hu; simp at hu; subst hu; rfl
            case d3 => unfold maxLen; omega
            case d4 => omega
            case d5 => simp; omega
            intro v2 w2 hown2 hgrow2 _
            have B2 := Lib.hid (Below.grown (HBk.out.alloc hbk _) hgrow2 (by simp; omega) (fun r hr => (HOk.out.lt r hr).1))
            have O2 := Lib.hid hown2
            clear hgrow2 hown2 e1
            go_wp2_with fail
            go_roundw
            case rel => exact ⟨k + 1, by omega, by go_num, by rw [HNX2.out.1, HNX2.out.2]; exact O2.out, B2.out⟩
            case measure => simp [intOf]; omega
          · obtain rfl : k = T := by omega
            have HOk := Lib.hid ho
            have HBk := Lib.hid hb
            have hKT : ((K + k : Nat) : Int) = (K : Int) + (k : Int) := by omega
            obtain ⟨R, hR⟩ : ∃ R, R = K + k := ⟨_, rfl⟩
            have HLR := Lib.hid (show (Lu.copyN o D k).length = R by omega)
            rw [HLR.out]
            have HNN := Lib.hid (fun s' => HNX.out wr s' (Lu.copyN o D k) (a + 3) (by omega))
            by_cases hmost : 4194304 < R
            · have HE := Lib.hid (HERR.out 4 (UCm.out (by omega)) wr HBk.out)
              have hmi : (4194304 : Int) < (R : Int) := by omega
              clear hKT hR hlen ho hb
              go_wp2_with fail
              go_ret2
              exact HE.out
            · have HE := Lib.hid (HNN.out _ (HLS.out.out.resolve_right (by omega)) (by rw [HLR.out]; omega) HCB.out HOk.out HBk.out)
              have hmi : ¬ (4194304 : Int) < (R : Int) := by omega
              clear hKT hR hlen ho hb
              rw [HLR.out] at HE
              go_wp2_with fail
              go_roundw
              case rel => exact ⟨a + 3, Lu.copyN o D k, by go_num, HE.out⟩
              case measure => simp [intOf]; omega
end Qu
end Go.Proofs.YtjmddomkoholoaaGreatDoor
