/- The law IndexParts: its walk. -/
import Derived.Test.YtalanjhpacjmmaaKt
namespace Go.Proofs.Ytalanjhpacjmmaa
set_option maxRecDepth 100000
open Go.RowKit Go.Maps Go.ChangeMaps Go.MapKept Go.Sort Go.Shelf
namespace Ku
open Jb Ka Kb Kc Kd Kf Kg Kh Ki Kj Kk Kl Km Kn Ko Kp Kq Kr Ks Kt Sa Sb Sg Sp

/-- The formed ones of the first j. -/
def Qj (rs : List Sr) (j : Nat) : Qs := fun s => ∃ i, i < j ∧ rs.getD i s0 = s ∧ fm s = true
theorem qj_zero (rs : List Sr) : ∀ s, False ↔ Qj rs 0 s := fun s => ⟨False.elim, fun ⟨i, hi, _⟩ => by omega⟩
theorem qj_succ (rs : List Sr) (j : Nat) : ∀ s, aset (Qj rs j) (rs.getD j s0) s ↔ Qj rs (j + 1) s := fun s => by
  constructor
  · rintro (⟨i, hi, e, f⟩ | ⟨rfl, f⟩)
    · exact ⟨i, by omega, e, f⟩
    · exact ⟨j, by omega, rfl, f⟩
  · rintro ⟨i, hi, e, f⟩
    by_cases h : i = j
    · subst h; exact .inr ⟨e.symm, e ▸ f⟩
    · exact .inl ⟨i, by omega, e, f⟩
/-- All series of a name, as their texts. -/
theorem all_ex {w : World} {B N x : Nat} {A : As} {C : Cs} {Q : Qs} {kd : Kk.Ks} (h : Ix w B N x A C Q kd) (n : Tx) : ∃ ns, Tn (fun s => Q s ∧ s.1 = n) ns := by
  have ex : ∃ ns, Rw (SE A C n) ns := by
    cases hg : A (.grp n) with
    | none => exact ⟨[], Rw.emp fun t => by unfold SE; rw [if_pos hg]⟩
    | some g =>
      obtain ⟨ns, r, _⟩ := (h.mem.bk (.S n) g hg).len mt_S
      have e : SE A C n = C (.S n) := by funext t; unfold SE; rw [if_neg (by rw [hg]; simp)]
      exact ⟨ns, e ▸ r⟩
  obtain ⟨ns, r⟩ := ex
  exact ⟨ns, tn_of r fun t => by
    rw [SE_iff h n t]
    exact ⟨fun ⟨s, a, b, c⟩ => ⟨s, ⟨a, b⟩, c⟩, fun ⟨s, ⟨a, b⟩, c⟩ => ⟨s, a, b, c⟩⟩⟩
theorem tn_uniq {P : Sr → Prop} {a b : List (List UInt8)} (h : Tn P a) (k : Tn P b) : a = b := rows_ext h.1 k.1 fun x => (h.2 x).trans (k.2 x).symm
theorem sum_take_le (g : List UInt8 → Nat) : ∀ (vs : List (List UInt8)) (j : Nat), ((vs.take j).map g).sum ≤ (vs.map g).sum
  | [], j => by simp
  | a :: r, 0 => by simp
  | a :: r, j + 1 => by
    have := sum_take_le g r j
    rw [List.take_succ_cons, List.map_cons, List.map_cons, List.sum_cons, List.sum_cons]
    omega
theorem sum_take_succ (g : List UInt8 → Nat) (vs : List (List UInt8)) {j : Nat} (hj : j < vs.length) : ((vs.take (j + 1)).map g).sum = ((vs.take j).map g).sum + g (vs.getD j []) := by
  rw [List.take_add_one, List.getElem?_eq_getElem hj, List.getD_eq_getElem?_getD, List.getElem?_eq_getElem hj, List.map_append, List.sum_append]
  simp
theorem has_ne {s : Sr} (hf : fm s = true) {k u : Tx} (h : Has s k u) : u ≠ ⟨#[]⟩ := by
  obtain ⟨i, hi, e⟩ := h
  intro hu
  unfold fm at hf
  simp only [Bool.and_eq_true, decide_eq_true_eq] at hf
  have := hf.2 i hi
  unfold tagOk at this
  simp only [Bool.and_eq_true] at this
  have h2 := this.1.2
  rw [e] at h2
  simp only at h2
  rw [hu] at h2
  exact absurd h2 (by decide)
set_option maxHeartbeats 8000000 in
theorem parts_law (w : World) (v : Value) (rs : List Sr) (key : Tx) (P : Nat → Prop) (h : Sl w P v rs) (hz : ∀ i, i < rs.length → (rs.getD i s0).1.size ≤ 140737488355328 ∧ (∀ x ∈ (rs.getD i s0).2, x.1.size ≤ 140737488355328 ∧ x.2.size ≤ 140737488355328) ∧ (rs.getD i s0).2.length ≤ 140737488355328) (hn : rs.length ≤ 3518437208883) (hk : key.size ≤ maxLen) :
    Calls Try.prog 3 #[v, .string key] w fun e w' => e = .returned (.bool true) ∧ Below w.heap.size w w' := by
  obtain ⟨va, vc, rfl⟩ := h.forms
  obtain ⟨n, hN⟩ : ∃ n, n = rs.length := ⟨_, rfl⟩
  have AW := Lib.hid (awake_i w)
  have NW := Lib.hid (fun (y : World) => new_i y)
  have HS := Lib.hid (show ∀ i, i < n → ∃ b off, va = some ⟨b, off, none⟩ ∧ n ≤ vc ∧ ∀ y, Below w.heap.size w y → ∃ a c, y.cell? ⟨b, off + i * 2, none⟩ = some (.string (rs.getD i s0).1) ∧ y.cell? ⟨b, off + i * 2 + 1, none⟩ = some (.slice a (rs.getD i s0).2.length c) ∧ In y (rs.getD i s0) (.slice a (rs.getD i s0).2.length c) ∧ (∀ q off l c', (Value.slice a (rs.getD i s0).2.length c) = .slice (some ⟨q, off, none⟩) l c' → 0 < l → q < w.heap.size) from fun i hi => by
    rcases h with ⟨a, c, e, rfl⟩ | ⟨b, off, c, e, h1, h2, h3, h4⟩
    · simp at hN; omega
    · cases e
      refine ⟨b, off, rfl, by omega, fun y hy => ?_⟩
      obtain ⟨a, c', k1, k2, k3, _⟩ := h4 i (by omega)
      obtain ⟨z1, z2, z3⟩ := hz i (by omega)
      have eb := hy.block b h2
      refine ⟨a, c', (World.cell?_of_block eb).trans k1, (World.cell?_of_block eb).trans k2, ⟨k3.below hy, z1, z2, z3⟩, fun q off l c'' e hl => ?_⟩
      rcases k3 with ⟨a', c3, e3, e4⟩ | ⟨b', off', c3, e3, _, l2, _⟩
      · rw [e] at e3; cases e3; omega
      · rw [e] at e3; cases e3; exact l2)
  rw [← hN] at hn ⊢
  have HK := Lib.hid hk
  have HNN := Lib.hid hN
  have hn9 : n ≤ 9223372036854775807 := by omega
  clear h hz hN hk
  go_enter Try.func3, Try.ntmps3
  go_upto_region 4 with (first
    | (go_at_call 4; refine AW.out.mono ?_; clear AW; rintro e w1 ⟨rfl, b1⟩; have B1 := Lib.hid b1; clear b1)
    | (go_at_call 5; refine (NW.out w1).mono ?_; clear NW; rintro e w2 ⟨x, rfl, i2, b2⟩; have I2 := Lib.hid i2; have B2 := Lib.hid b2; clear i2 b2))
  have BB := Lib.hid (B1.out.trans (B2.out.mono B1.out.size))
  go_wp2_with fail
  go_loopw [6, 21] (fun _ i wr => ∃ j : Nat, j ≤ n ∧ i = .int .i64 (j : Nat) ∧ Hid (∃ U, IX wr w1.heap.size (30 * j) x j U (Qj rs j) (fun _ _ => none) ∧ ∀ k, U k → w1.heap.size ≤ k) ∧ Hid (Below w1.heap.size w2 wr)) (fun _ i _ => n - (intOf i).toNat)
  case atStart => exact ⟨0, Nat.zero_le _, rfl, Lib.hid ⟨_, I2.out.ext (qj_zero rs), fun k hk => hk.1⟩, Lib.hid (Below.refl _ _)⟩
  case round =>
    obtain ⟨j, hj, rfl, HI, BW⟩ := hrel
    have BA := Lib.hid (show Below w.heap.size w wr from BB.out.trans (BW.out.mono B1.out.size))
    by_cases hjn : j < n
    case pos =>
      obtain ⟨b, off, rfl, hnc, hT⟩ := HS.out j hjn
      obtain ⟨a, c, x0, x1, hin, hout⟩ := hT wr BA.out
      obtain ⟨U, ix, hU⟩ := HI.out
      have AD := Lib.hid (add_i wr w1.heap.size (30 * j) x j U _ _ ix (Nat.le_trans B2.out.size BW.out.size) (rs.getD j s0) _ hin (by unfold maxLen; omega) (fun q off l c' e hl hq => by
        have := hout q off l c' e hl
        have := hU q hq
        have := B1.out.size
        omega))
      have QS := Lib.hid (qj_succ rs j)
      obtain ⟨⟨nm, L⟩, hS⟩ : ∃ S, S = rs.getD j s0 := ⟨_, rfl⟩
      rw [← hS] at x0 x1 AD QS
      simp only at x0 x1 AD QS
      obtain ⟨q, hq⟩ : ∃ q, q = L.length := ⟨_, rfl⟩
      rw [← hq] at x1 AD
      have HU := Lib.hid hU
      have hj0 : (0 : Int) ≤ (j : Int) := by omega
      obtain ⟨r1, hr1⟩ : ∃ r1, r1 = aok (Qj rs j) (nm, L) := ⟨_, rfl⟩
      obtain ⟨r2, hr2⟩ : ∃ r2, r2 = aerr (nm, L) := ⟨_, rfl⟩
      rw [← hr1, ← hr2] at AD
      have SW := Lib.hid (Nat.le_trans B2.out.size BW.out.size)
      clear hT hin hout ix hU hS hq hr1 hr2
      go_wp2_with (go_at_call 6; refine AD.out.mono ?_; clear AD; rintro e w3 ⟨rfl, i3, c3⟩; have I3 := Lib.hid i3; have C3 := Lib.hid c3; clear i3 c3)
      go_roundw
      case rel =>
        refine ⟨j + 1, by omega, by go_num, Lib.hid ⟨_, (I3.out.mono (by omega) (Nat.le_refl _)).ext QS.out, fun k hk => ?_⟩, Lib.hid (BW.out.trans (C3.out.below (fun k hk _ => HU.out k hk) SW.out))⟩
        rcases hk with hk | hk
        · exact HU.out k hk
        · exact Nat.le_trans SW.out hk.1
      case measure => simp [intOf]; omega
    obtain rfl : j = n := by omega
    clear hjn
    obtain ⟨U, ⟨A, C, ix, _, l, hl, hle⟩, hU⟩ := HI.out
    obtain ⟨Q, hQ⟩ : ∃ Q, Q = Qj rs j := ⟨_, rfl⟩
    rw [← hQ] at ix hle
    obtain ⟨W, hW⟩ : ∃ W, W = wr := ⟨_, rfl⟩
    have hm : l.length ≤ 3518437208883 := by omega
    have IXW := Lib.hid (fun (y : World) (b : Below W.heap.size W y) => ix.below (hW ▸ b))
    have LL := Lib.hid (show (∀ s, Q s → s ∈ l) ∧ l.length ≤ 3518437208883 from ⟨hle, hm⟩)
    have FM := Lib.hid ix.fm
    have AX := Lib.hid (fun nm => all_ex ix nm)
    have NM := Lib.hid (names_i wr w1.heap.size _ x A C Q _ ix l hle hm)
    have BW2 := Lib.hid (hW ▸ BA.out)
    clear ix hle hl hm hU hQ HI BW
    rw [← hW] at NM
    have HWW := Lib.hid hW
    have BAW := Lib.hid (show Below w.heap.size w W from hW ▸ BA.out)
    clear BW2 BA
    subst hW
    clear HWW
    go_upto_region 10 with (go_at_call 7; refine NM.out.mono ?_; clear NM; rintro e w4 ⟨ns, nv, rfl, nsP, nr, b4⟩; have NSP := Lib.hid nsP; have NR := Lib.hid nr; have B4 := Lib.hid b4; clear nsP nr b4)
    have TL := Lib.hid (tl_own NR.out)
    obtain ⟨na, nc, rfl, hng⟩ := TL.out.get
    obtain ⟨m, hm⟩ : ∃ m, m = ns.length := ⟨_, rfl⟩
    rw [← hm] at hng
    have NG := Lib.hid hng
    have HM := Lib.hid hm
    have NLE := Lib.hid (show m ≤ 3518437208883 from by
      rw [hm]
      exact Nat.le_trans (ns_len NSP.out l (fun s => s.1) (fun u ⟨s, a, b⟩ => ⟨s, LL.out.1 s a, b⟩)) LL.out.2)
    have hm9 : m ≤ 9223372036854775807 := by have := NLE.out; omega
    rw [← hm]
    clear hng hm
    go_wp2_with fail
    go_loopw [8, 9, 10, 11, 12, 13, 14, 15, 35] (fun _ _ _ _ _ _ _ _ i wr => ∃ p : Nat, p ≤ m ∧ i = .int .i64 (p : Nat) ∧ Hid (Below w4.heap.size w4 wr)) (fun _ _ _ _ _ _ _ _ i _ => m - (intOf i).toNat)
    case atStart => exact ⟨0, Nat.zero_le _, rfl, Lib.hid (Below.refl _ _)⟩
    case round =>
      obtain ⟨p, hp, rfl, BP⟩ := hrel
      have B4P := Lib.hid (show Below W.heap.size W wr from B4.out.trans (BP.out.mono B4.out.size))
      by_cases hpm : p < m
      case neg =>
        obtain rfl : p = m := by omega
        clear hpm
        go_wp2_with fail
        go_ret
        exact ⟨rfl, BAW.out.trans (B4P.out.mono BAW.out.size)⟩
      obtain ⟨nb, no, rfl, hnc2, _, hcell⟩ := NG.out p hpm
      obtain ⟨nm, hnm⟩ : ∃ nm, nm = ba (ns.getD p []) := ⟨_, rfl⟩
      have CELL := Lib.hid (show ∀ y, Below w4.heap.size w4 y → y.cell? ⟨nb, no + p, none⟩ = some (.string nm) from fun y b => by rw [hnm]; exact hcell y b)
      have NX := Lib.hid (show (∃ s, Q s ∧ s.1 = nm) ∧ nm.size ≤ maxLen from by
        have hmem : ns.getD p [] ∈ ns := by rw [List.getD_eq_getElem?_getD, List.getElem?_eq_getElem (by rw [← HM.out]; exact hpm)]; exact List.getElem_mem _
        obtain ⟨u, ⟨s, a, b⟩, e⟩ := (NSP.out.2 _).1 hmem
        have e2 : nm = u := by rw [hnm, ← e]; exact ba_bl u
        refine ⟨⟨s, a, b.trans e2.symm⟩, ?_⟩
        have := (fm_size (FM.out s a)).1
        rw [e2, ← b]
        unfold maxLen; omega)
      have x0 := CELL.out wr BP.out
      have hp0 : (0 : Int) ≤ (p : Int) := by omega
      obtain ⟨all, hall⟩ := AX.out nm
      have ALL := Lib.hid hall
      have ALE := Lib.hid (show all.length ≤ 3518437208883 from Nat.le_trans (tn_len hall l (fun s hs => LL.out.1 s hs.1)) LL.out.2)
      have WN := Lib.hid (with_no wr w1.heap.size _ x A C Q _ (IXW.out wr B4P.out) nm key NX.out.2 l LL.out.1 LL.out.2)
      clear hnm hcell hall
      go_upto_region 14 with (go_at_call 8; refine WN.out.mono ?_; clear WN; rintro e w5 ⟨noS, v5, rfl, t5, s5, b5⟩; have T5 := Lib.hid t5; have B5 := Lib.hid b5; (obtain ⟨a5, c5, rfl⟩ := s5.forms); rw [rsOf_len]; clear t5 s5 b5)
      have B5W := Lib.hid (show Below W.heap.size W w5 from B4P.out.trans (B5.out.mono B4P.out.size))
      have BP5 := Lib.hid (show Below w4.heap.size w4 w5 from BP.out.trans (B5.out.mono BP.out.size))
      have VA := Lib.hid (values_i w5 w1.heap.size _ x A C Q _ (IXW.out w5 B5W.out) nm key NX.out.2 HK.out l LL.out.1 LL.out.2)
      have x1 := CELL.out w5 BP5.out
      clear x0
      obtain ⟨z0, hz0⟩ : ∃ z0, z0 = noS.length := ⟨_, rfl⟩
      rw [← hz0]
      have HZ0 := Lib.hid hz0
      clear hz0
      go_upto_region 15 with (go_at_call 9; refine VA.out.mono ?_; clear VA; rintro e w6 ⟨vs, v6, rfl, t6, o6, b6⟩; have T6 := Lib.hid t6; have O6 := Lib.hid o6; have B6 := Lib.hid b6; clear t6 o6 b6)
      have TV := Lib.hid (tl_own O6.out)
      obtain ⟨wa, wc, rfl, hvg⟩ := TV.out.get
      obtain ⟨t, ht⟩ : ∃ t, t = vs.length := ⟨_, rfl⟩
      rw [← ht] at hvg
      have VG := Lib.hid hvg
      have HT := Lib.hid ht
      rw [← ht]
      obtain ⟨g, hg⟩ : ∃ g : List UInt8 → Nat, g = fun y => cnt (rsOf all) (fun s => decide (tgf s.2 key = (ba y, true))) := ⟨_, rfl⟩
      have HG := Lib.hid (show ∀ y ms, Tn (fun s => Q s ∧ s.1 = nm ∧ Has s key (ba y)) ms → ms.length = g y from fun y ms hms => by
        rw [hg]
        refine len_of ALL.out hms _ fun s => ?_
        rw [decide_eq_true_eq]
        exact ⟨fun ⟨a, b, c⟩ => ⟨⟨a, b⟩, (tgf_has (FM.out s a) key _).1 c⟩, fun ⟨⟨a, b⟩, c⟩ => ⟨a, b, (tgf_has (FM.out s a) key _).2 c⟩⟩)
      have EX := Lib.hid (show ∀ y ∈ vs, ∃ ms, Tn (fun s => Q s ∧ s.1 = nm ∧ Has s key (ba y)) ms from fun y _ => by
        refine ⟨all.filter (fun q => decide (tgf ((rd q).getD s0).2 key = (ba y, true))), ALL.out.1.filter _, fun q => ?_⟩
        rw [List.mem_filter, ALL.out.2 q]
        constructor
        · rintro ⟨⟨s, ⟨a, b⟩, rfl⟩, c⟩
          rw [rd_of] at c
          exact ⟨s, ⟨a, b, (tgf_has (FM.out s a) key _).2 (of_decide_eq_true c)⟩, rfl⟩
        · rintro ⟨s, ⟨a, b, c⟩, rfl⟩
          exact ⟨⟨s, ⟨a, b⟩, rfl⟩, by rw [rd_of]; exact decide_eq_true ((tgf_has (FM.out s a) key _).1 c)⟩)
      have SUM := Lib.hid (show z0 + (vs.map g).sum = all.length from by
        rw [HZ0.out]
        exact law_sum FM.out ALL.out T5.out T6.out g (fun y hy => by
          obtain ⟨ms, h⟩ := EX.out y hy
          exact ⟨ms, h, HG.out y ms h⟩))
      have ht9 : t ≤ 9223372036854775807 := by
        rw [ht]
        have h1 := ns_len T6.out l (fun s => (tgf s.2 key).1) (fun u ⟨s, a, b, c⟩ => ⟨s, LL.out.1 s a, by rw [(tgf_has (FM.out s a) key u).1 c]⟩)
        have := LL.out.2
        omega
      have B6W := Lib.hid (show Below W.heap.size W w6 from B5W.out.trans (B6.out.mono B5W.out.size))
      have BP6 := Lib.hid (show Below w4.heap.size w4 w6 from BP5.out.trans (B6.out.mono BP5.out.size))
      clear hvg ht hg x1
      go_wp2_with fail
      go_loopw [9, 11, 12, 13, 14, 15, 55] (fun q _ _ _ _ _ i wr => ∃ j2 : Nat, j2 ≤ t ∧ i = .int .i64 (j2 : Nat) ∧ q = .int .i64 ((z0 + ((vs.take j2).map g).sum : Nat) : Int) ∧ Hid (Below w6.heap.size w6 wr)) (fun _ _ _ _ _ _ i _ => t - (intOf i).toNat)
      case atStart => exact ⟨0, Nat.zero_le _, rfl, by simp, Lib.hid (Below.refl _ _)⟩
      case round =>
        obtain ⟨j2, hj2, rfl, rfl, BV⟩ := hrel
        have BVW := Lib.hid (show Below W.heap.size W wr from B6W.out.trans (BV.out.mono B6W.out.size))
        have BVP := Lib.hid (show Below w4.heap.size w4 wr from BP6.out.trans (BV.out.mono BP6.out.size))
        have x2 := CELL.out wr BVP.out
        have SLE := Lib.hid (sum_take_le g vs j2)
        obtain ⟨S, hS⟩ : ∃ S, S = z0 + ((vs.take j2).map g).sum := ⟨_, rfl⟩
        rw [← hS]
        have HSS := Lib.hid hS
        clear hS
        by_cases hjt : j2 < t
        case neg =>
          obtain rfl : j2 = t := by omega
          have SE2 := Lib.hid (show S = all.length from by
            have := SUM.out
            rw [HSS.out, List.take_of_length_le (by rw [← HT.out]; exact Nat.le_refl _)]; exact this)
          have AI := Lib.hid (all_i wr w1.heap.size _ x A C Q _ (IXW.out wr BVW.out) nm NX.out.2 l LL.out.1 LL.out.2)
          have POS := Lib.hid (show 0 < S from by
            rw [SE2.out]
            obtain ⟨⟨s, a, b⟩, _⟩ := NX.out
            exact List.length_pos_of_mem ((ALL.out.2 (txt s)).2 ⟨s, ⟨a, b⟩, rfl⟩))
          have hS0 : ((S : Int) == 0) = false := by have := POS.out; simp; omega
          have hSS : ((S : Int) != (S : Int)) = false := by simp
          clear hjt
          go_wp2_with (go_at_call 11; refine AI.out.mono ?_; clear AI; rintro e w7 ⟨all2, v7, rfl, t7, s7, b7⟩; have B7 := Lib.hid b7; (obtain ⟨a7, c7, rfl⟩ := s7.forms); rw [rsOf_len, tn_uniq t7 ALL.out, ← SE2.out]; clear t7 s7 b7)
          go_roundw
          case rel => exact ⟨p + 1, by omega, by go_num, Lib.hid (BVP.out.trans (B7.out.mono BVP.out.size))⟩
          case measure => simp [intOf]; omega
        obtain ⟨vb, vo, rfl, hvc2, _, hvcell⟩ := VG.out j2 hjt
        obtain ⟨u, hu⟩ : ∃ u, u = ba (vs.getD j2 []) := ⟨_, rfl⟩
        have VCELL := Lib.hid (show ∀ y, Below w6.heap.size w6 y → y.cell? ⟨vb, vo + j2, none⟩ = some (.string u) from fun y b => by rw [hu]; exact hvcell y b)
        have y2 := VCELL.out wr BV.out
        have hmem : vs.getD j2 [] ∈ vs := by rw [List.getD_eq_getElem?_getD, List.getElem?_eq_getElem (by rw [← HT.out]; exact hjt)]; exact List.getElem_mem _
        have UX := Lib.hid (show u ≠ ⟨#[]⟩ ∧ u.size ≤ maxLen from by
          obtain ⟨u', ⟨s, a, b, c⟩, e⟩ := (T6.out.2 _).1 hmem
          have e2 : u = u' := by rw [hu, ← e]; exact ba_bl u'
          refine ⟨by rw [e2]; exact has_ne (FM.out s a) c, ?_⟩
          obtain ⟨i, hi, e3⟩ := c
          have := ((fm_size (FM.out s a)).2.2.2 i hi).2
          rw [e3] at this
          rw [e2]
          have h3 : u'.size ≤ 64 := this
          unfold maxLen; omega)
        have GU := Lib.hid (show ∀ ms, Tn (fun s => Q s ∧ s.1 = nm ∧ Has s key u) ms → z0 + ((vs.take (j2 + 1)).map g).sum = S + ms.length ∧ S + ms.length ≤ 3518437208883 from fun ms hms => by
          have h1 := sum_take_succ g vs (j := j2) (by rw [← HT.out]; exact hjt)
          have h2 := HG.out (vs.getD j2 []) ms (by rw [← hu]; exact hms)
          have h3 := sum_take_le g vs (j2 + 1)
          have h4 := SUM.out
          have h5 := ALE.out
          have h6 := HSS.out
          omega)
        have WY := Lib.hid (with_yes wr.drew w1.heap.size _ x A C Q _ ((IXW.out wr BVW.out).below (Below.refl _ wr).drew) nm key u NX.out.2 HK.out UX.out.2 UX.out.1 l LL.out.1 LL.out.2)
        have k0 : wr.drew.cell? ⟨nb, no + p, none⟩ = some (.string nm) ∧ wr.drew.cell? ⟨vb, vo + j2, none⟩ = some (.string u) := ⟨x2, y2⟩
        have KK := Lib.hid (show ∀ y, Below wr.heap.size wr y → y.cell? ⟨nb, no + p, none⟩ = some (.string nm) ∧ y.cell? ⟨vb, vo + j2, none⟩ = some (.string u) from fun y b => ⟨CELL.out y (BVP.out.trans (b.mono BVP.out.size)), VCELL.out y (BV.out.trans (b.mono BV.out.size))⟩)
        have hj20 : (0 : Int) ≤ (j2 : Int) := by omega
        have DW := Lib.hid (show Below wr.heap.size wr wr.drew from (Below.refl _ wr).drew)
        clear hu hvcell hmem
        go_upto_region 18 with (fail)
        go_region_held (fun z => z.cell? ⟨nb, no + p, none⟩ = some (.string nm) ∧ z.cell? ⟨vb, vo + j2, none⟩ = some (.string u))
          (first | exact k0 | exact k1)
          (first | (go_at_call 8; refine WY.out.mono ?_; clear WY; rintro e w8 ⟨ms, v8, rfl, t8, s8, b8⟩; have T8 := Lib.hid t8; have S8 := Lib.hid s8; have B8 := Lib.hid (DW.out.trans b8); have k1 := KK.out w8 B8.out; (obtain ⟨a8, c8, rfl⟩ := s8.forms); rw [rsOf_len]; clear t8 s8 b8))
        obtain ⟨q, hq⟩ : ∃ q, q = ms.length := ⟨_, rfl⟩
        rw [← hq]
        have HQ := Lib.hid hq
        have SG := Lib.hid (show ∀ i, i < q → ∃ b off, a8 = some ⟨b, off, none⟩ ∧ q ≤ c8 ∧ ∀ y, Below w8.heap.size w8 y → ∃ a c L, y.cell? ⟨b, off + i * 2, none⟩ = some (.string nm) ∧ y.cell? ⟨b, off + i * 2 + 1, none⟩ = some (.slice a (List.length L) c) ∧ Ti y (.slice a L.length c) L ∧ tgf L key = (u, true) ∧ L.length ≤ 8 from fun i hi => by
          have hi2 : i < ms.length := by rw [← HQ.out]; exact hi
          obtain ⟨s, ⟨p1, p2, p3⟩, e1, e2⟩ := rsOf_get T8.out hi2
          rcases S8.out with ⟨a, c, e, e'⟩ | ⟨b, off, c, e, h1, h2, _, h4⟩
          · rw [← rsOf_len, e'] at hi2; simp at hi2
          · cases e
            refine ⟨b, off, rfl, by rw [HQ.out, ← rsOf_len]; exact h1, fun y hy => ?_⟩
            obtain ⟨a, c', k1, k2, k3, _⟩ := h4 i (by rw [rsOf_len]; exact hi2)
            rw [e2] at k1 k2 k3
            have eb := hy.block b h2
            exact ⟨a, c', s.2, by rw [← p2]; exact (World.cell?_of_block eb).trans k1, (World.cell?_of_block eb).trans k2, k3.below hy, (tgf_has (FM.out s p1) key u).1 p3, (fm_size (FM.out s p1)).2.2.1⟩)
        have hq9 : q ≤ 9223372036854775807 := by
          have := (GU.out ms T8.out).2
          omega
        have B8W := Lib.hid (show Below w6.heap.size w6 w8 from BV.out.trans (B8.out.mono BV.out.size))
        clear k0 k1 hq x2 y2
        go_wp2_with fail
        go_loopw [13, 14, 15, 71] (fun _ _ _ i wz => ∃ j3 : Nat, j3 ≤ q ∧ i = .int .i64 (j3 : Nat) ∧ Hid (Below w8.heap.size w8 wz)) (fun _ _ _ i _ => q - (intOf i).toNat)
        case atStart => exact ⟨0, Nat.zero_le _, rfl, Lib.hid (Below.refl _ _)⟩
        case round =>
          obtain ⟨j3, hj3, rfl, BZ⟩ := hrel
          have B6Z := Lib.hid (show Below w6.heap.size w6 wr from B8W.out.trans (BZ.out.mono B8W.out.size))
          by_cases hjq : j3 < q
          case neg =>
            obtain rfl : j3 = q := by omega
            have G2 := Lib.hid (GU.out ms T8.out)
            rw [← HQ.out] at G2
            have hS9 : S + j3 ≤ 9223372036854775807 := by have := G2.out.2; omega
            clear hjq
            go_wp2_with fail
            go_roundw
            case rel => exact ⟨j2 + 1, by omega, by go_num, by rw [G2.out.1]; first | rfl | go_num | (congr 1), B6Z⟩
            case measure => simp [intOf]; omega
          obtain ⟨sb, so, rfl, hsc, hsT⟩ := SG.out j3 hjq
          obtain ⟨ta, tc, L, x4, x5, ti, e1, l8⟩ := hsT wr BZ.out
          have KZ := Lib.hid (show ∀ y, Below wr.heap.size wr y → (y.cell? ⟨nb, no + p, none⟩ = some (.string nm) ∧ y.cell? ⟨vb, vo + j2, none⟩ = some (.string u)) ∧ y.cell? ⟨sb, so + j3 * 2, none⟩ = some (.string nm) from fun y b => by
            refine ⟨⟨CELL.out y ((BP6.out.trans (B6Z.out.mono BP6.out.size)).trans (b.mono (Nat.le_trans BP6.out.size B6Z.out.size))), VCELL.out y (B6Z.out.trans (b.mono B6Z.out.size))⟩, (b.cell (p := ⟨sb, so + j3 * 2, none⟩) (cell_lt x4)).trans x4⟩)
          have TG := Lib.hid (tag19 wr nm key (.slice ta L.length tc) L ti (by omega))
          rw [e1] at TG
          simp only at TG
          obtain ⟨lq, hlq⟩ : ∃ lq, lq = L.length := ⟨_, rfl⟩
          rw [← hlq] at TG x5
          have hj30 : (0 : Int) ≤ (j3 : Int) := by omega
          clear hsT ti e1 l8 hlq
          go_upto_region 23 with (go_at_call 10; refine TG.out.mono ?_; clear TG; rintro e w9 ⟨rfl, b9⟩; have B9 := Lib.hid b9; (obtain ⟨⟨f1, f2⟩, f3⟩ := KZ.out w9 b9); clear b9)
          clear x4 x5
          go_quiet (fail)
          go_wp2_with fail
          go_roundw
          case rel => exact ⟨j3 + 1, by omega, by go_num, Lib.hid (Kb.bdn (BZ.out.trans (B9.out.mono BZ.out.size)) _)⟩
          case measure => simp [intOf]; omega
end Ku
end Go.Proofs.Ytalanjhpacjmmaa
