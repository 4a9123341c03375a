/- A series laid in a group. -/
import Derived.Test.YtalanjhpacjmmaaGreatKh
import Derived.Deep.RegionHeldLaw
namespace Go.Proofs.YtalanjhpacjmmaaGreat
set_option maxRecDepth 100000
open Go.RowKit Go.Maps Go.ChangeMaps Go.MapKept Go.Sort Go.Shelf
namespace Ki
open Jb Ka Kb Kc Kd Kf Kg Kh Sa Sb

theorem Lk.ext {A : As} {C : Cs} {P P' : Tags} (h : Lk A C P) (e : ∀ n k v t, P n k v t ↔ P' n k v t) : Lk A C P' := by
  have : P = P' := by funext n k v t; exact propext (e n k v t)
  rw [← this]; exact h
/-- The first j tags of L under the text t of the name n. -/
def tagsTo (P : Tags) (n t : Tx) (L : List Tg) (j : Nat) : Tags := fun n' k' v' t' => P n' k' v' t' ∨ (n' = n ∧ t' = t ∧ ∃ i, i < j ∧ L.getD i t0 = (k', v'))
theorem tagsTo_zero {P : Tags} {n t : Tx} {L : List Tg} : ∀ n' k' v' t', P n' k' v' t' ↔ tagsTo P n t L 0 n' k' v' t' := fun n' k' v' t' => ⟨.inl, fun h => h.resolve_right (fun ⟨_, _, i, hi, _⟩ => by omega)⟩
theorem tagsTo_succ {P : Tags} {n t : Tx} {L : List Tg} {j : Nat} {k v : Tx} (e : L.getD j t0 = (k, v)) : ∀ n' k' v' t', addP (tagsTo P n t L j) n k v t n' k' v' t' ↔ tagsTo P n t L (j + 1) n' k' v' t' := fun n' k' v' t' => by
  constructor
  · rintro ((h | ⟨a, b, i, hi, h⟩) | ⟨rfl, rfl, rfl, rfl⟩)
    · exact .inl h
    · exact .inr ⟨a, b, i, by omega, h⟩
    · exact .inr ⟨rfl, rfl, j, by omega, e⟩
  · rintro (h | ⟨a, b, i, hi, h⟩)
    · exact .inl (.inl h)
    · by_cases hij : i = j
      · subst hij
        rw [e] at h
        cases h
        exact .inr ⟨a, rfl, rfl, b⟩
      · exact .inl (.inr ⟨a, b, i, by omega, h⟩)
/-- What a series that is laid in its group leaves. -/
structure Laid (w w' : World) (B N : Nat) (A A' : As) (C C' : Cs) (P : Tags) (n t : Tx) (sv : Value) : Prop where
  mem : Mem w' B N A' C'
  own : Own w w' A A'
  lk : Lk A' C' P
  idx : A' .idx = A .idx
  grp : ∀ m, A' (.grp m) = A (.grp m)
  fb : ∀ m, A' (.fb m) = A (.fb m)
  tg : ∀ m x, A' (.tg m x) = A (.tg m x)
  G : C' .G = C .G
  K : C' .K = C .K
  S : C' (.S n) = upd (C (.S n)) t (some sv)
  So : ∀ m, m ≠ n → C' (.S m) = C (.S m)
  F : ∀ m, C' (.F m) = C (.F m)
theorem Laid.step {w w1 w2 : World} {B N : Nat} {A A1 A2 : As} {C C1 C2 : Cs} {P P' : Tags} {n t k v : Tx} {sv : Value} (h : Laid w w1 B N A A1 C C1 P n t sv) (a : Added w1 w2 B N A1 A2 C1 C2 P n k v t) (e : ∀ n' k' v' t', addP P n k v t n' k' v' t' ↔ P' n' k' v' t') :
    Laid w w2 B (N + 3) A A2 C C2 P' n t sv :=
  ⟨a.mem, h.own.trans a.own, Lk.ext a.lk e, a.idx.trans h.idx, fun m => (a.grp m).trans (h.grp m), fun m => (a.fb m).trans (h.fb m), fun m x => (a.tg m x).trans (h.tg m x), a.G.trans h.G, a.K.trans h.K, (a.S n).trans h.S, fun m hm => (a.S m).trans (h.So m hm), fun m => (a.F m).trans (h.F m)⟩
theorem Laid.below {w w1 w2 : World} {B N : Nat} {A A1 : As} {C C1 : Cs} {P : Tags} {n t : Tx} {sv : Value} (h : Laid w w1 B N A A1 C C1 P n t sv) (b : Below w1.heap.size w1 w2) : Laid w w2 B N A A1 C C1 P n t sv :=
  ⟨h.mem.below b, h.own.trans (Own.below b), h.lk, h.idx, h.grp, h.fb, h.tg, h.G, h.K, h.S, h.So, h.F⟩
theorem laid_start {w w' : World} {B N g : Nat} {A : As} {C : Cs} {P : Tags} {n t : Tx} {sv : Value} {mo' : Option Nat} (h : Mem w B N A C) (l : Lk A C P) (hB : B ≤ w.heap.size) (hg : A (.grp n) = some g) (tn : Turn w w' g 0 (A (.mp (.S n))) mo' (N + 1) (upd (C (.S n)) t (some sv))) :
    Laid w w' B (N + 1) A (setA A (.mp (.S n)) mo') C (setC C (.S n) (upd (C (.S n)) t (some sv))) P n t sv := by
  refine ⟨h.turn (β := .S n) hg tn (by omega) hB, own_turn (β := .S n) hg tn, ⟨fun n' k' hn => ?_, fun n' k' v' hn => ?_, fun n' k' v' t' hn => ?_, fun n' k' => ?_, fun n' k' v' => ?_, fun n' k' v' t' hp => ?_⟩, setA_other (by simp), fun m => setA_other (by simp), fun m => setA_other (by simp), fun m x => setA_other (by simp), setC_other (by simp), setC_other (by simp), setC_same _ _ _, fun m hm => setC_other (by simpa using hm), fun m => setC_other (by simp)⟩
  · rw [setA_other (by simp)] at hn ⊢; rw [setC_other (by simp)]; exact l.T n' k' hn
  · rw [setA_other (by simp)] at hn ⊢; rw [setC_other (by simp)]; exact l.V n' k' v' hn
  · rw [setA_other (by simp)] at hn; rw [setC_other (by simp)]; exact l.X n' k' v' t' hn
  · rw [setA_other (by simp)]; exact l.hv n' k'
  · rw [setA_other (by simp)]; exact l.hx n' k' v'
  · rw [setA_other (by simp)]; exact l.hg n' k' v' t' hp
/-- A slice of tags, in a block that is none of the index'. -/
def TiO (w : World) (A : As) (v : Value) (L : List Tg) : Prop := Ti w v L ∧ ∀ b off L' c, v = .slice (some ⟨b, off, none⟩) L' c → 0 < L' → (∀ r, A r ≠ some b)
theorem TiO.own {w w' : World} {A A' : As} {v : Value} {L : List Tg} (h : TiO w A v L) (o : Own w w' A A') : TiO w' A' v L := by
  obtain ⟨h, hn⟩ := h
  rcases h with ⟨a, c, rfl, rfl⟩ | ⟨b, off, c, rfl, h1, h2, h3⟩
  · exact ⟨.inl ⟨a, c, rfl, rfl⟩, fun b off L' c e hL => by cases e; omega⟩
  · by_cases hL : 0 < L.length
    · have hb : ∀ r, A r ≠ some b := hn b off L.length c rfl hL
      have eb := o.1.block b h2 (fun ⟨r, _, hr⟩ => hb r hr)
      refine ⟨.inr ⟨b, off, c, rfl, h1, Nat.lt_of_lt_of_le h2 o.1.size, fun i hi => (h3 i hi).of_block eb⟩, fun b' off' L' c' e hL' r hr => ?_⟩
      cases e
      rcases o.2 r b hr with e | e
      · exact hb r e
      · omega
    · have : L = [] := List.length_eq_zero_iff.1 (by omega)
      subst this
      exact ⟨.inl ⟨_, _, rfl, rfl⟩, fun b off L' c e hL => by cases e; simp at hL⟩
set_option maxHeartbeats 4000000 in
theorem add_g (w : World) (B N g : Nat) (A : As) (C : Cs) (P : Tags) (n t nm : Tx) (a : Option Addr) (c : Nat) (L : List Tg) (h : Mem w B N A C) (l : Lk A C P) (hB : B ≤ w.heap.size) (hg : A (.grp n) = some g) (ht : t.size ≤ maxLen) (hT : TiO w A (.slice a L.length c) L)
    (hz : ∀ i, i < L.length → (L.getD i t0).1.size ≤ maxLen ∧ (L.getD i t0).2.size ≤ maxLen) (hL : L.length ≤ 140737488355328) (hN : N + 4 * L.length + 4 < maxLen) :
    Calls Tryz.prog 40 #[.pointer (some ⟨g, 0, none⟩), .string t, .agg #[.string nm, .slice a L.length c]] w fun e w' => e = .returned (.tuple #[]) ∧ ∃ A' C', Laid w w' B (N + 1 + 3 * L.length) A A' C C' (tagsTo P n t L L.length) n t (.agg #[.string nm, .slice a L.length c]) := by
  obtain ⟨W, hW⟩ : ∃ W, W = w.alloc (.cells #[.string nm, .slice a L.length c] 30) := ⟨_, rfl⟩
  obtain ⟨x, hx⟩ : ∃ x, x = w.heap.size := ⟨_, rfl⟩
  have bW : Below w.heap.size w W := by rw [hW]; exact (Below.refl _ w).alloc (Nat.le_refl _) _
  have bWd : Below w.heap.size w W.drew := ⟨bW.os, bW.tape, bW.output, bW.size, bW.block⟩
  have y0 : W.cell? ⟨x, 0, none⟩ = some (.string nm) := by rw [hW, hx]; exact new_cell _ _ _ 0 _ rfl
  have y1 : W.cell? ⟨x, 1, none⟩ = some (.slice a L.length c) := by rw [hW, hx]; exact new_cell _ _ _ 1 _ rfl
  obtain ⟨m, hm⟩ : ∃ m, m = L.length := ⟨_, rfl⟩
  rw [← hm] at hW y1 hT hz hL hN ⊢
  obtain ⟨SV, hSV⟩ : ∃ SV, SV = (Value.agg #[.string nm, .slice a m c]) := ⟨_, rfl⟩
  have PS := Lib.hid (fun (W' : World) (b' : Below w.heap.size w W') => put_S W' g N _ _ ((h.below b').bk (.S n) g hg) t ht (by omega) nm a m c)
  have XL := Lib.hid (fun (W' : World) (b' : Below w.heap.size w W') => (show ∀ mo' w', Turn W' w' g 0 (A (.mp (.S n))) mo' (N + 1) (upd (C (.S n)) t (some SV)) → Laid w w' B (N + 1) A (setA A (.mp (.S n)) mo') C (setC C (.S n) (upd (C (.S n)) t (some SV))) P n t SV from fun mo' w' T =>
    laid_start h l hB hg (Turn.pre b' T ((h.lt _ g hg).2))))
  have XK := Lib.hid (show ∀ mo' F w', Turn W.drew w' g 0 (A (.mp (.S n))) mo' (N + 1) F → w'.cell? ⟨x, 0, none⟩ = some (.string nm) ∧ w'.cell? ⟨x, 1, none⟩ = some (.slice a m c) from fun mo' F w' T => by
    have eb : w'.heap[x]? = W.heap[x]? := T.chg.block x (show x < W.heap.size from cell_lt y0) (fun e => by
      rcases e with e | e
      · have := (h.lt _ g hg).2; omega
      · have := (h.lt _ x e).2; omega)
    exact ⟨(World.cell?_of_block eb).trans y0, (World.cell?_of_block eb).trans y1⟩)
  have BWD := Lib.hid bWd
  have HT := Lib.hid hT
  have HZ := Lib.hid hz
  have HM := Lib.hid hm
  have HN := Lib.hid hN
  have HG := Lib.hid hg
  have HTS := Lib.hid ht
  have HBS := Lib.hid hB
  have HS := Lib.hid hSV
  have y0d : W.drew.cell? ⟨x, 0, none⟩ = some (.string nm) := y0
  have y1d : W.drew.cell? ⟨x, 1, none⟩ = some (.slice a m c) := y1
  clear h l hB hg ht hT hz bWd bW hN hSV hm
  go_enter Tryz.func40, Tryz.ntmps40
  go_upto_region 1 with (fail)
  rw [← hW, ← hx]
  clear hW hx
  have P1 := Lib.hid (PS.out _ BWD.out)
  go_region_held (fun z => z.cell? ⟨x, 0, none⟩ = some (.string nm) ∧ z.cell? ⟨x, 1, none⟩ = some (.slice a m c))
    (first | exact ⟨y0d, y1d⟩ | exact K1)
    (first | (go_at_call 71; refine P1.out.mono ?_; clear P1; rintro e w1 ⟨rfl, mo', T⟩; have K1 := XK.out _ _ _ T; have LA := Lib.hid (XL.out _ BWD.out mo' w1 (HS.out ▸ T)); clear T))
  rename_i hHeld
  clear hHeld
  obtain ⟨k0, k1⟩ := K1
  go_wp2_with fail
  clear k0 k1 y0 y1 y0d y1d
  go_loopw [7, 17] (fun _ i wr => ∃ j : Nat, j ≤ m ∧ i = .int .i64 (j : Nat) ∧ ∃ A' C', Hid (Laid w wr B (N + 1 + 3 * j) A A' C C' (tagsTo P n t L j) n t SV)) (fun _ i _ => m - (intOf i).toNat)
  case atStart => exact ⟨0, Nat.zero_le _, rfl, _, _, Lib.hid (by
    have := LA.out
    exact ⟨this.mem, this.own, Lk.ext this.lk tagsTo_zero, this.idx, this.grp, this.fb, this.tg, this.G, this.K, this.S, this.So, this.F⟩)⟩
  case round =>
    obtain ⟨j, hj, rfl, A', C', HL⟩ := hrel
    by_cases hjm : j < m
    case neg =>
      obtain rfl : j = m := by omega
      clear hjm
      go_wp2_with fail
      go_end0
      exact ⟨rfl, A', C', by have := HL.out; rw [HS.out] at this; exact this⟩
    have tio := HT.out.own HL.out.own
    obtain ⟨a', c', e1, hget⟩ := tio.1.get
    obtain ⟨tb, off, rfl, hnc, htb, hat⟩ := hget j (by rw [← HM.out]; exact hjm)
    cases e1
    obtain ⟨⟨ka, va⟩, hkv⟩ : ∃ q, q = L.getD j t0 := ⟨_, rfl⟩
    obtain ⟨x0, x1⟩ := hat wr (Below.refl _ _)
    obtain ⟨zk, zv⟩ := HZ.out j hjm
    rw [← hkv] at x0 x1 zk zv
    simp only at x0 x1 zk zv
    have HKV := Lib.hid hkv
    have hj0 : (0 : Int) ≤ (j : Int) := by omega
    rw [← HM.out] at hnc
    clear hkv hget hat tio htb
    go_upto_region 5 with (fail)
    obtain ⟨wa, hwa⟩ : ∃ wa, wa = wr.alloc (.cells #[.string ka, .string va] 36) := ⟨_, rfl⟩
    obtain ⟨y, hy⟩ : ∃ y, y = wr.heap.size := ⟨_, rfl⟩
    have bwa : Below wr.heap.size wr wa.drew := by
      have : Below wr.heap.size wr wa := by rw [hwa]; exact (Below.refl _ wr).alloc (Nat.le_refl _) _
      exact ⟨this.os, this.tape, this.output, this.size, this.block⟩
    have LW := Lib.hid (HL.out.below bwa)
    have hy0 : wa.cell? ⟨y, 0, none⟩ = some (.string ka) := by rw [hwa, hy]; exact new_cell _ _ _ 0 _ rfl
    have hy1 : wa.cell? ⟨y, 1, none⟩ = some (.string va) := by rw [hwa, hy]; exact new_cell _ _ _ 1 _ rfl
    have KY := Lib.hid (show ∀ v A'', Own wa.drew v A' A'' → v.cell? ⟨y, 0, none⟩ = some (.string ka) ∧ v.cell? ⟨y, 1, none⟩ = some (.string va) from fun v A'' o => by
      have eb : v.heap[y]? = wa.heap[y]? := o.1.block y (show y < wa.heap.size from cell_lt hy0) (fun ⟨r, _, hr⟩ => by
        have := (HL.out.mem.lt r y hr).2; omega)
      exact ⟨(World.cell?_of_block eb).trans hy0, (World.cell?_of_block eb).trans hy1⟩)
    have k0 := KY.out wa.drew A' (Own.refl _ _)
    rw [← hwa, ← hy]
    have SB := Lib.hid (show B ≤ wa.drew.heap.size from Nat.le_trans HBS.out LW.out.own.1.size)
    have NN := Lib.hid (show N + 1 + 3 * j + 3 < maxLen by have := HN.out; omega)
    have GR := Lib.hid (show A' (.grp n) = some g from (LW.out.grp n).trans HG.out)
    have UV := Lib.hid (under_V wa.drew B (N + 1 + 3 * j) g A' C' _ n ka LW.out.mem LW.out.lk GR.out zk (by have := NN.out; omega) SB.out)
    have UX := Lib.hid (fun v1 b1 A1 C1 (s1 : St1 wa.drew v1 B (N + 1 + 3 * j) A' A1 C' C1 n ka b1) => under_X v1 B (N + 1 + 3 * j + 1) b1 A1 C1 (tagsTo P n t L j) n ka va s1.mem
      (fun v => (s1.eV v).trans (by rw [s1.same _ (by simp) (by simp)])) (fun tt hne => by
        rw [s1.same _ (by simp) (by simp)] at hne
        rw [s1.cs _ (by simp) (by simp)]
        exact LW.out.lk.X n ka va tt hne) (fun hne tt hp => by
        rw [s1.same _ (by simp) (by simp)] at hne
        exact (LW.out.lk.hx n ka va).2 ⟨tt, hp⟩ hne) s1.at_ zv (by have := NN.out; omega) (Nat.le_trans SB.out s1.own.1.size))
    have PX := Lib.hid (fun v2 b2 A2 C2 A1 C1 v1 (s2 : St2 v1 v2 B (N + 1 + 3 * j + 1) A1 A2 C1 C2 (tagsTo P n t L j) n ka va b2) => put_X v2 b2 (N + 1 + 3 * j + 2) _ _ (s2.mem.bk (.X n ka va) b2 s2.at_) t HTS.out (by have := NN.out; omega))
    have FIN := Lib.hid (fun v1 v2 v3 b1 b2 A1 A2 C1 C2 mo3 (s1 : St1 wa.drew v1 B (N + 1 + 3 * j) A' A1 C' C1 n ka b1) (s2 : St2 v1 v2 B (N + 1 + 3 * j + 1) A1 A2 C1 C2 (tagsTo P n t L j) n ka va b2)
      (t3 : Turn v2 v3 b2 0 (A2 (.mp (.X n ka va))) mo3 (N + 1 + 3 * j + 2 + 1) (upd (C2 (.X n ka va)) t (some (.agg #[])))) =>
      (show ∃ A3 C3, Laid w v3 B (N + 1 + 3 * (j + 1)) A A3 C C3 (tagsTo P n t L (j + 1)) n t SV by
        obtain ⟨A3, C3, ad⟩ := added LW.out.lk SB.out (by rw [GR.out]; simp) s1 s2 t3
        exact ⟨A3, C3, LW.out.step ad (tagsTo_succ HKV.out.symm)⟩))
    clear hwa hy hy0 hy1 bwa zk zv x0 x1
    clear XL XK PS LA HS HT
    go_region_held (fun z => z.cell? ⟨y, 0, none⟩ = some (.string ka) ∧ z.cell? ⟨y, 1, none⟩ = some (.string va))
      (first | exact k0 | exact k1 | exact k2 | exact k3)
      (first
        | (go_at_call 73; refine UV.out.mono ?_; clear UV; rintro e v1 ⟨b1, A1, C1, rfl, s1⟩; have k1 := KY.out v1 A1 s1.own; have S1 := Lib.hid s1; clear s1)
        | (go_at_call 72; refine (UX.out v1 b1 A1 C1 S1.out).mono ?_; clear UX; rintro e v2 ⟨b2, A2, C2, rfl, s2⟩; have k2 := KY.out v2 A2 (S1.out.own.trans s2.own); have S2 := Lib.hid s2; clear s2)
        | (go_at_call 74; refine (PX.out v2 b2 A2 C2 A1 C1 v1 S2.out).mono ?_; clear PX; rintro e v3 ⟨rfl, mo3, T3⟩; have k3 := KY.out v3 _ ((S1.out.own.trans S2.out.own).trans (own_turn (β := .X n ka va) S2.out.at_ T3)); have FF := Lib.hid (FIN.out v1 v2 v3 b1 b2 A1 A2 C1 C2 mo3 S1.out S2.out T3); clear T3))
    go_wp2_with fail
    go_roundw
    case rel =>
      obtain ⟨A3, C3, L3⟩ := FF.out
      exact ⟨j + 1, by omega, by go_num, A3, C3, Lib.hid L3⟩
    case measure => simp [intOf]; omega
end Ki
end Go.Proofs.YtalanjhpacjmmaaGreat
