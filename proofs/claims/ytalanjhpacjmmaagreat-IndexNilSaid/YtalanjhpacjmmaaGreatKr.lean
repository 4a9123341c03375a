/- With. -/
import Derived.Test.YtalanjhpacjmmaaGreatKq
import Derived.Sort.Walk0
namespace Go.Proofs.YtalanjhpacjmmaaGreat
set_option maxRecDepth 100000
open Go.RowKit Go.Maps Go.ChangeMaps Go.MapKept Go.Sort Go.Shelf
namespace Kr
open Jb Ka Kb Kc Kd Kf Kg Kh Ki Kj Kk Kl Km Kn Ko Kp Kq Sa Sb Sg Sp

theorem lt_iff (a b : Tx) : Sb.lt a b = decide (Sa.bl a < Sa.bl b) := by
  unfold Sb.lt
  rw [ByteArray.toList_eq, ByteArray.toList_eq, bytesLess_eq]; rfl
/-- The keys of a formed series rise. -/
theorem keys_rise {s : Sr} (h : fm s = true) : ∀ j, j < s.2.length → ∀ i, i < j → Sa.bl (s.2.getD i t0).1 < Sa.bl (s.2.getD j t0).1 := by
  unfold fm at h
  simp only [Bool.and_eq_true, decide_eq_true_eq] at h
  obtain ⟨_, h3⟩ := h
  intro j
  induction j with
  | zero => intro _ i hi; omega
  | succ j ih =>
    intro hj i hi
    have h4 := h3 (j + 1) hj
    unfold tagOk at h4
    simp only [Bool.and_eq_true, Bool.or_eq_true, decide_eq_true_eq] at h4
    have h5 := h4.2.resolve_left (by omega)
    rw [lt_iff] at h5
    have h6 : Sa.bl (s.2.getD j t0).1 < Sa.bl (s.2.getD (j + 1) t0).1 := of_decide_eq_true h5
    by_cases e : i = j
    · rw [e]; exact h6
    · exact List.lt_trans (ih (by omega) i (by omega)) h6
theorem tgf_has {s : Sr} (h : fm s = true) (k v : Tx) : Has s k v ↔ tgf s.2 k = (v, true) := by
  constructor
  · rintro ⟨i, hi, e⟩
    have := tgf_yes (key := k) hi (fun j hj e' => by
      have h1 := keys_rise h i hi j hj
      rw [e', e] at h1
      exact List.lt_irrefl _ h1) (by rw [e])
    rw [this, e]
  · intro e
    by_cases hx : ∃ i, i < s.2.length ∧ (s.2.getD i t0).1 = k
    · obtain ⟨i, hi, he⟩ := hx
      have := tgf_yes (key := k) hi (fun j hj e' => by
        have h1 := keys_rise h i hi j hj
        rw [e', he] at h1
        exact List.lt_irrefl _ h1) he
      rw [this] at e
      exact ⟨i, hi, Prod.ext he (Prod.mk.inj e).1⟩
    · rw [tgf_no (fun j hj e' => hx ⟨j, hj, e'⟩)] at e
      cases e
theorem tgf_none {s : Sr} (h : fm s = true) (k : Tx) : (tgf s.2 k).2 = false ↔ ∀ v, ¬ Has s k v := by
  constructor
  · intro e v hv
    rw [(tgf_has h k v).1 hv] at e
    cases e
  · intro e
    cases hb : (tgf s.2 k).2 with
    | false => rfl
    | true => exact absurd ((tgf_has h k (tgf s.2 k).1).2 (Prod.ext rfl hb)) (e _)
theorem values_i (w : World) (B N x : Nat) (A : As) (C : Cs) (Q : Qs) (kd : Ks) (h : Ix w B N x A C Q kd) (n k : Tx) (hn : n.size ≤ maxLen) (hk : k.size ≤ maxLen) (l : List Sr) (hl : ∀ s, Q s → s ∈ l) (hm : l.length ≤ 3518437208883) :
    Calls Tryz.prog 20 #[.pointer (some ⟨x, 0, none⟩), .string n, .string k] w fun e w' => ∃ ns v, e = .returned v ∧ Ns (fun u => ∃ s, Q s ∧ s.1 = n ∧ Has s k u) ns ∧ w'.ownsRow w.heap.size 9 1 v ns.length (encs ns) ∧ Below w.heap.size w w' := by
  have G1 := Lib.hid (group_rd w B N x A C Q kd h n hn)
  have H1 := Lib.hid (fun (y : World) (g : Nat) (ms : Option Nat) (bk : Bk y g 2 ms N (TE A n)) => get_T y g N ms _ bk k hk)
  cases hA : A (.vb n k) with
  | none =>
    have e0 : TE A n k = none := by unfold TE; rw [hA]; rfl
    rw [e0] at H1
    simp only [Option.getD_none] at H1
    have NE := Lib.hid (show Ns (fun u => ∃ s, Q s ∧ s.1 = n ∧ Has s k u) [] from ⟨List.Pairwise.nil, fun y => ⟨fun h => by simp at h, fun ⟨u, ⟨s, a, b, c⟩, _⟩ => absurd hA ((vb_iff h n k).2 ⟨s, u, a, b, c⟩)⟩⟩)
    have K1 := Lib.hid keysn_V
    clear h hn hk hl hm hA e0
    go_enter Tryz.func20, Tryz.ntmps20
    go_wp2_with (first
      | (go_at_call 37; refine G1.out.mono ?_; clear G1; rintro e w1 ⟨g, ms, mt, rfl, b1, -, k0⟩; have B1 := Lib.hid b1; have K0 := Lib.hid k0; clear b1 k0)
      | (go_at_call 54; refine (H1.out w1 g mt K0.out).mono ?_; clear H1; rintro e w1 ⟨rfl, rfl⟩)
      | (go_at_call 55; refine (K1.out w1).mono ?_; clear K1; rintro e w1 ⟨rfl, rfl⟩))
    go_ret
    exact ⟨[], _, rfl, NE.out, World.ownsRow_nil _ _ _ _, B1.out⟩
  | some b =>
    have e0 : TE A n k = some (pv b) := by unfold TE; rw [hA]; rfl
    rw [e0] at H1
    simp only [Option.getD_some, pv] at H1
    have ne : ∀ ns, Rw (C (.V n k)) ns → Ns (fun u => ∃ s, Q s ∧ s.1 = n ∧ Has s k u) ns := fun ns r => ns_of r fun t => by
      rw [h.lk.V n k t (by rw [hA]; simp), po_ne]; exact xb_iff h n k t
    have le : ∀ ns, Rw (C (.V n k)) ns → ns.length ≤ 8796093022208 := fun ns r => Nat.le_trans (Nat.le_trans (ns_len (ne ns r) l (fun s => (tgf s.2 k).1) (fun u ⟨s, a, b, c⟩ => ⟨s, hl s a, by rw [(tgf_has (h.fm s a) k u).1 c]⟩)) hm) (by decide)
    have K1 := Lib.hid (fun (y : World) (b' : Below w.heap.size w y) => keys_V y b N _ _ ((h.mem.below b').bk (.V n k) b hA) le)
    have NE := Lib.hid ne
    clear h hn hk hl hm hA e0 le ne
    go_enter Tryz.func20, Tryz.ntmps20
    go_wp2_with (first
      | (go_at_call 37; refine G1.out.mono ?_; clear G1; rintro e w1 ⟨g, ms, mt, rfl, b1, -, k0⟩; have B1 := Lib.hid b1; have K0 := Lib.hid k0; clear b1 k0)
      | (go_at_call 54; refine (H1.out w1 g mt K0.out).mono ?_; clear H1; rintro e w1 ⟨rfl, rfl⟩)
      | (go_at_call 55; refine (K1.out w1 B1.out).mono ?_; clear K1; rintro e w2 ⟨ns, v, r, rfl, o, b2⟩; have R := Lib.hid r; have O := Lib.hid o; have B2 := Lib.hid (B1.out.trans (b2.mono B1.out.size)); clear r o b2))
    go_ret
    exact ⟨ns, v, rfl, NE.out ns R.out, Go.Joins.ownsRow_le O.out B1.out.size, B2.out⟩
theorem kp_filter (ns : List (List UInt8)) (q : List UInt8 → Bool) : kp ns (fun i => q (ns.getD i [])) ns.length = ns.filter (fun x => !q x) := by
  unfold kp
  have e : ns = (List.range ns.length).map fun i => ns.getD i [] := by
    apply List.ext_getElem
    · simp
    · intro i h1 h2
      simp [List.getD_eq_getElem?_getD, h1]
  rw [show ((List.range ns.length).filter fun i => !q (ns.getD i [])) = (List.range ns.length).filter ((fun x => !q x) ∘ fun i => ns.getD i []) from rfl, ← List.filter_map, ← e]
set_option maxHeartbeats 1000000 in
theorem without_g (w : World) (g N : Nat) (ms : Option Nat) (B N' x : Nat) (A : As) (C : Cs) (Q : Qs) (kd : Ks) (h : Ix w B N' x A C Q kd) (n k : Tx) (bk : Bk w g 0 ms N (SE A C n)) (l : List Sr) (hl : ∀ s, Q s → s ∈ l) (hm : l.length ≤ 3518437208883) :
    Calls Tryz.prog 56 #[.pointer (some ⟨g, 0, none⟩), .string k] w fun e w' => ∃ ns v, e = .returned v ∧ Tl w' v ns ∧ Tn (fun s => Q s ∧ s.1 = n ∧ (tgf s.2 k).2 = false) ns ∧ ns.length ≤ 3518437208883 ∧ Below w.heap.size w w' := by
  obtain ⟨W, hW⟩ : ∃ W, W = (w.alloc (.cells #[.pointer (some ⟨g, 0, none⟩)] 72)).alloc (.cells #[.string k] 9) := ⟨_, rfl⟩
  obtain ⟨b2, hb2⟩ : ∃ b2, b2 = w.heap.size := ⟨_, rfl⟩
  have bW : Below w.heap.size w W := by rw [hW]; exact ((Below.refl _ w).alloc (Nat.le_refl _) _).alloc (by simp) _
  have sW : W.heap.size = b2 + 2 := by rw [hW, hb2]; simp
  have c2 : W.cell? ⟨b2, 0, none⟩ = some (.pointer (some ⟨g, 0, none⟩)) := by
    rw [hW, hb2, cell_alloc_lt (by simp)]; exact new_cell _ _ _ 0 _ rfl
  have c3 : W.cell? ⟨b2 + 1, 0, none⟩ = some (.string k) := by
    rw [hW, hb2, show w.heap.size + 1 = (w.alloc (.cells #[.pointer (some ⟨g, 0, none⟩)] 72)).heap.size by simp]; exact new_cell _ _ _ 0 _ rfl
  have tn : ∀ ns, Rw (SE A C n) ns → Tn (fun s => Q s ∧ s.1 = n) ns := fun ns r => tn_of r fun t => by
    rw [SE_iff h n t]
    exact ⟨fun ⟨s, a, b, c⟩ => ⟨s, ⟨a, b⟩, c⟩, fun ⟨s, ⟨a, b⟩, c⟩ => ⟨s, a, b, c⟩⟩
  have le : ∀ ns, Rw (SE A C n) ns → ns.length ≤ 3518437208883 := fun ns r => Nat.le_trans (tn_len (tn ns r) l (fun s hs => hl s hs.1)) hm
  have K1 := Lib.hid (keys_S W g N ms _ (bk.below bW) (fun ns r => Nat.le_trans (le ns r) (by decide)))
  obtain ⟨q, hq⟩ : ∃ q : List UInt8 → Bool, q = fun x => (tgf ((rd x).getD s0).2 k).2 := ⟨_, rfl⟩
  have D1 := Lib.hid (fun (y : World) (v : Value) (ns : List (List UInt8)) (r : Rw (SE A C n) ns) (b : Below W.heap.size W y) (o : y.ownsRow W.heap.size 9 1 v ns.length (encs ns)) =>
    deleteFunc W y W.heap.size b b.size (.pointer (some ⟨b2, 0, none⟩)) (.pointer (some ⟨b2 + 1, 0, none⟩)) ns (fun i => q (ns.getD i [])) (fun z bz i hi => by
      obtain ⟨s, ⟨q1, q2⟩, e1, e2⟩ := rsOf_get (tn ns r) hi
      obtain ⟨a, c, e3, e4⟩ := SE_some h q1
      have sz := fm_size (h.fm s q1)
      have bwz : Below w.heap.size w z := bW.trans (bz.mono bW.size)
      have := clos z b2 (b2 + 1) g N ms (SE A C n) k (tx ns i) ((bz.cell (p := ⟨b2, 0, none⟩) (by show b2 < _; omega)).trans c2) ((bz.cell (p := ⟨b2 + 1, 0, none⟩) (by show b2 + 1 < _; omega)).trans c3) (bk.below bwz) (by unfold tx; rw [e1]; have h2 := sz.2.1; unfold tt at h2; unfold maxLen; omega) s a c (by
          have : tx ns i = tt s := by unfold tx; rw [e1]; rfl
          rw [this, ← q2]; exact e3) (e4.below bwz) sz.2.2.1 (fun y hy => by
          obtain ⟨j, hj, rfl⟩ := List.getElem_of_mem hy
          have := (sz.2.2.2 j hj).2
          rw [List.getD_eq_getElem?_getD, List.getElem?_eq_getElem hj] at this
          simp only [Option.getD_some] at this
          omega)
      have eq : q (ns.getD i []) = (tgf s.2 k).2 := by rw [hq, e1]; simp [rd_of]
      show Calls Tryz.prog _ _ z fun e y' => e = .returned (.bool (q (ns.getD i []))) ∧ Below z.heap.size z y'
      rw [eq]
      exact this) v o (Nat.le_trans (le ns r) (by decide)))
  have FIN := Lib.hid (show ∀ ns, Rw (SE A C n) ns → Tn (fun s => Q s ∧ s.1 = n ∧ (tgf s.2 k).2 = false) (kp ns (fun i => q (ns.getD i [])) ns.length) ∧ (kp ns (fun i => q (ns.getD i [])) ns.length).length ≤ 3518437208883 from fun ns r => by
    have t := tn ns r
    refine ⟨?_, Nat.le_trans (kp_len _ _ _) (le ns r)⟩
    rw [kp_filter]
    refine ⟨t.1.filter _, fun y => ?_⟩
    rw [List.mem_filter, t.2 y]
    constructor
    · rintro ⟨⟨s, ⟨a, b⟩, rfl⟩, e⟩
      refine ⟨s, ⟨a, b, ?_⟩, rfl⟩
      rw [hq] at e
      simpa [rd_of] using e
    · rintro ⟨s, ⟨a, b, c⟩, rfl⟩
      refine ⟨⟨s, ⟨a, b⟩, rfl⟩, ?_⟩
      rw [hq]
      simpa [rd_of] using c)
  have BW := Lib.hid bW
  obtain ⟨b3, hb3⟩ : ∃ b3, b3 = b2 + 1 := ⟨_, rfl⟩
  rw [← hb3] at D1 c3
  clear h bk hl hm tn le hq bW
  go_enter Tryz.func56, Tryz.ntmps56
  go_upto_region 1 with (fail)
  rw [← hW, ← hb2, ← hb3]
  clear hW hb2 hb3 sW
  go_wp2_with (first
    | (go_at_call 52; refine K1.out.mono ?_; clear K1; rintro e w2 ⟨ns, v, r, rfl, o, bb⟩; have R := Lib.hid r; have B2 := Lib.hid (BW.out.trans (bb.mono BW.out.size)); have D2 := Lib.hid (D1.out w2 v ns r bb o); clear r o bb D1)
    | (go_at_call 92; refine D2.out.mono ?_; clear D2; rintro e w3 ⟨v3, rfl, t3, bb⟩; have T3 := Lib.hid t3; have B3 := Lib.hid bb; clear t3 bb))
  go_ret
  obtain ⟨f1, f2⟩ := FIN.out ns R.out
  exact ⟨_, _, rfl, T3.out, f1, f2, BW.out.trans (B3.out.mono BW.out.size)⟩
/-- With of no value: the series without the tag. -/
theorem with_no (w : World) (B N x : Nat) (A : As) (C : Cs) (Q : Qs) (kd : Ks) (h : Ix w B N x A C Q kd) (n k : Tx) (hn : n.size ≤ maxLen) (l : List Sr) (hl : ∀ s, Q s → s ∈ l) (hm : l.length ≤ 3518437208883) :
    Calls Tryz.prog 21 #[.pointer (some ⟨x, 0, none⟩), .string n, .string k, .string ⟨#[]⟩] w fun e w' => ∃ ns v, e = .returned v ∧ Tn (fun s => Q s ∧ s.1 = n ∧ (tgf s.2 k).2 = false) ns ∧ Sl w' (fun k => w.heap.size ≤ k) v (rsOf ns) ∧ Below w.heap.size w w' := by
  have G1 := Lib.hid (group_rd w B N x A C Q kd h n hn)
  have W1 := Lib.hid (fun (y : World) (by1 : Below w.heap.size w y) (g : Nat) (ms : Option Nat) (bk : Bk y g 0 ms N (SE A C n)) => without_g y g N ms B N x A C Q kd (h.below by1) n k bk l hl hm)
  have T1 := Lib.hid (fun (y z : World) (by1 : Below w.heap.size w y) (g : Nat) (ms : Option Nat) (bk : Bk y g 0 ms N (SE A C n)) (v : Value) (ns : List (List UInt8)) (b : Below y.heap.size y z) (o : Tl z v ns) (t : Tn (fun s => Q s ∧ s.1 = n ∧ (tgf s.2 k).2 = false) ns) (le : ns.length ≤ 3518437208883) =>
    (told_of z g N ms B N x A C Q kd (h.below (by1.trans (b.mono by1.size))) n (bk.below b) v ns _ (fun s hs => ⟨hs.1, hs.2.1⟩) o t le))
  clear h hn hl hm
  go_enter Tryz.func21, Tryz.ntmps21
  go_wp2_with (first
    | (go_at_call 37; refine G1.out.mono ?_; clear G1; rintro e w1 ⟨g, ms, mt, rfl, b1, k0, -⟩; have B1 := Lib.hid b1; have K0 := Lib.hid k0; clear b1 k0)
    | (go_at_call 56; refine (W1.out w1 B1.out g ms K0.out).mono ?_; clear W1; rintro e w2 ⟨ns, v, rfl, o, t, le, b2⟩; have TN := Lib.hid t; have T2 := Lib.hid (T1.out w1 w2 B1.out g ms K0.out v ns b2 o t le); have B2 := Lib.hid (B1.out.trans (b2.mono B1.out.size)); clear o t le b2 T1)
    | (go_at_call 51; refine T2.out.mono ?_; clear T2; rintro e w3 ⟨v3, rfl, s3, b3⟩; have S3 := Lib.hid s3; have B3 := Lib.hid (B2.out.trans (b3.mono B2.out.size)); clear s3 b3))
  go_ret
  exact ⟨ns, v3, rfl, TN.out, S3.out.imp (fun k hk => Nat.le_trans B2.out.size hk), B3.out⟩
theorem with_yes (w : World) (B N x : Nat) (A : As) (C : Cs) (Q : Qs) (kd : Ks) (h : Ix w B N x A C Q kd) (n k u : Tx) (hn : n.size ≤ maxLen) (hk : k.size ≤ maxLen) (hu : u.size ≤ maxLen) (hu0 : u ≠ ⟨#[]⟩) (l : List Sr) (hl : ∀ s, Q s → s ∈ l) (hm : l.length ≤ 3518437208883) :
    Calls Tryz.prog 21 #[.pointer (some ⟨x, 0, none⟩), .string n, .string k, .string u] w fun e w' => ∃ ns v, e = .returned v ∧ Tn (fun s => Q s ∧ s.1 = n ∧ Has s k u) ns ∧ Sl w' (fun k => w.heap.size ≤ k) v (rsOf ns) ∧ Below w.heap.size w w' := by
  have G1 := Lib.hid (group_rd w B N x A C Q kd h n hn)
  have H1 := Lib.hid (fun (y : World) (g : Nat) (ms : Option Nat) (bk : Bk y g 2 ms N (TE A n)) => get_T y g N ms _ bk k hk)
  have T1 := Lib.hid (fun (y z : World) (by1 : Below w.heap.size w y) (g : Nat) (ms : Option Nat) (bk : Bk y g 0 ms N (SE A C n)) (v : Value) (ns : List (List UInt8)) (b : Below y.heap.size y z) (o : Tl z v ns) (t : Tn (fun s => Q s ∧ s.1 = n ∧ Has s k u) ns) (le : ns.length ≤ 3518437208883) =>
    (told_of z g N ms B N x A C Q kd (h.below (by1.trans (b.mono by1.size))) n (bk.below b) v ns _ (fun s hs => ⟨hs.1, hs.2.1⟩) o t le))
  obtain ⟨es, es2⟩ := nil_no hu0
  have KN := Lib.hid keysn_X
  have NE := Lib.hid (show A (.xb n k u) = none → Tn (fun s => Q s ∧ s.1 = n ∧ Has s k u) [] from fun hA => ⟨List.Pairwise.nil, fun y => ⟨fun h => by simp at h, fun ⟨s, ⟨a, b, c⟩, _⟩ => absurd hA ((xb_iff h n k u).2 ⟨s, a, b, c⟩)⟩⟩)
  cases hA : A (.vb n k) with
  | none =>
    have e0 : TE A n k = none := by unfold TE; rw [hA]; rfl
    rw [e0] at H1
    simp only [Option.getD_none] at H1
    have hX : A (.xb n k u) = none := by
      by_cases e : A (.xb n k u) = none
      · exact e
      · obtain ⟨s, a, b, c⟩ := (xb_iff h n k u).1 e
        exact absurd hA ((vb_iff h n k).2 ⟨s, u, a, b, c⟩)
    have NE0 := Lib.hid (NE.out hX)
    have V1 := Lib.hid (fun y => getn_V y u)
    clear h hn hk hl hm hA e0 hu0 hX NE hu
    go_enter Tryz.func21, Tryz.ntmps21
    go_wp2_with (first
      | (go_at_call 37; refine G1.out.mono ?_; clear G1; rintro e w1 ⟨g, ms, mt, rfl, b1, k0, k2⟩; have B1 := Lib.hid b1; have K0 := Lib.hid k0; have K2 := Lib.hid k2; clear b1 k0 k2)
      | (go_at_call 54; refine (H1.out w1 g mt K2.out).mono ?_; clear H1; rintro e w1 ⟨rfl, rfl⟩)
      | (go_at_call 57; refine (V1.out w1).mono ?_; clear V1; rintro e w2 ⟨rfl, b2⟩; have B2 := Lib.hid b2; clear b2)
      | (go_at_call 58; refine (KN.out w2).mono ?_; clear KN; rintro e w2 ⟨rfl, rfl⟩; have T2 := Lib.hid (T1.out w1 w2 B1.out g ms K0.out _ [] B2.out (.inl ⟨none, 0, rfl, rfl⟩) NE0.out (Nat.zero_le _)); clear T1)
      | (go_at_call 51; refine T2.out.mono ?_; clear T2; rintro e w3 ⟨v3, rfl, s3, b3⟩; have S3 := Lib.hid s3; have B12 := Lib.hid (B1.out.trans (B2.out.mono B1.out.size)); have B3 := Lib.hid (B12.out.trans (b3.mono B12.out.size)); clear s3 b3))
    go_ret
    exact ⟨[], v3, rfl, NE0.out, S3.out.imp (fun k hk => Nat.le_trans B12.out.size hk), B3.out⟩
  | some b =>
    have e0 : TE A n k = some (pv b) := by unfold TE; rw [hA]; rfl
    rw [e0] at H1
    simp only [Option.getD_some, pv] at H1
    have V1 := Lib.hid (fun (y : World) (b' : Below w.heap.size w y) => get_V y b N _ _ ((h.mem.below b').bk (.V n k) b hA) u hu)
    rw [h.lk.V n k u (by rw [hA]; simp)] at V1
    cases hX : A (.xb n k u) with
    | none =>
      rw [hX] at V1
      simp only [po, Option.map_none, Option.getD_none] at V1
      have NE0 := Lib.hid (NE.out hX)
      clear h hn hk hl hm hA e0 hu0 hX NE hu
      go_enter Tryz.func21, Tryz.ntmps21
      go_wp2_with (first
        | (go_at_call 37; refine G1.out.mono ?_; clear G1; rintro e w1 ⟨g, ms, mt, rfl, b1, k0, k2⟩; have B1 := Lib.hid b1; have K0 := Lib.hid k0; have K2 := Lib.hid k2; clear b1 k0 k2)
        | (go_at_call 54; refine (H1.out w1 g mt K2.out).mono ?_; clear H1; rintro e w1 ⟨rfl, rfl⟩)
        | (go_at_call 57; refine (V1.out w1 B1.out).mono ?_; clear V1; rintro e w1 ⟨rfl, rfl⟩)
        | (go_at_call 58; refine (KN.out w1).mono ?_; clear KN; rintro e w1 ⟨rfl, rfl⟩; have T2 := Lib.hid (T1.out w1 w1 B1.out g ms K0.out _ [] (Below.refl _ _) (.inl ⟨none, 0, rfl, rfl⟩) NE0.out (Nat.zero_le _)); clear T1)
        | (go_at_call 51; refine T2.out.mono ?_; clear T2; rintro e w3 ⟨v3, rfl, s3, b3⟩; have S3 := Lib.hid s3; have B3 := Lib.hid (B1.out.trans (b3.mono B1.out.size)); clear s3 b3))
      go_ret
      exact ⟨[], v3, rfl, NE0.out, S3.out.imp (fun k hk => Nat.le_trans B1.out.size hk), B3.out⟩
    | some c =>
      rw [hX] at V1
      simp only [po, Option.map_some, Option.getD_some, pv] at V1
      have tn : ∀ ns, Rw (C (.X n k u)) ns → Tn (fun s => Q s ∧ s.1 = n ∧ Has s k u) ns := fun ns r => tn_of r fun t => by
        have hx := h.lk.X n k u t (by rw [hX]; simp)
        constructor
        · intro e
          by_cases p : PQ Q n k u t
          · obtain ⟨s, a, b, c, d⟩ := p
            exact ⟨s, ⟨a, b, d⟩, c⟩
          · exact absurd (hx.2 p) e
        · rintro ⟨s, ⟨a, b, d⟩, c⟩
          rw [hx.1 ⟨s, a, b, c, d⟩]; simp
      have le : ∀ ns, Rw (C (.X n k u)) ns → ns.length ≤ 3518437208883 := fun ns r => Nat.le_trans (tn_len (tn ns r) l (fun s hs => hl s hs.1)) hm
      have K1 := Lib.hid (fun (y : World) (b' : Below w.heap.size w y) => keys_X y c N _ _ ((h.mem.below b').bk (.X n k u) c hX) (fun ns r => Nat.le_trans (le ns r) (by decide)))
      have TN := Lib.hid (fun ns r => (⟨tn ns r, le ns r⟩ : _ ∧ _))
      clear h hn hk hl hm hA e0 hu0 hX NE hu tn le
      go_enter Tryz.func21, Tryz.ntmps21
      go_wp2_with (first
        | (go_at_call 37; refine G1.out.mono ?_; clear G1; rintro e w1 ⟨g, ms, mt, rfl, b1, k0, k2⟩; have B1 := Lib.hid b1; have K0 := Lib.hid k0; have K2 := Lib.hid k2; clear b1 k0 k2)
        | (go_at_call 54; refine (H1.out w1 g mt K2.out).mono ?_; clear H1; rintro e w1 ⟨rfl, rfl⟩)
        | (go_at_call 57; refine (V1.out w1 B1.out).mono ?_; clear V1; rintro e w1 ⟨rfl, rfl⟩)
        | (go_at_call 58; refine (K1.out w1 B1.out).mono ?_; clear K1; rintro e w2 ⟨ns, v, r, rfl, o, b2⟩; have TT := Lib.hid (TN.out ns r); have T2 := Lib.hid (T1.out w1 w2 B1.out g ms K0.out v ns b2 (tl_own o) TT.out.1 TT.out.2); have B2 := Lib.hid (B1.out.trans (b2.mono B1.out.size)); clear T1 TN r o b2)
        | (go_at_call 51; refine T2.out.mono ?_; clear T2; rintro e w3 ⟨v3, rfl, s3, b3⟩; have S3 := Lib.hid s3; have B3 := Lib.hid (B2.out.trans (b3.mono B2.out.size)); clear s3 b3))
      go_ret
      exact ⟨ns, v3, rfl, TT.out.1, S3.out.imp (fun k hk => Nat.le_trans B2.out.size hk), B3.out⟩
end Kr
end Go.Proofs.YtalanjhpacjmmaaGreat
