/- All, Names, Keys, Values, With of a value. -/
import Derived.Test.YtalanjhpacjmmaaGreatKo
namespace Go.Proofs.YtalanjhpacjmmaaGreat
set_option maxRecDepth 100000
open Go.RowKit Go.Maps Go.ChangeMaps Go.MapKept Go.Sort Go.Shelf
namespace Kp
open Jb Ka Kb Kc Kd Kf Kg Kh Ki Kj Kk Kl Km Kn Ko Sa Sb Sg

theorem pigeon {α : Type} [DecidableEq α] : ∀ {a b : List α}, a.Nodup → (∀ x ∈ a, x ∈ b) → a.length ≤ b.length
  | [], b, _, _ => Nat.zero_le _
  | x :: r, b, hn, h => by
    obtain ⟨n1, n2⟩ := List.nodup_cons.1 hn
    have hx := h x (by simp)
    have := pigeon (a := r) (b := b.erase x) n2 (fun y hy => by
      have hyx : y ≠ x := fun e => n1 (e ▸ hy)
      exact (List.mem_erase_of_ne hyx).2 (h y (by simp [hy])))
    rw [List.length_erase_of_mem hx] at this
    have hp : 0 < b.length := List.length_pos_of_mem hx
    simp; omega
theorem nodup_lt {l : List (List UInt8)} (h : l.Pairwise (· < ·)) : l.Nodup := h.imp fun {a b} hab e => by subst e; exact List.lt_irrefl a hab
theorem flat_len (f : Sr → Nat → List UInt8) (l : List Sr) : ((l.map fun s => (List.range 8).map fun i => f s i).flatten).length = 8 * l.length := by
  induction l with
  | nil => rfl
  | cons a r ih => rw [List.map_cons, List.flatten_cons, List.length_append, ih]; simp; omega
/-- The texts of these series, rising. -/
def Tn (P : Sr → Prop) (ns : List (List UInt8)) : Prop := ns.Pairwise (· < ·) ∧ ∀ x, x ∈ ns ↔ ∃ s, P s ∧ txt s = x
/-- These texts, rising. -/
def Ns (P : Tx → Prop) (ns : List (List UInt8)) : Prop := ns.Pairwise (· < ·) ∧ ∀ x, x ∈ ns ↔ ∃ s, P s ∧ Sa.bl s = x
/-- The series of these texts. -/
def rsOf (ns : List (List UInt8)) : List Sr := ns.map fun x => (rd x).getD s0
theorem rsOf_len (ns : List (List UInt8)) : (rsOf ns).length = ns.length := by simp [rsOf]
theorem rsOf_get {P : Sr → Prop} {ns : List (List UInt8)} (h : Tn P ns) {i : Nat} (hi : i < ns.length) : ∃ s, P s ∧ ns.getD i [] = txt s ∧ (rsOf ns).getD i s0 = s := by
  have hm : ns.getD i [] ∈ ns := by rw [List.getD_eq_getElem?_getD, List.getElem?_eq_getElem hi]; exact List.getElem_mem hi
  obtain ⟨s, hs, e⟩ := (h.2 _).1 hm
  refine ⟨s, hs, e.symm, ?_⟩
  rw [List.getD_eq_getElem?_getD, rsOf, List.getElem?_map, List.getElem?_eq_getElem hi]
  have e2 : ns[i] = txt s := by rw [e, List.getD_eq_getElem?_getD, List.getElem?_eq_getElem hi]; rfl
  simp [e2, rd_of]
theorem mem_rsOf {P : Sr → Prop} {ns : List (List UInt8)} (h : Tn P ns) (s : Sr) : s ∈ rsOf ns ↔ P s := by
  constructor
  · intro hs
    obtain ⟨x, hx, e⟩ := List.mem_map.1 hs
    obtain ⟨q, hq, rfl⟩ := (h.2 x).1 hx
    rw [rd_of] at e
    simp at e
    exact e ▸ hq
  · intro hs
    exact List.mem_map.2 ⟨txt s, (h.2 _).2 ⟨s, hs, rfl⟩, by rw [rd_of]; rfl⟩
theorem bl_eq (s : Tx) : Ka.bl s = Sa.bl s := rfl
theorem bl_tt (s : Sr) : Sa.bl (tt s) = txt s := bl_ba _
/-- Texts of a book that holds series. -/
theorem tn_of {F : Fun} {P : Sr → Prop} {ns : List (List UInt8)} (h : Rw F ns) (e : ∀ t, F t ≠ none ↔ ∃ s, P s ∧ tt s = t) : Tn P ns := by
  refine ⟨h.1, fun x => ?_⟩
  rw [h.2 x]
  constructor
  · rintro ⟨t, ht, rfl⟩
    obtain ⟨s, hs, rfl⟩ := (e t).1 ht
    exact ⟨s, hs, (bl_tt s).symm⟩
  · rintro ⟨s, hs, rfl⟩
    exact ⟨tt s, (e _).2 ⟨s, hs, rfl⟩, bl_tt s⟩
theorem ns_of {F : Fun} {P : Tx → Prop} {ns : List (List UInt8)} (h : Rw F ns) (e : ∀ t, F t ≠ none ↔ P t) : Ns P ns := by
  refine ⟨h.1, fun x => ?_⟩
  rw [h.2 x]
  exact ⟨fun ⟨t, ht, ex⟩ => ⟨t, (e t).1 ht, ex⟩, fun ⟨t, ht, ex⟩ => ⟨t, (e t).2 ht, ex⟩⟩
theorem tn_len {P : Sr → Prop} {ns : List (List UInt8)} (h : Tn P ns) (l : List Sr) (hl : ∀ s, P s → s ∈ l) : ns.length ≤ l.length := by
  have := pigeon (a := ns) (b := l.map txt) (nodup_lt h.1) (fun x hx => by
    obtain ⟨s, hs, rfl⟩ := (h.2 x).1 hx
    exact List.mem_map.2 ⟨s, hl s hs, rfl⟩)
  simpa using this
theorem ns_len {P : Tx → Prop} {ns : List (List UInt8)} (h : Ns P ns) (l : List Sr) (f : Sr → Tx) (hl : ∀ x, P x → ∃ s ∈ l, f s = x) : ns.length ≤ l.length := by
  have := pigeon (a := ns) (b := l.map fun s => Sa.bl (f s)) (nodup_lt h.1) (fun x hx => by
    obtain ⟨t, ht, rfl⟩ := (h.2 x).1 hx
    obtain ⟨s, hs, e⟩ := hl t ht
    exact List.mem_map.2 ⟨s, hs, by rw [e]⟩)
  simpa using this
theorem po_ne {o : Option Nat} : po o ≠ none ↔ o ≠ none := by cases o <;> simp [po]
/-- Telling the series of texts of a group. -/
theorem told_of_f (w : World) (g N : Nat) (ms : Option Nat) (B N' x : Nat) (A : As) (C : Cs) (Q : Qs) (kd : Ks) (h : Ix w B N' x A C Q kd) (n : Tx) (bk : Bk w g 0 ms N (SE A C n)) (tv : Value) (ns : List (List UInt8)) (P : Sr → Prop) (hP : ∀ s, P s → Q s ∧ s.1 = n) (ht : Tl w tv ns) (hT : Tn P ns) (hn : ns.length ≤ 3518437208883) :
    Calls Tryz.prog 51 #[.pointer (some ⟨g, 0, none⟩), tv] w fun e w' => ∃ v, e = .returned v ∧ Tf w' w.heap.size v (rsOf ns) ∧ Below w.heap.size w w' := by
  refine told_f w g N ms _ bk tv ns ht (rsOf ns) (rsOf_len ns) (fun i hi => ?_) (fun i hi => ?_) hn
  · obtain ⟨s, hs, e1, e2⟩ := rsOf_get hT hi
    obtain ⟨q1, q2⟩ := hP s hs
    obtain ⟨a, c, e3, e4⟩ := SE_some h q1
    rw [e1, e2]
    exact ⟨a, c, q2 ▸ e3, e4⟩
  · obtain ⟨s, hs, e1, e2⟩ := rsOf_get hT hi
    obtain ⟨q1, _⟩ := hP s hs
    have := fm_size (h.fm s q1)
    rw [e1, e2]
    exact ⟨this.2.2.1, by have h2 := this.2.1; unfold tt at h2; unfold maxLen; omega⟩
theorem all_i_f (w : World) (B N x : Nat) (A : As) (C : Cs) (Q : Qs) (kd : Ks) (h : Ix w B N x A C Q kd) (n : Tx) (hn : n.size ≤ maxLen) (l : List Sr) (hl : ∀ s, Q s → s ∈ l) (hm : l.length ≤ 3518437208883) :
    Calls Tryz.prog 18 #[.pointer (some ⟨x, 0, none⟩), .string n] w fun e w' => ∃ ns v, e = .returned v ∧ Tn (fun s => Q s ∧ s.1 = n) ns ∧ Tf w' w.heap.size v (rsOf ns) ∧ Below w.heap.size w w' := by
  have G1 := Lib.hid (group_rd w B N x A C Q kd h n hn)
  have tn : ∀ ns, Rw (SE A C n) ns → Tn (fun s => Q s ∧ s.1 = n) ns := fun ns r => tn_of r fun t => by
    rw [SE_iff h n t]
    exact ⟨fun ⟨s, a, b, c⟩ => ⟨s, ⟨a, b⟩, c⟩, fun ⟨s, ⟨a, b⟩, c⟩ => ⟨s, a, b, c⟩⟩
  have le : ∀ ns, Rw (SE A C n) ns → ns.length ≤ 3518437208883 := fun ns r => Nat.le_trans (tn_len (tn ns r) l (fun s hs => hl s hs.1)) hm
  have K1 := Lib.hid (fun (y : World) (g : Nat) (ms : Option Nat) (bk : Bk y g 0 ms N (SE A C n)) => keys_S y g N ms _ bk (fun ns r => Nat.le_trans (le ns r) (by decide)))
  have T1 := Lib.hid (fun (y z : World) (by1 : Below w.heap.size w y) (g : Nat) (ms : Option Nat) (bk : Bk y g 0 ms N (SE A C n)) (v : Value) (ns : List (List UInt8)) (r : Rw (SE A C n) ns) (b : Below y.heap.size y z) (o : z.ownsRow y.heap.size 9 1 v ns.length (encs ns)) =>
    (told_of_f z g N ms B N x A C Q kd (h.below (by1.trans (b.mono by1.size))) n (bk.below b) v ns _ (fun s hs => hs) (tl_own o) (tn ns r) (le ns r)))
  have TN := Lib.hid tn
  clear h hn hl hm tn le
  go_enter Tryz.func18, Tryz.ntmps18
  go_wp2_with (first
    | (go_at_call 37; refine G1.out.mono ?_; clear G1; rintro e w1 ⟨g, ms, mt, rfl, b1, k0, -⟩; have B1 := Lib.hid b1; have K0 := Lib.hid k0; clear b1 k0)
    | (go_at_call 52; refine (K1.out w1 g ms K0.out).mono ?_; clear K1; rintro e w2 ⟨ns, v, r, rfl, o, b2⟩; have R := Lib.hid r; have T2 := Lib.hid (T1.out w1 w2 B1.out g ms K0.out v ns r b2 o); have B2 := Lib.hid (B1.out.trans (b2.mono B1.out.size)); clear r o b2 T1)
    | (go_at_call 51; refine T2.out.mono ?_; clear T2; rintro e w3 ⟨v3, rfl, s3, b3⟩; have S3 := Lib.hid s3; have B3 := Lib.hid (B2.out.trans (b3.mono B2.out.size)); clear s3 b3))
  go_ret
  exact ⟨ns, v3, rfl, TN.out ns R.out, S3.out.lo B2.out.size, B3.out⟩
theorem told_of (w : World) (g N : Nat) (ms : Option Nat) (B N' x : Nat) (A : As) (C : Cs) (Q : Qs) (kd : Ks) (h : Ix w B N' x A C Q kd) (n : Tx) (bk : Bk w g 0 ms N (SE A C n)) (tv : Value) (ns : List (List UInt8)) (P : Sr → Prop) (hP : ∀ s, P s → Q s ∧ s.1 = n) (ht : Tl w tv ns) (hT : Tn P ns) (hn : ns.length ≤ 3518437208883) :
    Calls Tryz.prog 51 #[.pointer (some ⟨g, 0, none⟩), tv] w fun e w' => ∃ v, e = .returned v ∧ Sl w' (fun k => w.heap.size ≤ k) v (rsOf ns) ∧ Below w.heap.size w w' :=
  (told_of_f w g N ms B N' x A C Q kd h n bk tv ns P hP ht hT hn).mono fun _ _ ⟨v, e1, s, b⟩ => ⟨v, e1, s.sl, b⟩
theorem all_i (w : World) (B N x : Nat) (A : As) (C : Cs) (Q : Qs) (kd : Ks) (h : Ix w B N x A C Q kd) (n : Tx) (hn : n.size ≤ maxLen) (l : List Sr) (hl : ∀ s, Q s → s ∈ l) (hm : l.length ≤ 3518437208883) :
    Calls Tryz.prog 18 #[.pointer (some ⟨x, 0, none⟩), .string n] w fun e w' => ∃ ns v, e = .returned v ∧ Tn (fun s => Q s ∧ s.1 = n) ns ∧ Sl w' (fun k => w.heap.size ≤ k) v (rsOf ns) ∧ Below w.heap.size w w' :=
  (all_i_f w B N x A C Q kd h n hn l hl hm).mono fun _ _ ⟨ns, v, e1, t, s, b⟩ => ⟨ns, v, e1, t, s.sl, b⟩
theorem names_i (w : World) (B N x : Nat) (A : As) (C : Cs) (Q : Qs) (kd : Ks) (h : Ix w B N x A C Q kd) (l : List Sr) (hl : ∀ s, Q s → s ∈ l) (hm : l.length ≤ 3518437208883) :
    Calls Tryz.prog 15 #[.pointer (some ⟨x, 0, none⟩)] w fun e w' => ∃ ns v, e = .returned v ∧ Ns (fun n => ∃ s, Q s ∧ s.1 = n) ns ∧ w'.ownsRow w.heap.size 9 1 v ns.length (encs ns) ∧ Below w.heap.size w w' := by
  have ne : ∀ ns, Rw (C .G) ns → Ns (fun n => ∃ s, Q s ∧ s.1 = n) ns := fun ns r => ns_of r fun t => by
    rw [h.G t, po_ne]; exact h.hg t
  have K1 := Lib.hid (keys_G w x N _ _ (h.mem.bk .G x h.idx) (fun ns r => Nat.le_trans (Nat.le_trans (ns_len (ne ns r) l (fun s => s.1) (fun n ⟨s, hs, e⟩ => ⟨s, hl s hs, e⟩)) hm) (by decide)))
  have NE := Lib.hid ne
  clear h hl hm ne
  go_enter Tryz.func15, Tryz.ntmps15
  go_wp2_with (go_at_call 47; refine K1.out.mono ?_; clear K1; rintro e w2 ⟨ns, v, r, rfl, o, b2⟩; have R := Lib.hid r; have O := Lib.hid o; have B2 := Lib.hid b2; clear r o b2)
  go_ret
  exact ⟨ns, v, rfl, NE.out ns R.out, O.out, B2.out⟩
/-- A series of the name with the tag. -/
def Has (s : Sr) (k v : Tx) : Prop := ∃ i, i < s.2.length ∧ s.2.getD i t0 = (k, v)
theorem vb_iff {w : World} {B N x : Nat} {A : As} {C : Cs} {Q : Qs} {kd : Ks} (h : Ix w B N x A C Q kd) (n k : Tx) : A (.vb n k) ≠ none ↔ ∃ s v, Q s ∧ s.1 = n ∧ Has s k v := by
  rw [h.lk.hv n k]
  exact ⟨fun ⟨v, t, s, a, b, c, d⟩ => ⟨s, v, a, b, d⟩, fun ⟨s, v, a, b, d⟩ => ⟨v, tt s, s, a, b, rfl, d⟩⟩
theorem xb_iff {w : World} {B N x : Nat} {A : As} {C : Cs} {Q : Qs} {kd : Ks} (h : Ix w B N x A C Q kd) (n k v : Tx) : A (.xb n k v) ≠ none ↔ ∃ s, Q s ∧ s.1 = n ∧ Has s k v := by
  rw [h.lk.hx n k v]
  exact ⟨fun ⟨t, s, a, b, c, d⟩ => ⟨s, a, b, d⟩, fun ⟨s, a, b, d⟩ => ⟨tt s, s, a, b, rfl, d⟩⟩
theorem keys_i (w : World) (B N x : Nat) (A : As) (C : Cs) (Q : Qs) (kd : Ks) (h : Ix w B N x A C Q kd) (n : Tx) (hn : n.size ≤ maxLen) (l : List Sr) (hl : ∀ s, Q s → s ∈ l) (hm : l.length ≤ 1000000000000) :
    Calls Tryz.prog 19 #[.pointer (some ⟨x, 0, none⟩), .string n] w fun e w' => ∃ ns v, e = .returned v ∧ Ns (fun k => ∃ s v, Q s ∧ s.1 = n ∧ Has s k v) ns ∧ w'.ownsRow w.heap.size 9 1 v ns.length (encs ns) ∧ Below w.heap.size w w' := by
  have G1 := Lib.hid (group_rd w B N x A C Q kd h n hn)
  have ne : ∀ ns, Rw (TE A n) ns → Ns (fun k => ∃ s v, Q s ∧ s.1 = n ∧ Has s k v) ns := fun ns r => ns_of r fun t => by
    unfold TE; rw [po_ne]; exact vb_iff h n t
  have le : ∀ ns, Rw (TE A n) ns → ns.length ≤ 8796093022208 := fun ns r => by
    have := pigeon (a := ns) (b := (l.map fun s => (List.range 8).map fun i => Sa.bl (s.2.getD i t0).1).flatten) (nodup_lt r.1) (fun y hy => by
      obtain ⟨k, ⟨s, v, a, b, i, hi, e⟩, rfl⟩ := ((ne ns r).2 y).1 hy
      have h8 := (fm_size (h.fm s a)).2.2.1
      refine List.mem_flatten.2 ⟨_, List.mem_map.2 ⟨s, hl s a, rfl⟩, List.mem_map.2 ⟨i, List.mem_range.2 (by omega), by rw [e]⟩⟩)
    have e8 := flat_len (fun s i => Sa.bl (s.2.getD i t0).1) l
    omega
  have K1 := Lib.hid (fun (y : World) (g : Nat) (ms : Option Nat) (bk : Bk y g 2 ms N (TE A n)) => keys_T y g N ms _ bk le)
  have NE := Lib.hid ne
  clear h hn hl hm le ne
  go_enter Tryz.func19, Tryz.ntmps19
  go_wp2_with (first
    | (go_at_call 37; refine G1.out.mono ?_; clear G1; rintro e w1 ⟨g, ms, mt, rfl, b1, -, k0⟩; have B1 := Lib.hid b1; have K0 := Lib.hid k0; clear b1 k0)
    | (go_at_call 53; refine (K1.out w1 g mt K0.out).mono ?_; clear K1; rintro e w2 ⟨ns, v, r, rfl, o, b2⟩; have R := Lib.hid r; have O := Lib.hid o; have B2 := Lib.hid (B1.out.trans (b2.mono B1.out.size)); clear r o b2))
  go_ret
  exact ⟨ns, v, rfl, NE.out ns R.out, Go.Joins.ownsRow_le O.out B1.out.size, B2.out⟩
end Kp
end Go.Proofs.YtalanjhpacjmmaaGreat
