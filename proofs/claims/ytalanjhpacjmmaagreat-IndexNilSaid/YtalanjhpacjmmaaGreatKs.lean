/- New; the index as it is seen; awake. -/
import Derived.Test.YtalanjhpacjmmaaGreatKr
namespace Go.Proofs.YtalanjhpacjmmaaGreat
set_option maxRecDepth 100000
open Go.RowKit Go.Maps Go.ChangeMaps Go.MapKept Go.Sort Go.Shelf
namespace Ks
open Jb Ka Kb Kc Kd Kf Kg Kh Ki Kj Kk Kl Km Kn Ko Kp Kq Kr Sa Sb Sg Sp

/-- An index at x, in blocks from B on: the series of Q, and kinds; M is no less than the series. -/
def IX (w : World) (B N x M : Nat) (U : Nat → Prop) (Q : Qs) (kd : Kk.Ks) : Prop := ∃ A C, Ix w B N x A C Q kd ∧ (∀ r b, A r = some b → U b) ∧ ∃ l : List Sr, l.length ≤ M ∧ ∀ s, Q s → s ∈ l
/-- What stood in U, and what is new. -/
def New (U : Nat → Prop) (w w' : World) (k : Nat) : Prop := U k ∨ (w.heap.size ≤ k ∧ k < w'.heap.size)
theorem IX.below {w w' : World} {B N x M : Nat} {U : Nat → Prop} {Q : Qs} {kd : Kk.Ks} (h : IX w B N x M U Q kd) (b : Below w.heap.size w w') : IX w' B N x M U Q kd := by
  obtain ⟨A, C, i, u, l⟩ := h
  exact ⟨A, C, i.below b, u, l⟩
theorem IX.chg {w w' : World} {B N x M : Nat} {U T : Nat → Prop} {Q : Qs} {kd : Kk.Ks} (h : IX w B N x M U Q kd) (c : Chg w w' T) (ht : ∀ k, U k → ¬ T k) : IX w' B N x M U Q kd := by
  obtain ⟨A, C, i, u, l⟩ := h
  exact ⟨A, C, i.chg c (fun r b hr => ht b (u r b hr)), u, l⟩
theorem IX.imp {w : World} {B N x M : Nat} {U U' : Nat → Prop} {Q : Qs} {kd : Kk.Ks} (h : IX w B N x M U Q kd) (f : ∀ k, U k → U' k) : IX w B N x M U' Q kd := by
  obtain ⟨A, C, i, u, l⟩ := h
  exact ⟨A, C, i, fun r b hr => f b (u r b hr), l⟩
theorem IX.mono {w : World} {B N N' x M M' : Nat} {U : Nat → Prop} {Q : Qs} {kd : Kk.Ks} (h : IX w B N x M U Q kd) (hN : N ≤ N') (hM : M ≤ M') : IX w B N' x M' U Q kd := by
  obtain ⟨A, C, i, u, l, hl, e⟩ := h
  exact ⟨A, C, i.mono hN, u, l, Nat.le_trans hl hM, e⟩
theorem IX.lt {w : World} {B N x M : Nat} {U : Nat → Prop} {Q : Qs} {kd : Kk.Ks} (h : IX w B N x M U Q kd) : B ≤ x ∧ x < w.heap.size ∧ U x := by
  obtain ⟨A, C, i, u, _⟩ := h
  have := i.mem.lt _ x i.idx
  exact ⟨this.1, this.2, u _ x i.idx⟩
theorem IX.ext {w : World} {B N x M : Nat} {U : Nat → Prop} {Q Q' : Qs} {kd : Kk.Ks} (h : IX w B N x M U Q kd) (e : ∀ s, Q s ↔ Q' s) : IX w B N x M U Q' kd := by
  have : Q = Q' := by funext s; exact propext (e s)
  rw [← this]; exact h
theorem own_view {w w' : World} {B N x M : Nat} {U : Nat → Prop} {Q : Qs} {kd : Kk.Ks} {A A' : As} {C' : Cs} (u : ∀ r b, A r = some b → U b) (i : Ix w' B N x A' C' Q kd) (o : Own w w' A A') (l : ∃ l : List Sr, l.length ≤ M ∧ ∀ s, Q s → s ∈ l) : IX w' B N x M (New U w w') Q kd ∧ Chg w w' U := by
  refine ⟨⟨A', C', i, fun r b hr => ?_, l⟩, o.1.imp fun k ⟨r, _, hr⟩ _ => u r k hr⟩
  rcases o.2 r b hr with e | e
  · exact .inl (u r b e)
  · exact .inr ⟨e, (i.mem.lt r b hr).2⟩
theorem new_i (w : World) : Calls Tryz.prog 7 #[] w fun e w' => ∃ x, e = .returned (.pointer (some ⟨x, 0, none⟩)) ∧ IX w' w.heap.size 0 x 0 (fun k => w.heap.size ≤ k ∧ k < w'.heap.size) (fun _ => False) (fun _ _ => none) ∧ Below w.heap.size w w' := by
  go_enter Tryz.func7, Tryz.ntmps7
  go_wp2_with fail
  go_ret
  obtain ⟨W, hW⟩ : ∃ W, W = w.alloc (.cells #[.map none, .int .i64 0, .map none, .int .i64 0] 64) := ⟨_, rfl⟩
  have bks := grp_new w 64
  rw [← hW] at bks ⊢
  have hs : W.heap.size = w.heap.size + 1 := by rw [hW]; simp
  refine ⟨w.heap.size, rfl, ⟨setA (fun _ => none) .idx (some w.heap.size), fun _ _ => none, ⟨⟨fun r r' b hr hr' => ?_, fun r b hr => ?_, fun β g hg => ?_, fun β hβ => ?_⟩, ⟨fun n k hn => ?_, fun n k v hn => ?_, fun n k v t hn => ?_, fun n k => ?_, fun n k v => ?_, fun n k v t hp => ?_⟩, setA_same _ _ _, fun s hs => hs.elim, fun n => ?_, fun n => ?_, fun n t hn => ?_, fun s hs => hs.elim, fun n => ?_, fun n hn => ?_, fun n f hn => absurd rfl hn, fun n f q e => (nomatch e)⟩, fun r b hr => ?_, [], Nat.le_refl _, fun s hs => hs.elim⟩, by rw [hW]; exact (Below.refl _ w).alloc (Nat.le_refl _) _⟩
  · by_cases e : r = .idx
    · by_cases e' : r' = .idx
      · rw [e, e']
      · rw [setA_other e'] at hr'; cases hr'
    · rw [setA_other e] at hr; cases hr
  · by_cases e : r = .idx
    · subst e; rw [setA_same] at hr; cases hr; omega
    · rw [setA_other e] at hr; cases hr
  · by_cases e : host β = .idx
    · rw [e, setA_same] at hg; cases hg
      rw [setA_other (by simp)]
      cases β <;> simp [host] at e
      · exact bks.1
      · exact bks.2
    · rw [setA_other e] at hg; cases hg
  · exact setA_other (by simp)
  · rw [setA_other (by simp)] at hn; exact absurd rfl hn
  · rw [setA_other (by simp)] at hn; exact absurd rfl hn
  · rw [setA_other (by simp)] at hn; exact absurd rfl hn
  · rw [setA_other (by simp)]; exact ⟨fun e => absurd rfl e, fun ⟨v, t, s, hs, _⟩ => hs.elim⟩
  · rw [setA_other (by simp)]; exact ⟨fun e => absurd rfl e, fun ⟨t, s, hs, _⟩ => hs.elim⟩
  · obtain ⟨s, hs, _⟩ := hp; exact hs.elim
  · rw [setA_other (by simp)]; rfl
  · rw [setA_other (by simp)]; exact ⟨fun e => absurd rfl e, fun ⟨s, hs, _⟩ => hs.elim⟩
  · rw [setA_other (by simp)] at hn; exact absurd rfl hn
  · rw [setA_other (by simp)]; rfl
  · rw [setA_other (by simp)] at hn; exact absurd rfl hn
  · by_cases e : r = .idx
    · subst e; rw [setA_same] at hr; cases hr; omega
    · rw [setA_other e] at hr; cases hr
/-- What Add answers. -/
noncomputable def aok (Q : Qs) (s : Sr) : Bool := by classical exact fm s && decide (¬ Q s)
def aerr (s : Sr) : Int := if fm s then 0 else 1
/-- What it leaves. -/
def aset (Q : Qs) (s : Sr) : Qs := fun q => Q q ∨ (q = s ∧ fm s = true)
theorem add_i (w : World) (B N x M : Nat) (U : Nat → Prop) (Q : Qs) (kd : Kk.Ks) (h : IX w B N x M U Q kd) (hB : B ≤ w.heap.size) (s : Sr) (v : Value) (hi : In w s v) (hN : N + 100 < maxLen)
    (hU : ∀ b off l c, v = .slice (some ⟨b, off, none⟩) l c → 0 < l → ¬ U b) :
    Calls Tryz.prog 11 #[.pointer (some ⟨x, 0, none⟩), .agg #[.string s.1, v]] w fun e w' => e = .returned (.tuple #[.bool (aok Q s), .int .i64 (aerr s)]) ∧ IX w' B (N + 30) x (M + 1) (New U w w') (aset Q s) kd ∧ Chg w w' U := by
  have h0 := h
  obtain ⟨A, C, i, u, l, hl, e⟩ := h
  have keep : ∀ w', Below w.heap.size w w' → (∀ q, aset Q s q ↔ Q q) → IX w' B (N + 30) x (M + 1) (New U w w') (aset Q s) kd ∧ Chg w w' U := fun w' b eq =>
    ⟨(((h0.below b).mono (by omega) (by omega)).imp fun k hk => .inl hk).ext fun q => (eq q).symm, Chg.of_below b (Nat.le_refl _) _⟩
  cases hf : fm s with
  | false =>
    refine (add_bad w _ s v hi hf).mono ?_
    rintro e' w' ⟨rfl, b⟩
    refine ⟨by simp [aok, aerr, hf], keep w' b fun q => ?_⟩
    unfold aset; rw [hf]; simp
  | true =>
    by_cases hs : Q s
    · refine (add_old w B N x A C Q kd i hB s v hi hs).mono ?_
      rintro e' w' ⟨rfl, b⟩
      refine ⟨by simp [aok, aerr, hf, hs], keep w' b fun q => ?_⟩
      unfold aset
      exact ⟨fun h => h.elim id (fun h => h.1 ▸ hs), .inl⟩
    · refine (add_new w B N x A C Q kd i hB s v hi hf hs hN (fun b off l c e' hl' r hr => hU b off l c e' hl' (u r b hr))).mono ?_
      rintro e' w' ⟨rfl, A', C', i', o⟩
      refine ⟨by simp [aok, aerr, hf, hs], ?_⟩
      have eq : ∀ q, (Q q ∨ q = s) ↔ aset Q s q := fun q => by unfold aset; rw [hf]; simp
      refine own_view u (i'.ext eq) o ⟨s :: l, by simpa using hl, fun q hq => ?_⟩
      rcases (eq q).2 hq with h | h
      · exact List.mem_cons_of_mem _ (e q h)
      · exact h ▸ List.mem_cons_self
/-! awake. -/
def cpu : Tx := ⟨#[99, 112, 117]⟩
theorem fm_cpu : fm (cpu, []) = true := by decide
theorem sl_len {w : World} {P : Nat → Prop} {v : Value} {rs : List Sr} (h : Sl w P v rs) : ∃ a c, v = .slice a rs.length c := h.forms
theorem tn_one {s : Sr} {P : Sr → Prop} {ns : List (List UInt8)} (h : Tn P ns) (e : ∀ q, P q ↔ q = s) : ns.length = 1 := by
  have e1 : ns = [txt s] := by
    refine rows_ext h.1 (by simp) fun x => ?_
    rw [h.2 x]
    constructor
    · rintro ⟨q, hq, rfl⟩; rw [(e q).1 hq]; simp
    · intro hx
      simp at hx
      exact ⟨s, (e s).2 rfl, hx.symm⟩
  rw [e1]; rfl
theorem awake_i (w : World) : Calls Tryz.prog 6 #[] w fun e w' => e = .returned (.bool true) ∧ Below w.heap.size w w' := by
  have N1 := Lib.hid (new_i w)
  have A1 := Lib.hid (fun (y : World) (x : Nat) (b : Below w.heap.size w y) (i : IX y w.heap.size 0 x 0 (fun k => w.heap.size ≤ k ∧ k < y.heap.size) (fun _ => False) (fun _ _ => none)) =>
    add_i y w.heap.size 0 x 0 _ _ _ i b.size (cpu, []) (.slice none 0 0) ⟨.inl ⟨none, 0, rfl, rfl⟩, by decide, fun x hx => by simp at hx, by simp⟩ (by unfold maxLen; omega) (fun b off l c e => by cases e))
  have ea : aok (fun _ => False) (cpu, []) = true := by simp [aok, fm_cpu]
  have ee : aerr (cpu, []) = 0 := by simp [aerr, fm_cpu]
  rw [ea, ee] at A1
  have L1 := Lib.hid (fun (y : World) (x N M : Nat) (U : Nat → Prop) (hM : M ≤ 1) (i : IX y w.heap.size N x M U (aset (fun _ => False) (cpu, [])) (fun _ _ => none)) => (show Calls Tryz.prog 18 #[.pointer (some ⟨x, 0, none⟩), .string cpu] y fun e w' => ∃ a c, e = .returned (.slice a 1 c) ∧ Below y.heap.size y w' from by
    obtain ⟨A, C, ix, _, l, hl, e⟩ := i
    refine (all_i y w.heap.size N x A C _ _ ix cpu (by decide) l e (by omega)).mono ?_
    rintro e' w' ⟨ns, v, rfl, t, s, b⟩
    obtain ⟨a, c, rfl⟩ := s.forms
    have e1 : ns.length = 1 := tn_one (s := (cpu, [])) t fun q => by
      unfold aset
      constructor
      · rintro ⟨h | h, _⟩
        · exact h.elim
        · exact h.1
      · intro h; subst h; exact ⟨.inr ⟨rfl, fm_cpu⟩, rfl⟩
    rw [rsOf_len, e1]
    exact ⟨a, c, rfl, b⟩))
  clear ea ee
  unfold cpu at A1 L1
  simp only at A1
  go_enter Tryz.func6, Tryz.ntmps6
  go_wp2_with (first
    | (go_at_call 7; refine N1.out.mono ?_; clear N1; rintro e w1 ⟨x, rfl, i1, b1⟩; have I1 := Lib.hid i1; have B1 := Lib.hid b1; clear i1 b1)
    | (go_at_call 11; refine (A1.out w1 x B1.out I1.out).mono ?_; clear A1; rintro e w2 ⟨rfl, i2, c2⟩; have I2 := Lib.hid i2; have B2 := Lib.hid (B1.out.trans (c2.below (fun k hk _ => hk.1) B1.out.size)); clear i2 c2)
    | (go_at_call 18; refine (L1.out w2 x _ _ _ (by omega) I2.out).mono ?_; clear L1; rintro e w3 ⟨a, c, rfl, b3⟩; have B3 := Lib.hid (B2.out.trans (b3.mono B2.out.size)); clear b3))
  go_ret
  exact ⟨rfl, B3.out⟩
end Ks
end Go.Proofs.YtalanjhpacjmmaaGreat
