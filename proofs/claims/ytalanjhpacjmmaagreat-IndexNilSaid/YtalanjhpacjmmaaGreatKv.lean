/- A nil index. -/
import Derived.Test.YtalanjhpacjmmaaGreatKs
namespace Go.Proofs.YtalanjhpacjmmaaGreat
set_option maxRecDepth 100000
open Go.RowKit Go.Maps Go.ChangeMaps Go.MapKept Go.Sort Go.Shelf
namespace Kv
open Jb Ka Kb Kc Kd Kf Kg Kh Ki Kj Kk Kl Km Kn Ko Kp Kq Kr Ks Sa Sb Sg Sp

noncomputable def A0 (g : Nat) : As := setA (fun _ => none) .idx (some g)
def C0 : Cs := fun _ _ => none
/-- Two empty books in a block are an index without series. -/
theorem empty_ix (w : World) (B g : Nat) (hB : B ≤ g) (b0 : Bk w g 0 none 0 (fun _ => none)) (b2 : Bk w g 2 none 0 (fun _ => none)) : Ix w B 0 g (A0 g) C0 (fun _ => False) (fun _ _ => none) := by
  unfold A0 C0
  refine ⟨⟨fun r r' b hr hr' => ?_, fun r b hr => ?_, fun β g' hg => ?_, fun β hβ => ?_⟩, ⟨fun n k hn => ?_, fun n k v hn => ?_, fun n k v t hn => ?_, fun n k => ?_, fun n k v => ?_, fun n k v t hp => ?_⟩, setA_same _ _ _, fun s hs => hs.elim, fun n => ?_, fun n => ?_, fun n t hn => ?_, fun s hs => hs.elim, fun n => ?_, fun n hn => ?_, fun n f hn => absurd rfl hn, fun n f q e => (nomatch e)⟩
  · by_cases e : r = .idx
    · by_cases e' : r' = .idx
      · rw [e, e']
      · rw [setA_other e'] at hr'; cases hr'
    · rw [setA_other e] at hr; cases hr
  · by_cases e : r = .idx
    · subst e; rw [setA_same] at hr; cases hr; exact ⟨hB, b0.lt⟩
    · rw [setA_other e] at hr; cases hr
  · by_cases e : host β = .idx
    · rw [e, setA_same] at hg; cases hg
      rw [setA_other (by simp)]
      cases β <;> simp [host] at e
      · exact b0
      · exact b2
    · rw [setA_other e] at hg; cases hg
  · exact setA_other (by simp)
  · rw [setA_other (by simp)] at hn; exact absurd rfl hn
  · rw [setA_other (by simp)] at hn; exact absurd rfl hn
  · rw [setA_other (by simp)] at hn; exact absurd rfl hn
  · rw [setA_other (by simp)]; exact ⟨fun e => absurd rfl e, fun ⟨v, t, s, hs, _⟩ => hs.elim⟩
  · rw [setA_other (by simp)]; exact ⟨fun e => absurd rfl e, fun ⟨t, s, hs, _⟩ => hs.elim⟩
  · obtain ⟨s, hs, _⟩ := hp; exact hs.elim
  · rw [setA_other (by simp)]; rfl
  · rw [setA_other (by simp)]; exact ⟨fun e => absurd rfl e, fun ⟨s, hs, _⟩ => hs.elim⟩
  · rw [setA_other (by simp)] at hn; exact absurd rfl hn
  · rw [setA_other (by simp)]; rfl
  · rw [setA_other (by simp)] at hn; exact absurd rfl hn
theorem SE0 (g : Nat) (n : Tx) : SE (A0 g) C0 n = fun _ => none := by
  funext t; unfold SE A0 C0; split <;> rfl
theorem TE0 (g : Nat) (n : Tx) : TE (A0 g) n = fun _ => none := by
  funext t; unfold TE A0; rw [setA_other (by simp)]; rfl
theorem rw_nil {ns : List (List UInt8)} (h : Rw (fun _ => none) ns) : ns = [] := by
  cases ns with
  | nil => rfl
  | cons a r => obtain ⟨t, ht, _⟩ := (h.2 a).1 (by simp); exact absurd rfl ht
theorem tn_nil {P : Sr → Prop} {ns : List (List UInt8)} (h : Tn P ns) (e : ∀ s, ¬ P s) : ns = [] := by
  cases ns with
  | nil => rfl
  | cons a r => obtain ⟨t, ht, _⟩ := (h.2 a).1 (by simp); exact absurd ht (e t)
/-- Telling no series. -/
theorem told_nil (w : World) (g : Nat) (b0 : Bk w g 0 none 0 (fun _ => none)) (b2 : Bk w g 2 none 0 (fun _ => none)) (v : Value) (hv : Tl w v []) :
    Calls Tryz.prog 51 #[.pointer (some ⟨g, 0, none⟩), v] w fun e w' => ∃ a c, e = .returned (.slice a 0 c) ∧ Below w.heap.size w w' := by
  refine (told_of w g 0 none 0 0 g (A0 g) C0 _ _ (empty_ix w 0 g (Nat.zero_le _) b0 b2) ⟨#[]⟩ (by rw [SE0]; exact b0) v [] (fun _ => False) (fun s h => h.elim) hv ⟨List.Pairwise.nil, fun x => ⟨fun h => by simp at h, fun ⟨s, hs, _⟩ => hs.elim⟩⟩ (Nat.zero_le _)).mono ?_
  rintro e w' ⟨v, rfl, s, b⟩
  obtain ⟨a, c, rfl⟩ := s.forms
  exact ⟨a, c, by simp [rsOf], b⟩
theorem keys_none (w : World) (g : Nat) (b0 : Bk w g 0 none 0 (fun _ => none)) :
    Calls Tryz.prog 52 #[.pointer (some ⟨g, 0, none⟩)] w fun e w' => ∃ v, e = .returned v ∧ Tl w' v [] ∧ Below w.heap.size w w' := by
  refine (keys_S w g 0 none _ b0 (fun ns r => by rw [rw_nil r]; simp)).mono ?_
  rintro e w' ⟨ns, v, r, rfl, o, b⟩
  obtain rfl := rw_nil r
  exact ⟨v, rfl, tl_own o, b⟩
theorem all_nil (w : World) (n : Tx) : Calls Tryz.prog 18 #[.pointer none, .string n] w fun e w' => ∃ a c, e = .returned (.slice a 0 c) ∧ Below w.heap.size w w' := by
  have G1 := Lib.hid (group_nil w n)
  have K1 := Lib.hid (fun (y : World) (g : Nat) (b0 : Bk y g 0 none 0 (fun _ => none)) => keys_none y g b0)
  have T1 := Lib.hid (fun (y : World) (g : Nat) (b0 : Bk y g 0 none 0 (fun _ => none)) (b2 : Bk y g 2 none 0 (fun _ => none)) (v : Value) (hv : Tl y v []) => told_nil y g b0 b2 v hv)
  go_enter Tryz.func18, Tryz.ntmps18
  go_wp2_with (first
    | (go_at_call 37; refine G1.out.mono ?_; clear G1; rintro e w1 ⟨g, rfl, b1, -, k0, k2⟩; have B1 := Lib.hid b1; have K0 := Lib.hid k0; have K2 := Lib.hid k2; clear b1 k0 k2)
    | (go_at_call 52; refine (K1.out w1 g K0.out).mono ?_; clear K1; rintro e w2 ⟨v, rfl, t, b2⟩; have TT := Lib.hid t; have B2 := Lib.hid b2; clear t b2)
    | (go_at_call 51; refine (T1.out w2 g (K0.out.below B2.out) (K2.out.below B2.out) v TT.out).mono ?_; clear T1; rintro e w3 ⟨a, c, rfl, b3⟩; have B3 := Lib.hid b3; clear b3))
  go_ret
  have b12 := B1.out.trans (B2.out.mono B1.out.size)
  exact ⟨_, _, rfl, b12.trans (B3.out.mono b12.size)⟩
theorem keys_nil (w : World) (n : Tx) : Calls Tryz.prog 19 #[.pointer none, .string n] w fun e w' => ∃ a c, e = .returned (.slice a 0 c) ∧ Below w.heap.size w w' := by
  have G1 := Lib.hid (group_nil w n)
  have K1 := Lib.hid (fun (y : World) (g : Nat) (b2 : Bk y g 2 none 0 (fun _ => none)) => keys_T y g 0 none _ b2 (fun ns r => by rw [rw_nil r]; simp))
  go_enter Tryz.func19, Tryz.ntmps19
  go_wp2_with (first
    | (go_at_call 37; refine G1.out.mono ?_; clear G1; rintro e w1 ⟨g, rfl, b1, -, -, k2⟩; have B1 := Lib.hid b1; have K2 := Lib.hid k2; clear b1 k2)
    | (go_at_call 53; refine (K1.out w1 g K2.out).mono ?_; clear K1; rintro e w2 ⟨ns, v, r, rfl, o, b2⟩; have R := Lib.hid r; have O := Lib.hid o; have B2 := Lib.hid b2; clear r o b2))
  go_ret
  obtain rfl := rw_nil R.out
  obtain ⟨a, c, rfl⟩ := own_forms2 O.out
  exact ⟨_, _, rfl, B1.out.trans (B2.out.mono B1.out.size)⟩
theorem values_nil (w : World) (n k : Tx) (hk : k.size ≤ maxLen) : Calls Tryz.prog 20 #[.pointer none, .string n, .string k] w fun e w' => e = .returned (.slice none 0 0) ∧ Below w.heap.size w w' := by
  have G1 := Lib.hid (group_nil w n)
  have H1 := Lib.hid (fun (y : World) (g : Nat) (b2 : Bk y g 2 none 0 (fun _ => none)) => get_T y g 0 none _ b2 k hk)
  simp only [Option.getD_none] at H1
  have K1 := Lib.hid keysn_V
  go_enter Tryz.func20, Tryz.ntmps20
  go_wp2_with (first
    | (go_at_call 37; refine G1.out.mono ?_; clear G1; rintro e w1 ⟨g, rfl, b1, -, -, k2⟩; have B1 := Lib.hid b1; have K2 := Lib.hid k2; clear b1 k2)
    | (go_at_call 54; refine (H1.out w1 g K2.out).mono ?_; clear H1; rintro e w1 ⟨rfl, rfl⟩)
    | (go_at_call 55; refine (K1.out w1).mono ?_; clear K1; rintro e w1 ⟨rfl, rfl⟩))
  go_ret
  exact ⟨rfl, B1.out⟩
theorem with_nil (w : World) (n k : Tx) : Calls Tryz.prog 21 #[.pointer none, .string n, .string k, .string ⟨#[]⟩] w fun e w' => ∃ a c, e = .returned (.slice a 0 c) ∧ Below w.heap.size w w' := by
  have G1 := Lib.hid (group_nil w n)
  have W1 := Lib.hid (fun (y : World) (g : Nat) (b0 : Bk y g 0 none 0 (fun _ => none)) (b2 : Bk y g 2 none 0 (fun _ => none)) => without_g y g 0 none 0 0 g (A0 g) C0 _ _ (empty_ix y 0 g (Nat.zero_le _) b0 b2) n k (by rw [SE0]; exact b0) [] (fun s h => h.elim) (Nat.zero_le _))
  have T1 := Lib.hid (fun (y : World) (g : Nat) (b0 : Bk y g 0 none 0 (fun _ => none)) (b2 : Bk y g 2 none 0 (fun _ => none)) (v : Value) (hv : Tl y v []) => told_nil y g b0 b2 v hv)
  go_enter Tryz.func21, Tryz.ntmps21
  go_wp2_with (first
    | (go_at_call 37; refine G1.out.mono ?_; clear G1; rintro e w1 ⟨g, rfl, b1, -, k0, k2⟩; have B1 := Lib.hid b1; have K0 := Lib.hid k0; have K2 := Lib.hid k2; clear b1 k0 k2)
    | (go_at_call 56; refine (W1.out w1 g K0.out K2.out).mono ?_; clear W1; rintro e w2 ⟨ns, v, rfl, o, t, -, b2⟩; (obtain rfl := tn_nil t (fun s h => h.1)); have TT := Lib.hid o; have B2 := Lib.hid b2; clear o t b2)
    | (go_at_call 51; refine (T1.out w2 g (K0.out.below B2.out) (K2.out.below B2.out) v TT.out).mono ?_; clear T1; rintro e w3 ⟨a, c, rfl, b3⟩; have B3 := Lib.hid b3; clear b3))
  go_ret
  have b12 := B1.out.trans (B2.out.mono B1.out.size)
  exact ⟨_, _, rfl, b12.trans (B3.out.mono b12.size)⟩
theorem names_nil (w : World) : Calls Tryz.prog 15 #[.pointer none] w fun e w' => e = .returned (.slice none 0 0) ∧ w' = w := by
  go_enter Tryz.func15, Tryz.ntmps15
  go_wp2_with fail
  go_ret
  exact ⟨rfl, rfl⟩
theorem forget_nil (w : World) (n : Tx) : Calls Tryz.prog 24 #[.pointer none, .string n] w fun e w' => e = .returned (.int .i64 0) ∧ w' = w := by
  go_enter Tryz.func24, Tryz.ntmps24
  go_wp2_with fail
  go_ret
  exact ⟨rfl, rfl⟩
theorem setkind_nil (w : World) (n f : Tx) (q : Int) : Calls Tryz.prog 22 #[.pointer none, .string n, .string f, .int .i64 q] w fun e w' => e = .returned (.int .i64 1) ∧ w' = w := by
  go_enter Tryz.func22, Tryz.ntmps22
  go_wp2_with fail
  go_ret
  exact ⟨rfl, rfl⟩
theorem kinds_nil (w : World) (n : Tx) : Calls Tryz.prog 49 #[.pointer none, .string n] w fun e w' => e = .returned (.pointer none) ∧ w' = w := by
  go_enter Tryz.func49, Tryz.ntmps49
  go_wp2_with fail
  go_ret
  exact ⟨rfl, rfl⟩
theorem kind_nil (w : World) (n f : Tx) : Calls Tryz.prog 17 #[.pointer none, .string n, .string f] w fun e w' => e = .returned (.tuple #[.int .i64 0, .bool false]) ∧ Below w.heap.size w w' := by
  have K1 := Lib.hid (kinds_nil w n)
  have G1 := Lib.hid (getn_F w f)
  go_enter Tryz.func17, Tryz.ntmps17
  go_wp2_with (first
    | (go_at_call 49; refine K1.out.mono ?_; clear K1; rintro e w1 ⟨rfl, rfl⟩)
    | (go_at_call 50; refine G1.out.mono ?_; clear G1; rintro e w2 ⟨rfl, b2⟩; have B2 := Lib.hid b2; clear b2))
  go_ret2
  exact ⟨rfl, B2.out⟩
theorem fields_nil (w : World) (n : Tx) : Calls Tryz.prog 23 #[.pointer none, .string n] w fun e w' => e = .returned (.slice none 0 0) ∧ w' = w := by
  have K1 := Lib.hid (kinds_nil w n)
  have G1 := Lib.hid (keysn_F w)
  go_enter Tryz.func23, Tryz.ntmps23
  go_wp2_with (first
    | (go_at_call 49; refine K1.out.mono ?_; clear K1; rintro e w1 ⟨rfl, rfl⟩)
    | (go_at_call 62; refine G1.out.mono ?_; clear G1; rintro e w2 ⟨rfl, rfl⟩))
  go_ret
  exact ⟨rfl, rfl⟩
theorem drop_nil (w : World) (s : Sr) (v : Value) (h : In w s v) :
    Calls Tryz.prog 13 #[.pointer none, .agg #[.string s.1, v]] w fun e w' => e = .returned (.bool false) ∧ Below w.heap.size w w' := by
  obtain ⟨n, L⟩ := s
  obtain ⟨a, c, rfl⟩ := h.ti.forms
  obtain ⟨m, hm⟩ : ∃ m, m = L.length := ⟨_, rfl⟩
  obtain ⟨W, hW⟩ : ∃ W, W = w.alloc (.cells #[.string n, .slice a m c] 30) := ⟨_, rfl⟩
  obtain ⟨y, hy⟩ : ∃ y, y = w.heap.size := ⟨_, rfl⟩
  have bW : Below w.heap.size w W := by rw [hW]; exact (Below.refl _ w).alloc (Nat.le_refl _) _
  have c0 : W.cell? ⟨y, 0, none⟩ = some (.string n) := by rw [hW, hy]; exact new_cell _ _ _ 0 _ rfl
  have c1 : W.cell? ⟨y, 1, none⟩ = some (.slice a m c) := by rw [hW, hy]; exact new_cell _ _ _ 1 _ rfl
  have CC := Lib.hid (show ∀ z, Below W.heap.size W z → z.cell? ⟨y, 0, none⟩ = some (.string n) from fun z b => (b.cell (p := ⟨y, 0, none⟩) (cell_lt c0)).trans c0)
  have T := Lib.hid (text_in W (n, L) _ (h.below bW))
  have GN := Lib.hid (fun z => group_nil z n)
  have BW := Lib.hid bW
  simp only at T ⊢
  rw [← hm] at T ⊢
  cases hf : fm (n, L) with
  | false =>
    rw [show terr (n, L) = 1 by rw [terr, hf]; rfl] at T
    obtain ⟨X, hX⟩ : ∃ X, X = tstr (n, L) := ⟨_, rfl⟩
    rw [← hX] at T
    clear h bW hm hf hX
    go_enter Tryz.func13, Tryz.ntmps13
    go_upto_region 1 with (fail)
    rw [← hW, ← hy]
    clear hW hy
    go_wp2_with (first
      | (go_at_call 36; refine T.out.mono ?_; clear T; rintro e w1 ⟨rfl, b1⟩; have B1 := Lib.hid b1; have c0' := CC.out w1 b1; clear b1)
      | (go_at_call 37; refine (GN.out w1).mono ?_; clear GN; rintro e w2 ⟨g, rfl, b2, -, k0, k2⟩; have B2 := Lib.hid b2; clear b2 k0 k2))
    go_ret
    exact ⟨rfl, (BW.out.trans (B1.out.mono BW.out.size)).trans (B2.out.mono (BW.out.trans (B1.out.mono BW.out.size)).size)⟩
  | true =>
    rw [tstr_fm hf, terr_fm hf] at T
    have sz := (fm_size hf).2.1
    obtain ⟨X, hX⟩ : ∃ X, X = tt (n, L) := ⟨_, rfl⟩
    rw [← hX] at T sz
    have HS := Lib.hid (fun (z : World) (g : Nat) (b0 : Bk z g 0 none 0 (fun _ => none)) => has_S z g 0 none _ b0 X (by unfold maxLen; omega) ⟨#[]⟩ none 0 0 rfl)
    simp only [Option.isSome_none] at HS
    clear h bW hm hf hX sz
    go_enter Tryz.func13, Tryz.ntmps13
    go_upto_region 1 with (fail)
    rw [← hW, ← hy]
    clear hW hy
    go_wp2_with (first
      | (go_at_call 36; refine T.out.mono ?_; clear T; rintro e w1 ⟨rfl, b1⟩; have B1 := Lib.hid b1; have c0' := CC.out w1 b1; clear b1)
      | (go_at_call 37; refine (GN.out w1).mono ?_; clear GN; rintro e w2 ⟨g, rfl, b2, -, k0, k2⟩; have B2 := Lib.hid b2; have K0 := Lib.hid k0; clear b2 k0 k2)
      | (go_at_call 38; refine (HS.out w2 g K0.out).mono ?_; clear HS; rintro e w3 ⟨rfl, b3⟩; have B3 := Lib.hid b3; clear b3))
    go_ret
    have b12 := (BW.out.trans (B1.out.mono BW.out.size)).trans (B2.out.mono (BW.out.trans (B1.out.mono BW.out.size)).size)
    exact ⟨rfl, by first | exact b12.trans (B3.out.mono b12.size) | (cases B3.out; exact b12)⟩
end Kv
end Go.Proofs.YtalanjhpacjmmaaGreat
