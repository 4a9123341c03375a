/- The program's side: Unpack. -/
import Derived.Test.YtidbpoigbfpocaaDoorRx
import Derived.Test.YtidbpoigbfpocaaDoorRp
namespace Go.Proofs.YtidbpoigbfpocaaDoor
open Go.RowKit
namespace Ux
open Mt Wr Bm Pk Rp Cv Rd Rx

/-- What Unpack answers. -/
def Unpacked (w : World) (bs : List Nat) (n : Int) (e : Ending) (w' : World) : Prop :=
  ((∃ l r, unpacks bs n = some l ∧ e = .returned (.tuple #[r, .int .i64 0]) ∧ w'.ownsRow w.heap.size 35 1 r l.length (u64s l) ∧ Small l ∧ (l.length : Int) = n) ∨
    (unpacks bs n = none ∧ e = .returned (.tuple #[.slice none 0 0, .int .i64 2]))) ∧ Below w.heap.size w w'

theorem small64 {l : List Nat} (h : Small l) : ∀ x ∈ l, x < 18446744073709551616 := fun x hx => Nat.lt_trans (h x hx) (by decide)

theorem got_len (bs : List Nat) (n : Int) : (got bs n).length ≤ min n.toNat (60 * (bs.length / 8)) := by
  unfold got
  split
  · simp
  · cases h : reads n.toNat [] (wordsOf bs (bs.length / 8)) with
    | none => simp
    | some l =>
      have h1 := reads_le h (Nat.zero_le _)
      have h2 := reads_len h
      rw [wordsOf_len, List.length_nil] at h2
      simp only [Option.getD_some]
      omega


set_option maxRecDepth 100000 in
set_option maxHeartbeats 1000000 in
theorem unpack11 (w : World) (v : Value) (bs : List Nat) (n : Int) (hP : Pl w v bs) (hIs : Is w v bs) (hX : ∀ b ∈ bs, b < 256) (hT : Tab w) (hb : bs.length ≤ 140737488353272) (hbd : min n.toNat (60 * (bs.length / 8)) ≤ 17592186044159)
    (n1 : -9223372036854775808 ≤ n) (n2 : n ≤ 9223372036854775807) : Calls Tryd.prog 51 #[v, .int .i64 n] w fun e w' => Unpacked w bs n e w' := by
  have F18 := Lib.hid (read18 w v bs n hIs hX hT hb hbd n1 n2)
  have hgl := Nat.le_trans (got_len bs n) hbd
  have hgu := got_unpacks bs n
  obtain ⟨l, hl⟩ : ∃ l, l = got bs n := ⟨_, rfl⟩
  have hS : Small l := by rw [hl]; exact got_small bs n
  rw [← hl] at F18 hgu hgl
  have F16 : Hid (∀ x r B, Below w.heap.size w x → World.ownsRow x B 35 1 r l.length (u64s l) → Calls Tryd.prog 34 #[r] x fun e w' => ∃ r', e = .returned r' ∧ (convert 24 9 r').run Tryd.prog w' = .ok (.string (str (packs l))) w' ∧ (convert 24 9 v).run Tryd.prog w' = .ok (.string (str bs)) w' ∧ w'.ownsRow B 35 1 r l.length (u64s l) ∧ Below w.heap.size w w') :=
    Lib.hid fun x r B hb ho => (packed16 x r l (iu_own ho (small64 hS)) hS (hT.below hb hT.1) hgl).mono fun e w' ⟨r', he, ho', bl⟩ =>
      ⟨r', he, conv_own ho', conv_pl (hP.below (hb.trans (bl.mono hb.size))), own_below ho bl, hb.trans (bl.mono hb.size)⟩
  have hne : packs l ≠ bs → ((str (packs l)).toList == (str bs).toList) = false := fun h => toList_ne fun e => h (str_inj (flat_lt _) hX e)
  have heq : packs l = bs → str (packs l) = str bs := fun h => by rw [h]
  have HS := Lib.hid hS
  have HGU := Lib.hid hgu
  have HEQ := Lib.hid heq
  have HNE := Lib.hid hne
  obtain ⟨S, hSS⟩ : ∃ S, S = str (packs l) := ⟨_, rfl⟩
  obtain ⟨T, hTT⟩ : ∃ T, T = str bs := ⟨_, rfl⟩
  rw [← hSS] at HEQ HNE F16
  rw [← hTT] at HEQ HNE F16
  obtain ⟨m, hm⟩ : ∃ m, m = l.length := ⟨_, rfl⟩
  rw [← hm] at F18 F16 hgl
  have HM := Lib.hid hm
  clear hl hS hgu hP hIs hX hT hne heq hSS hTT hm
  by_cases h1 : (m : Int) = n
  · by_cases h2 : packs l = bs
    · have hu : Hid (unpacks bs n = some l) := Lib.hid (by rw [← HGU.out, ← HM.out, if_pos ⟨h1, h2⟩])
      obtain rfl := HEQ.out h2
      have FE : Hid (∀ x u v, (convert 24 9 u).run Tryd.prog x = .ok (.string S) x → (convert 24 9 v).run Tryd.prog x = .ok (.string S) x → Calls Tryd.prog 30 #[u, v] x fun e w' => e = .returned (.bool true) ∧ w' = x) := Lib.hid fun x u v => equal_yes x u v S
      clear h2
      go_enter Tryd.func51, Tryd.ntmps51
      go_wp2_with (go_at_call 54; refine F18.out.mono ?_; rintro e w2 ⟨r, rfl, o2, b2⟩; obtain ⟨a2, c2, rfl⟩ := slice_of' o2; have O2 := Lib.hid o2; have B2 := Lib.hid b2; clear o2 b2)
      refine (F16.out _ _ _ B2.out O2.out).mono ?_
      rintro e w3 ⟨r3, rfl, q1, q2, o3, b3⟩
      have O3 := Lib.hid o3
      have B3 := Lib.hid b3
      have F19 := Lib.hid (FE.out _ _ _ q1 q2)
      clear o3 b3 q1 q2
      go_wp2_with (go_at_call 30; refine F19.out.mono ?_; rintro e w4 ⟨rfl, rfl⟩)
      go_ret2
      exact ⟨.inl ⟨l, _, hu.out, rfl, by rw [← HM.out]; exact O3.out, HS.out, by rw [← HM.out]; exact h1⟩, B3.out⟩
    · have hu : Hid (unpacks bs n = none) := Lib.hid (by rw [← HGU.out, if_neg fun h => h2 h.2])
      have hst := HNE.out h2
      have FE : Hid (∀ x u v, (convert 24 9 u).run Tryd.prog x = .ok (.string S) x → (convert 24 9 v).run Tryd.prog x = .ok (.string T) x → Calls Tryd.prog 30 #[u, v] x fun e w' => e = .returned (.bool false) ∧ w' = x) := Lib.hid fun x u v h3 h4 => equal_no x u v S T h3 h4 hst
      clear h2 hst
      go_enter Tryd.func51, Tryd.ntmps51
      go_wp2_with (go_at_call 54; refine F18.out.mono ?_; rintro e w2 ⟨r, rfl, o2, b2⟩; obtain ⟨a2, c2, rfl⟩ := slice_of' o2; have O2 := Lib.hid o2; have B2 := Lib.hid b2; clear o2 b2)
      refine (F16.out _ _ _ B2.out O2.out).mono ?_
      rintro e w3 ⟨r3, rfl, q1, q2, o3, b3⟩
      have B3 := Lib.hid b3
      have F19 := Lib.hid (FE.out _ _ _ q1 q2)
      clear o3 b3 q1 q2
      go_wp2_with (go_at_call 30; refine F19.out.mono ?_; rintro e w4 ⟨rfl, rfl⟩)
      go_ret2
      exact ⟨.inr ⟨hu.out, rfl⟩, B3.out⟩
  · have hu : Hid (unpacks bs n = none) := Lib.hid (by rw [← HGU.out, ← HM.out, if_neg fun h => h1 h.1])
    go_enter Tryd.func51, Tryd.ntmps51
    go_wp2_with (go_at_call 54; refine F18.out.mono ?_; rintro e w2 ⟨r, rfl, o2, b2⟩; obtain ⟨a2, c2, rfl⟩ := slice_of' o2; have B2 := Lib.hid b2; clear o2 b2)
    go_ret2
    exact ⟨.inr ⟨hu.out, rfl⟩, B2.out⟩
end Ux
end Go.Proofs.YtidbpoigbfpocaaDoor
