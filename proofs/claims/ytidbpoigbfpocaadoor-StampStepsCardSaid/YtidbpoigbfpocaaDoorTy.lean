/- The program's side: Decode. -/
import Derived.Test.YtidbpoigbfpocaaDoorTv
import Derived.Test.YtidbpoigbfpocaaDoorTp
namespace Go.Proofs.YtidbpoigbfpocaaDoor
open Go.RowKit
namespace De
open Bm Mt Wr Pk Rp Cv Rd Rx Sz Tm Ti En Tg

/-- What Decode answers. -/
def Decoded (w : World) (bs : List Nat) (e : Ending) (w' : World) : Prop :=
  ((∃ T r, dec bs = some T ∧ e = .returned (.tuple #[r, .int .i64 0]) ∧ w'.ownsRow w.heap.size 2 1 r T.length (i64s T)) ∨
    (dec bs = none ∧ e = .returned (.tuple #[.slice none 0 0, .int .i64 2]))) ∧ Below w.heap.size w w'
theorem Decoded.ok {w w' : World} {bs : List Nat} {e : Ending} {T : List Int} (h : Decoded w bs e w') (hu : dec bs = some T) : ∃ r, e = .returned (.tuple #[r, .int .i64 0]) ∧ w'.ownsRow w.heap.size 2 1 r T.length (i64s T) ∧ Below w.heap.size w w' := by
  obtain ⟨⟨T', r, h1, he, ho⟩ | h, bl⟩ := h
  · rw [hu] at h1
    cases h1
    exact ⟨r, he, ho, bl⟩
  · rw [hu] at h; cases h.1
theorem Decoded.bad {w w' : World} {bs : List Nat} {e : Ending} (h : Decoded w bs e w') (hu : dec bs = none) : e = .returned (.tuple #[.slice none 0 0, .int .i64 2]) ∧ Below w.heap.size w w' := by
  obtain ⟨⟨T', r, h1, _⟩ | h, bl⟩ := h
  · rw [hu] at h1
    cases h1
  · exact ⟨h.2, bl⟩

set_option maxRecDepth 100000 in
set_option maxHeartbeats 1000000 in
theorem decode12 (w : World) (v : Value) (bs : List Nat) (hP : Pl w v bs) (hX : ∀ x ∈ bs, x < 256) (hTb : Tab w) (hb : bs.length ≤ 140737488353272) :
    Calls Tryd.prog 12 #[v] w fun e w' => Decoded w bs e w' := by
  have F29 := Lib.hid (read29 w v bs hP hX hTb hb)
  have hin := readC_in bs
  have hlt := bytes_lt (readC bs)
  have hdec : dec bs = if Ok (readC bs) ∧ bytesOf (readC bs) = bs then some (readC bs) else none := rfl
  unfold Readed at F29
  obtain ⟨T, hT⟩ : ∃ T, T = readC bs := ⟨_, rfl⟩
  rw [← hT] at F29 hin hlt hdec
  clear hT
  by_cases hO : Ok T
  · have F10 : Hid (∀ x r B, Below w.heap.size w x → World.ownsRow x B 2 1 r T.length (i64s T) → Calls Tryd.prog 10 #[r] x fun e w' => ∃ r', e = .returned (.tuple #[r', .int .i64 0]) ∧ (convert 24 9 r').run Tryd.prog w' = .ok (.string (str (bytesOf T))) w' ∧ (convert 24 9 v).run Tryd.prog w' = .ok (.string (str bs)) w' ∧ w'.ownsRow B 2 1 r T.length (i64s T) ∧ Below w.heap.size w w') :=
      Lib.hid fun x r B hb ho => (encode10 x r T (ii_own ho hin) (hTb.below hb hTb.1)).mono fun e w' h => by
        obtain ⟨r', he, ho', bl⟩ := Encoded.ok h hO
        exact ⟨r', he, conv_own ho', conv_pl (hP.below (hb.trans (bl.mono hb.size))), own_below ho bl, hb.trans (bl.mono hb.size)⟩
    by_cases h2 : bytesOf T = bs
    · have hu : Hid (dec bs = some T) := Lib.hid (by rw [hdec, if_pos ⟨hO, h2⟩])
      rw [h2] at F10
      obtain ⟨S, hS⟩ : ∃ S, S = str bs := ⟨_, rfl⟩
      rw [← hS] at F10
      have FE : Hid (∀ x u v, (convert 24 9 u).run Tryd.prog x = .ok (.string S) x → (convert 24 9 v).run Tryd.prog x = .ok (.string S) x → Calls Tryd.prog 30 #[u, v] x fun e w' => e = .returned (.bool true) ∧ w' = x) := Lib.hid fun x u v => equal_yes x u v S
      clear hP hX hTb hin hlt hdec hS h2 hO
      go_enter Tryd.func12, Tryd.ntmps12
      go_wp2_with fail
      refine F29.out.mono ?_
      rintro e w2 ⟨r2, rfl, o2, b2⟩
      have O2 := Lib.hid o2
      have B2 := Lib.hid b2
      clear o2 b2
      go_wp2_with fail
      refine (F10.out _ _ _ B2.out O2.out).mono ?_
      rintro e w3 ⟨r3, rfl, q1, q2, o3, b3⟩
      have O3 := Lib.hid o3
      have B3 := Lib.hid b3
      have F30 := Lib.hid (FE.out _ _ _ q1 q2)
      clear o3 b3 q1 q2
      go_wp2_with fail
      refine F30.out.mono ?_
      rintro e w4 ⟨rfl, h4⟩
      rw [h4]
      clear h4 w4
      go_wp2_with fail
      go_ret2
      exact ⟨.inl ⟨T, _, hu.out, rfl, O3.out⟩, B3.out⟩
    · have hu : Hid (dec bs = none) := Lib.hid (by rw [hdec, if_neg fun h => h2 h.2])
      have hst : ((str (bytesOf T)).toList == (str bs).toList) = false := toList_ne fun e => h2 (str_inj hlt hX e)
      obtain ⟨S, hS⟩ : ∃ S, S = str (bytesOf T) := ⟨_, rfl⟩
      obtain ⟨U, hU⟩ : ∃ U, U = str bs := ⟨_, rfl⟩
      rw [← hS, ← hU] at F10 hst
      have FE : Hid (∀ x u v, (convert 24 9 u).run Tryd.prog x = .ok (.string S) x → (convert 24 9 v).run Tryd.prog x = .ok (.string U) x → Calls Tryd.prog 30 #[u, v] x fun e w' => e = .returned (.bool false) ∧ w' = x) := Lib.hid fun x u v h3 h4 => equal_no x u v S U h3 h4 hst
      clear hP hX hTb hin hlt hdec hS hU h2 hO hst
      go_enter Tryd.func12, Tryd.ntmps12
      go_wp2_with fail
      refine F29.out.mono ?_
      rintro e w2 ⟨r2, rfl, o2, b2⟩
      have O2 := Lib.hid o2
      have B2 := Lib.hid b2
      clear o2 b2
      go_wp2_with fail
      refine (F10.out _ _ _ B2.out O2.out).mono ?_
      rintro e w3 ⟨r3, rfl, q1, q2, o3, b3⟩
      have B3 := Lib.hid b3
      have F30 := Lib.hid (FE.out _ _ _ q1 q2)
      clear o3 b3 q1 q2
      go_wp2_with fail
      refine F30.out.mono ?_
      rintro e w4 ⟨rfl, h4⟩
      rw [h4]
      clear h4 w4
      go_wp2_with fail
      go_ret2
      exact ⟨.inr ⟨hu.out, rfl⟩, B3.out⟩
  · have hu : Hid (dec bs = none) := Lib.hid (by rw [hdec, if_neg fun h => hO h.1])
    have F10 : Hid (∀ x r B, Below w.heap.size w x → World.ownsRow x B 2 1 r T.length (i64s T) → Calls Tryd.prog 10 #[r] x fun e w' => e = .returned (.tuple #[.slice none 0 0, .int .i64 1]) ∧ Below w.heap.size w w') :=
      Lib.hid fun x r B hb ho => (encode10 x r T (ii_own ho hin) (hTb.below hb hTb.1)).mono fun e w' h => by
        obtain ⟨he, bl⟩ := Encoded.bad h hO
        exact ⟨he, hb.trans (bl.mono hb.size)⟩
    clear hP hX hTb hin hlt hdec hO
    go_enter Tryd.func12, Tryd.ntmps12
    go_wp2_with fail
    refine F29.out.mono ?_
    rintro e w2 ⟨r2, rfl, o2, b2⟩
    have O2 := Lib.hid o2
    have B2 := Lib.hid b2
    clear o2 b2
    go_wp2_with fail
    refine (F10.out _ _ _ B2.out O2.out).mono ?_
    rintro e w3 ⟨rfl, b3⟩
    have B3 := Lib.hid b3
    clear b3
    go_wp2_with fail
    go_ret2
    exact ⟨.inr ⟨hu.out, rfl⟩, B3.out⟩
end De
end Go.Proofs.YtidbpoigbfpocaaDoor
