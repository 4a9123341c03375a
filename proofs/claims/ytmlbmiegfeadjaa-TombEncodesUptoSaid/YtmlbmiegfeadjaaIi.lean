/- Decode. -/
import Derived.Test.YtmlbmiegfeadjaaIh
import Derived.Test.YtmlbmiegfeadjaaIc
namespace Go.Proofs.Ytmlbmiegfeadjaa
open Go.RowKit
namespace Ii
open Ga Gm Gt
open Wr (Is u8s)
open Ia Ib Ix Ie Ig Ih Ic

/-- What Decode answers. -/
def Dec (w w' : World) (bs : List Nat) (e : Ending) : Prop :=
  (∃ r L, e = .returned (.tuple #[r, .int .i64 0]) ∧ w'.ownsRow w.heap.size 57 4 r L.length (tcs L) ∧ Of bs L ∧ L.length * 20 ≤ bs.length) ∨ ((∀ M, ¬ Of bs M) ∧ e = .returned (.tuple #[.slice none 0 0, .int .i64 2]))
set_option maxRecDepth 100000
theorem decode13 (w : World) (v0 : Value) (bs : List Nat) (h : Is w v0 bs) (hX : ∀ b ∈ bs, b < 256) (hb : bs.length ≤ 100000000000) :
    Calls Try.prog 13 #[v0] w fun e w' => Dec w w' bs e ∧ Below w.heap.size w w' := by
  have RD := Lib.hid (read27 w v0 bs h hX hb)
  have HX := Lib.hid hX
  clear h hX
  go_enter Try.func13, Try.ntmps13
  go_wp2_with fail
  refine RD.out.mono ?_
  rintro e w1 ⟨v, L, ok, rfl, own, wt, hl, b1, hr⟩
  have B1 := Lib.hid b1
  rcases hr with ⟨rfl, hit⟩ | ⟨rfl, hst⟩
  · have FM := Lib.hid (formed25 w1 v L (ti_own own wt) (by omega))
    have HL := Lib.hid (it_some HX.out hit).2.2.2.2.1
    have OWN := Lib.hid own
    have WT := Lib.hid wt
    have OD := Lib.hid (of_done (m := 65535) (by decide) (by decide) HX.out hit)
    clear own wt hit b1 RD hl
    cases hf : fmL L with
    | true =>
      rw [hf] at FM
      have OF := Lib.hid (OD.out.1 hf)
      clear hf OD
      go_wp2_with fail
      refine FM.out.mono ?_
      rintro e w2 ⟨rfl, b2⟩
      have B2 := Lib.hid (And.intro (B1.out.trans (b2.mono B1.out.size)) b2)
      clear b2 FM
      go_wp2_with fail
      go_ret2
      exact ⟨.inl ⟨_, L, rfl, own_of_block OWN.out fun k hk => B2.out.2.block k (Gt.own_lt OWN.out hk).2, OF.out, HL.out⟩, B2.out.1⟩
    | false =>
      rw [hf] at FM
      have OF := Lib.hid (OD.out.2 hf)
      clear hf OD
      go_wp2_with fail
      refine FM.out.mono ?_
      rintro e w2 ⟨rfl, b2⟩
      have B2 := Lib.hid (B1.out.trans (b2.mono B1.out.size))
      clear b2 FM
      go_wp2_with fail
      go_ret2
      exact ⟨.inr ⟨OF.out, rfl⟩, B2.out⟩
  · have NO := Lib.hid (show ∀ M, ¬ Of bs M from by
      obtain ⟨k, p, L0, h1, h2, h3⟩ := hst
      exact of_stuck (m := 65535) (by decide) (by decide) h1 h2 h3)
    clear own wt hst b1 RD hl
    go_wp2_with fail
    go_ret2
    exact ⟨.inr ⟨NO.out, rfl⟩, B1.out⟩
end Ii
end Go.Proofs.Ytmlbmiegfeadjaa
