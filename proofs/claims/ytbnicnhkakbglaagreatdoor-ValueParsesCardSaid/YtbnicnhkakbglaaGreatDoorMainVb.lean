/- ValueParses: what the walk gives, and its frame. -/
import Derived.Test.YtbnicnhkakbglaaGreatDoorCards
import Derived.Test.YtbnicnhkakbglaaGreatDoorG40
import Derived.Test.YtbnicnhkakbglaaGreatDoorG32
import Derived.Test.YtbnicnhkakbglaaGreatDoorG26
import Derived.Test.YtbnicnhkakbglaaGreatDoorG03
import Derived.Deep.DeepHandedRow
import Derived.Deep.DeepWitnessRef
import Derived.Lib.LaidTab
import Derived.Lib.LaidU8
import Derived.Lay
import Derived.SevenTiedAt
import Derived.Laws.Cover2
namespace Go.Proofs.YtbnicnhkakbglaaGreatDoor.ValueParsesDone
open Go.ChangeShapes Go.WideShapes Go.ChangeAt Go.RowKit
open Go.Proofs.YtbnicnhkakbglaaGreatDoor Go.Proofs.YtbnicnhkakbglaaGreatDoor.Jt

theorem own : ownKnob Tryz.prog.godebug = none := by kernel_rfl
theorem laidOut : laidOutB Tryz.prog = true := by kernel_rfl
theorem gTen : Tryz.prog.globalNamed "internal/strconv.uint64pow10" = some 4 := by kernel_rfl
set_option maxRecDepth 100000 in
theorem ten_tab {W : World} (h : laidMet Tryz.prog Rows.valueParsesRow.laid W) : Lib.TabIs Tryz.prog W "internal/strconv.uint64pow10" .u64 Lib.pow10Tab := by
  obtain ⟨g, t, cs, fuel, p, h1, h2, h3, h4⟩ := Lib.laidMet.reads h (n := "internal/strconv.uint64pow10") (d := Rows.laid_internal_strconv_uint64pow10) (by simp [Rows.valueParsesRow])
  obtain rfl := Option.some.inj (gTen.symm.trans h1)
  obtain rfl := Option.some.inj ((show (Tryz.prog.globals[4]?).map (·.type) = some 194 by kernel_rfl).symm.trans h2)
  unfold Lib.TabIs
  rw [h3, ← Lib.cells_of_tab Tryz.underlying194 Tryz.underlying23 (by kernel_rfl) (by kernel_rfl) (show DataW.trod _ _ W 0 _ false fuel 194 cs.toList = some (Lib.tabData .u64 Lib.pow10Tab, p) from h4)]
theorem tabs {W : World} (h : laidMet Tryz.prog Rows.valueParsesRow.laid W) (hs : W.ShapedOpen Tryz.prog) : Sf.Tabs W := by
  obtain ⟨p1, p2⟩ := Md.pow_of h 364 (by decide)
  exact ⟨p1.trans (congrArg (fun z : Nat => some (Value.int .u64 (z : Int))) (by decide +kernel)), p2.trans (congrArg (fun z : Nat => some (Value.int .u64 (z : Int))) (by decide +kernel)), ten_tab h, Tryz.laysM145.s1_3 W hs⟩
/-- What the walk leans on. -/
def TA (w : World) : Prop := Wa.TT Mp.pv Mp.ph Mp.pl Mp.dlv Mp.CS w ∧ Sf.Tabs w
theorem TA.below {w w' : World} (h : TA w) (b : Below w.heap.size w w') : TA w' := ⟨h.1.below b, h.2.below b (Nat.le_refl _)⟩

set_option maxRecDepth 100000 in
/-- What the walk gives, for every text and every world that holds the tables. -/
theorem contract (H : Type) (enc : TypeId × Value → H) (W : World) (base : Nat) (args : Array Value) (ds gs : List (DataW H)) (before : List MemPlace)
    (hval : ∀ (j : Nat) t v, Tryz.f3.params[j]? = some t → args[j]? = some v → Value.okWide Tryz.prog W .any base t v)
    (hW : DataW.Whole enc Tryz.prog Tryz.f3.params.toList Rows.valueParsesSpec.vars false W args.toList ds gs before)
    (hsz : (DataW.weightsEach Tryz.prog (Tryz.f3.params.toList ++ (OpenSpec.ofChange Rows.valueParsesSpec).bare.plain.varTypes Tryz.prog) (ds ++ gs)).all (· ≤ reachBytes) = true)
    (hL : laidMetH Tryz.prog Rows.valueParsesRow.laid W) (hsh : W.ShapedOpen Tryz.prog) :
    Calls Tryz.prog 3 args W fun e W' => ∃ v, e = .returned v ∧ Rows.valueParsesSpec.post enc Tryz.prog Tryz.f3 false true false false W args v W' := by
  have hW' := hW
  obtain ⟨p, q, hA0, hV, rfl, hfz, hnd⟩ := hW
  have hA : DataW.TrodAll enc Tryz.prog W 0 (fun _ => true) true Tryz.f3.params.toList args.toList ds p := hA0
  rw [Tryz.params3] at hA hval
  obtain ⟨v0, vs0, d0, ds0, p0, q0, hargs, rfl, rfl, h0, r0⟩ := trodAll_cons hA
  obtain ⟨rfl, rfl, rfl⟩ := trodAll_nil r0
  obtain rfl : args = #[v0] := by cases args; simp_all
  obtain ⟨rfl, rfl⟩ := trodVars_none hV
  obtain ⟨n0, rfl, rfl, rfl, wf0⟩ := Go.ChangeMaps.open_string Tryz.underlying9 (hval 0 9 v0 rfl rfl) h0
  have c0 := reach_str 0 hsz rfl rfl
  clear hA0
  rw [MakeChecks.laidMetH_plain _ _ _ (by kernel_rfl)] at hL
  obtain ⟨A1, A2, A3, C, hB⟩ := Wa.both Mp.pv Mp.ph Mp.pl Mp.dlv Mp.l5v Mp.CS Mp.hpv Mp.hph Mp.hLF n0 (by omega)
  obtain ⟨tb, tp, hat⟩ := Md.at_of hL
  have hT : TA W := ⟨⟨tb, tp, hat, Md.rc_of hL⟩, tabs hL hsh⟩
  refine (Wb.law W n0 TA (fun _ _ h b => h.below b) (fun w h => Sf.awake w h.2) A1 A2 A3 C (fun w h => hB w h.1) hT).mono fun e W' ⟨he, bel⟩ => ?_
  subst he
  exact ⟨_, rfl, _, _, _, [], _, [], hW', trodAll_mk1 (shut_bool Tryz.underlying4 _), (trodAll_cons_mk (Go.ChangeMaps.shut_string Tryz.underlying9 wf0) trodAll_mk0), rfl, bel.frame _, fun h => by cases h⟩

noncomputable def start (os : Os) : World := World.laidAll Tryz.prog os Rows.valueParsesRow.laid
def ins : Array Value := #[.string ⟨#[]⟩]
theorem start_met (os : Os) : laidMetH Tryz.prog Rows.valueParsesRow.laid ((start os).forCall (fun _ _ => 0) ⟨#[], ins, []⟩).memory := by
  rw [MakeChecks.laidMetH_plain _ _ _ (by kernel_rfl)]
  exact laidMet_laidAll _ (by kernel_rfl) (by kernel_rfl)
theorem start_shaped (os : Os) : ((start os).forCall (fun _ _ => 0) ⟨#[], ins, []⟩).Shaped Tryz.prog := World.shaped_of_ZipB (by kernel_rfl) (by kernel_rfl)
theorem start_ok (os : Os) : Input.okWideB Tryz.prog ((start os).forCall (fun _ _ => 0) ⟨#[], ins, []⟩) 3 ⟨#[], ins, []⟩ = true := by kernel_rfl
theorem reads (os : Os) {H : Type} (enc : TypeId × Value → H) : ∃ places, DataW.whole enc Tryz.prog ((start os).forCall (fun _ _ => 0) ⟨#[], ins, []⟩).memory Tryz.f3.params.toList Rows.valueParsesSpec.vars false ins.toList 8 = some ([.lit (.string [])], [], places) :=
  ⟨[], by kernel_rfl⟩

set_option maxRecDepth 100000 in
theorem lifted (os : Os) (started : os.Started) (H : Type) (enc : TypeId × Value → H) (F : Stop.Interp) :
    ReturnsInHanded {} Tryz.checked os 3 .any ((OpenSpec.ofChange Rows.valueParsesSpec).preRow enc Tryz.prog Tryz.f3 Rows.valueParsesRow.domain false Rows.valueParsesRow.laid) (((OpenSpec.ofChange Rows.valueParsesSpec).at F).post enc Tryz.prog Tryz.f3 false true false false) := by
  obtain ⟨places, hx⟩ := reads os enc
  refine returnsInHanded_of_row (C := Tryz.checked) (s := OpenSpec.ofChange Rows.valueParsesSpec) own started (by kernel_rfl) Tryz.func3
    ⟨start os, fun _ _ => 0, ⟨#[], ins, []⟩, World.laidAll_os _ _ _, start_shaped os, (Input.okWide_of_okWideB (base := 0) (start_ok os)).1, (Input.okWide_of_okWideB (start_ok os)).2,
      OpenSpec.preRow_of_cond 8 hx (by kernel_rfl) (fun k hk => by cases hk) (by kernel_rfl) (start_met os), by
        simp only [Assume.holds]
        exact ⟨by simp, by simp, fun _ => Modest.zero, by simp, by simp⟩⟩ ?_
  intro W base args ds gs before hval hW _ _ hsz hL hsh _
  exact contract H enc W base args ds gs before hval hW hsz hL hsh

end Go.Proofs.YtbnicnhkakbglaaGreatDoor.ValueParsesDone
