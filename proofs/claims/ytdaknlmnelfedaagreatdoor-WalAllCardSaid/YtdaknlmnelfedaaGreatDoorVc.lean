/- The log's holds and clean. -/
import Derived.Test.YtdaknlmnelfedaaGreatDoorVb
namespace Go.Proofs.YtdaknlmnelfedaaGreatDoor
open Go.RowKit Go.Maps Go.ChangeMaps Go.MapKept
namespace Vc
open Jb Jm Jd Jw Jx Jn Je Jf Jg Jh Jk Jc Jl Jo Jq Jr J1 J2 J3 J4 W1 W2 W3 V1 V2 V3 V4 V5 V6 V7 V8 V9 Va Vb

/-- The names that stay. -/
def Held (L : Lg) (s : ByteArray) : Prop := s = mrk L.first ∨ ∃ k, L.first ≤ k ∧ k < L.nx ∧ s = ent k
theorem holds28 (w : World) (U : Nat → Prop) (B p g N : Nat) (V : Vw) (L : Lg) (ov : Bool) (h : WS w U B p g N V L ov) (hs : Sm L.nx) (x : List UInt8) (hx : Mine L x) :
    Calls Tryz.prog 46 #[.pointer (some ⟨p, 0, none⟩), .string (nm x)] w fun e w' => ∃ b : Bool, e = .returned (.bool b) ∧ (b = true ↔ Held L (nm x)) ∧ Below w.heap.size w w' := by
  have sm : ∀ k, k ≤ L.nx → Sm k := fun k hk => by unfold Sm at *; omega
  have fle : L.first ≤ L.nx := by unfold Lg.nx; omega
  obtain ⟨F, hF⟩ : ∃ F, F = L.first := ⟨_, rfl⟩
  obtain ⟨X, hX⟩ : ∃ X, X = L.nx := ⟨_, rfl⟩
  have FX : Hid (∀ y, Below w.heap.size w y → y.cell? ⟨p, 1, none⟩ = some (.int .i64 (F : Nat))) := Lib.hid fun y hy => by rw [hF]; exact ws_first (h.below hy)
  have NX : Hid (∀ y, Below w.heap.size w y → Calls Tryz.prog 18 #[.pointer (some ⟨p, 0, none⟩)] y fun e y' => e = .returned (.int .i64 (X : Nat)) ∧ Below y.heap.size y y') := Lib.hid fun y hy => by rw [hX]; exact ws_next (h.below hy) hs
  have MN : Hid (∀ y, Below w.heap.size w y → Calls Tryz.prog 52 #[.int .i64 (F : Nat)] y fun e y' => e = .returned (.string (mrk F)) ∧ Below y.heap.size y y') := Lib.hid fun y hy => by rw [hF]; exact mrk34 y (h.below hy).en.tab L.first (sm _ fle)
  rcases hx with hx | hx | ⟨k, hk, hx⟩
  rotate_left 2
  · have N1 := num_own w ep k (sm k (by omega))
    rw [← hx] at N1
    replace N1 := Lib.hid N1
    have hk' : (k : Int) < (X : Int) := by omega
    have hkX : k < X := by omega
    by_cases hFk : F ≤ k
    · have HR : Hid (Held L (nm x)) := Lib.hid (.inr ⟨k, by omega, hk, by rw [hx]; rfl⟩)
      have f2 : (F : Int) ≤ (k : Int) := by omega
      clear h hs hx sm fle hF hX hk
      go_enter Tryz.func46, Tryz.ntmps46
      go_wp2_with (first | (go_at_call 42; refine (N1.out).mono ?_; rintro e y ⟨rfl, hb⟩; have cf := FX.out y hb) | (go_at_call 18; refine (NX.out y hb).mono ?_; rintro e z ⟨rfl, hb2⟩))
      go_ret
      exact ⟨true, by simp, by simp [HR.out], hb.trans (hb2.mono hb.size)⟩
    · have HR : Hid (¬ Held L (nm x)) := Lib.hid (by
        rintro (e | ⟨j, a, b, e⟩)
        · rw [hx] at e; exact ent_mrk e
        · rw [hx] at e
          have : k = j := ent_inj (sm k (by omega)) (sm j (by omega)) e
          omega)
      have f2 : ¬ (F : Int) ≤ (k : Int) := by omega
      clear h hs hx sm fle hF hX hk
      go_enter Tryz.func46, Tryz.ntmps46
      go_wp2_with (first | (go_at_call 42; refine (N1.out).mono ?_; rintro e y ⟨rfl, hb⟩; have cf := FX.out y hb) | (go_at_call 18; refine (NX.out y hb).mono ?_; rintro e z ⟨rfl, hb2⟩))
      go_ret
      exact ⟨false, by simp, by simp [HR.out], hb⟩
  all_goals
    have N1 := Lib.hid (num_not_ent w h.en.err x (by
      first
      | exact .inl hx
      | (obtain ⟨k, hk, hx⟩ := hx
         exact .inr ⟨k, sm k (by omega), hx⟩)))
    have HR : Hid (((nm x).toList == (mrk F).toList) = true ↔ Held L (nm x)) := Lib.hid (by
      constructor
      · intro e
        refine .inl ?_
        by_cases e' : nm x = mrk F
        · rw [e', hF]
        · rw [beq_no e'] at e; cases e
      · rintro (e | ⟨j, _, _, e⟩)
        · rw [hF, e]; exact toList_eq rfl
        · exfalso
          first
          | (rw [hx] at e; exact ent_new e.symm)
          | (obtain ⟨k, hk, hx⟩ := hx
             rw [hx] at e; exact mrk_ent e))
    clear h hs hx sm fle hF hX
    go_enter Tryz.func46, Tryz.ntmps46
    go_wp2_with (first | (go_at_call 42; refine (N1.out).mono ?_; rintro e y ⟨rfl, hb⟩; have cf := FX.out y hb) | (go_at_call 52; refine (MN.out y hb).mono ?_; rintro e z ⟨rfl, hb2⟩))
    go_ret
    exact ⟨_, by simp, HR.out, hb.trans (hb2.mono hb.size)⟩
theorem pre_wal {L : Lg} {x : List UInt8} (hx : Mine L x) : Lib.hasPrefix x [119, 97, 108] = true := by
  rcases hx with rfl | ⟨k, _, rfl⟩ | ⟨k, _, rfl⟩
  · decide
  · rfl
  · rfl
theorem walB : ({ data := #[119, 97, 108] } : ByteArray) = nm [119, 97, 108] := rfl
theorem mine_size {L : Lg} (hs : Sm L.nx) {x : List UInt8} (hx : Mine L x) : (nm x).size ≤ 64 := by
  rw [nm_size]
  rcases hx with rfl | ⟨k, hk, rfl⟩ | ⟨k, hk, rfl⟩
  · decide
  · have := len_pn (p := mp) rfl (n := k) (by unfold Sm Lg.nx at *; omega); omega
  · have := len_pn (p := ep) rfl (n := k) (by unfold Sm at *; omega); omega
/-- A world below: what the log was upon it. -/
theorem WS.from {w x w1 : World} {U : Nat → Prop} {B p g N M : Nat} {V V1 : Vw} {L L1 : Lg} {ov ov1 : Bool} (h : WS w U B p g N V L ov) (hx : Below w.heap.size w x) (k1 : WS w1 (New U x w1) B p g M V1 L1 ov1) (k2 : Chg x w1 U) : WS w1 (New U w w1) B p g M V1 L1 ov1 ∧ Chg w w1 U := by
  refine ⟨?_, (Chg.of_below hx (Nat.le_refl _) U).trans k2 fun k hk _ => hk⟩
  obtain ⟨S, T, q1, q2, q3, q4, q5⟩ := k1.ex
  have hz := hx.size
  have hz2 := k2.size
  have up : ∀ k, New U x w1 k → New U w w1 k := fun k hk => hk.imp id fun e => ⟨by omega, e.2⟩
  have hB' := h.en.hi
  exact ⟨⟨S, T, q1, q2, q3, fun k hk => up k (q4 k hk), fun k hk => up k (q5 k hk)⟩, k1.uok, k1.en, fun k hk => hk.elim (h.ge k) (fun e => by omega), fun k hk => hk.elim (fun e => by have := h.lt k e; omega) (fun e => e.2)⟩
theorem WS.more {w wr x : World} {U : Nat → Prop} {B p g N : Nat} {V : Vw} {L : Lg} {ov : Bool} (k : WS wr (New U w wr) B p g N V L ov) (c : Chg w wr U) (hx : Below wr.heap.size wr x) : WS x (New U w x) B p g N V L ov ∧ Chg w x U :=
  ⟨((k.below hx).new (w := wr) (by have := k.en.hi; omega)).two c.size hx.size, c.trans (Chg.of_below hx (Nat.le_refl _) (fun _ => False)) fun k hk => hk.elim⟩
theorem ws_list (w : World) (U : Nat → Prop) (B p g N : Nat) (V : Vw) (L : Lg) (ov : Bool) (h : WS w U B p g N V L ov) (hd : V.down = false) (hN : N ≤ 8796093022208) : ∃ ns, Names V.F ns ∧ ns.length ≤ N ∧
    Calls Tryz.prog 31 #[.pointer (some ⟨g, 0, none⟩)] w fun e w' => ∃ v, e = .returned v ∧ w'.ownsRow w.heap.size 9 1 v ns.length (ns.map Go.Proofs.encStr) ∧ Below w.heap.size w w' := by
  obtain ⟨S, T, h1, _⟩ := h.ex
  obtain ⟨l, u1, u2, u3⟩ := h.uok
  obtain ⟨ns, hn⟩ := u1.names
  exact ⟨ns, hn, by have := (u1.tot (Names.cov hn)).2; omega, list_up w S g N V h1 hd hN ns hn⟩
/-- What cleaning leaves. -/
def Cle (V : Vw) (L : Lg) (er : Nat) (V' : Vw) : Prop :=
  Kp V V' ∧ V'.used ≤ V.used ∧ ((er = 8 ∧ V.fused = true ∧ V'.down = true ∧ Dirt V' L) ∨ (er = 0 ∧ V'.down = false ∧ Cln V' L))
set_option maxRecDepth 100000 in
theorem clean15 (w : World) (U : Nat → Prop) (B p g N : Nat) (V : Vw) (L : Lg) (ov : Bool) (h : WS w U B p g N V L ov) (hc : Dirt V L) (hd : V.down = false) (hs : Sm L.nx) (hN : N ≤ 8796093022208) :
    Calls Tryz.prog 33 #[.pointer (some ⟨p, 0, none⟩)] w fun e w' => ∃ (er : Nat) (V' : Vw), e = .returned (.int .i64 (er : Nat)) ∧ WS w' (New U w w') B p g N V' L ov ∧ Chg w w' U ∧ Cle V L er V' := by
  obtain ⟨ns, hn, hnl, LI⟩ := ws_list w U B p g N V L ov h hd hN
  replace LI := Lib.hid LI
  have hm : ∀ x ∈ ns, Mine L x := fun x hx => mine_of hc ((hn.2 x).1 hx)
  have c0 := disk_call h
  have BACK : Hid (∀ w1 wr V2, Below w.heap.size w w1 → WS wr (New U w1 wr) B p g N V2 L ov → Chg w1 wr U → WS wr (New U w wr) B p g N V2 L ov ∧ Chg w wr U) := Lib.hid fun w1 wr V2 hb k1 k2 => WS.from h hb k1 k2
  have WS1 : Hid (∀ w1, Below w.heap.size w w1 → WS w1 (New U w1 w1) B p g N V L ov) := Lib.hid fun w1 hb => (h.below hb).new (by have := h.en.hi; have := hb.size; omega)
  have DOM : Hid (∀ s, V.F s ≠ none → Held L s ∨ ∃ j, 0 ≤ j ∧ ∃ x, ns[j]? = some x ∧ s = nm x) := Lib.hid fun s hs' => by
    have : s.data.toList ∈ ns := (hn.2 _).2 (by rw [nm_list]; exact hs')
    obtain ⟨j, hj, e⟩ := List.getElem_of_mem this
    exact .inr ⟨j, Nat.zero_le _, _, List.getElem?_eq_getElem hj, by rw [e, nm_list]⟩
  have HC := Lib.hid hc
  have UP := Lib.hid hd
  have HL : Hid (∀ x V2, WS x (New U x x) B p g N V2 L ov → True) := Lib.hid fun _ _ _ => trivial
  have ULT : Hid (∀ k, U k → k < w.heap.size) := Lib.hid h.lt
  have HO : Hid (∀ w1 wr V2 x, WS wr (New U w1 wr) B p g N V2 L ov → Mine L x → Calls Tryz.prog 46 #[.pointer (some ⟨p, 0, none⟩), .string (nm x)] wr _) := Lib.hid fun w1 wr V2 x k hx => holds28 wr (New U w1 wr) B p g N V2 L ov k hs x hx
  have RM : Hid (∀ w1 wr V2 x, WS wr (New U w1 wr) B p g N V2 L ov → Mine L x → Calls Tryz.prog 47 #[.pointer (some ⟨p, 0, none⟩), .string (nm x)] wr _) := Lib.hid fun w1 wr V2 x k hx => remove29 wr (New U w1 wr) B p g N V2 L ov k (nm x) (mine_size hs hx)
  have PW : Hid (∀ x, Mine L x → ∀ y, Calls Tryz.prog 45 #[.string (nm x), .string { data := #[119, 97, 108] }] y fun e y' => e = .returned (.bool true) ∧ y' = y) := Lib.hid fun x hx y => by
    have := Tryz.strings_HasPrefix (nm x) (nm [119, 97, 108]) y
    rw [toList_nm, toList_nm, pre_wal hx] at this
    exact this
  have HDL : Hid (∀ V2 V3 x, Dirt V2 L → ¬ Held L (nm x) → (∀ s, V3.F s = if s = nm x then none else V2.F s) → Dirt V3 L) := Lib.hid fun V2 V3 x k1 k2 k3 => k1.del (fun e => k2 (.inl e)) (fun i hi e => k2 (.inr ⟨L.first + i, by omega, by unfold Lg.nx; omega, e⟩)) k3
  have ROW : Hid (∀ w1 v, Below w.heap.size w w1 → w1.ownsRow w.heap.size 9 1 v ns.length (ns.map Go.Proofs.encStr) → (ns.length = 0 ∧ ∃ a c, v = .slice a 0 c) ∨ ∃ q c, v = .slice (some ⟨q, 0, none⟩) ns.length c ∧ 0 < ns.length ∧ ∀ k wr, k < ns.length → Chg w1 wr U → ∃ x, ns[k]? = some x ∧ wr.cell? ⟨q, k, none⟩ = some (.string (nm x)) ∧ Mine L x) := Lib.hid fun w1 v hb o => by
    by_cases h0 : ns.length = 0
    · obtain ⟨a, c, rfl⟩ := forms9 o
      exact .inl ⟨h0, a, c, by rw [h0]⟩
    · obtain ⟨q, c, rfl, hq1, hq2, hcell⟩ := row_at o (by omega)
      refine .inr ⟨q, c, rfl, by omega, fun k wr hk cg => ⟨ns[k], List.getElem?_eq_getElem hk, ?_, hm _ (List.getElem_mem hk)⟩⟩
      exact (World.cell?_of_block (cg.block q hq2 fun e => by have := h.lt q e; omega)).trans (hcell k hk)
  obtain ⟨n, hnn⟩ : ∃ n, n = ns.length := ⟨_, rfl⟩
  have HN := Lib.hid hnn
  have nb : n ≤ 8796093022208 := by omega
  rw [← hnn] at ROW LI
  clear h hc hd hs hN hn hnl hm hnn
  go_enter Tryz.func33, Tryz.ntmps33
  go_wp2_with (go_at_call 31; refine (LI.out).mono ?_; rintro e w1 ⟨v, rfl, hrow, hb⟩; rcases ROW.out w1 v hb hrow with ⟨h0, a, c, rfl⟩ | ⟨q, c, rfl, h0, hcell⟩ <;> (have HB := Lib.hid hb; clear hrow hb))
  · have HZ : Hid (ns.length = 0) := Lib.hid (by have := HN.out; omega)
    have K := Lib.hid (BACK.out w1 w1 V HB.out (WS1.out w1 HB.out) (Chg.refl _ _))
    have E : Hid (∀ s, V.F s ≠ none → Held L s) := Lib.hid fun s hs' => by
      rcases DOM.out s hs' with a | ⟨j, _, x, hx, _⟩
      · exact a
      · have := (List.getElem?_eq_some_iff.1 hx).1
        have := HZ.out
        omega
    subst h0
    go_loopw [4, 5, 12] (fun _ _ i wr => i = .int .i64 0 ∧ wr = w1) (fun _ _ _ _ => 0)
    case atStart => exact ⟨rfl, by first | rfl | trivial⟩
    case round =>
      obtain ⟨rfl, rfl⟩ := hrel
      go_wp2_with fail
      go_ret
      exact ⟨0, rfl, V, K.out.1, K.out.2, Kp.refl _, Nat.le_refl _, .inr ⟨rfl, UP.out, HC.out, E.out⟩⟩
  · have W1 := WS1.out w1 HB.out
    have HCE := Lib.hid hcell
    clear h0 hcell
    go_loopw [4, 5, 12] (fun _ _ i wr => ∃ k V2, k ≤ n ∧ i = .int .i64 (k : Nat) ∧ WS wr (New U w1 wr) B p g N V2 L ov ∧ Chg w1 wr U ∧ Kp V V2 ∧ V2.used ≤ V.used ∧ V2.down = false ∧ Dirt V2 L ∧ ∀ s, V2.F s ≠ none → Held L s ∨ ∃ j, k ≤ j ∧ ∃ x, ns[j]? = some x ∧ s = nm x) (fun _ _ i _ => n - (intOf i).toNat)
    case atStart => exact ⟨0, V, Nat.zero_le _, rfl, W1, Chg.refl _ _, Kp.refl _, Nat.le_refl _, UP.out, HC.out, DOM.out⟩
    case round =>
      obtain ⟨k, V2, hk, rfl, j1, j2, j3, j4, j5, j6, j7⟩ := hrel
      by_cases hkn : k < n
      · obtain ⟨x, hx, cx, mx⟩ := HCE.out k wr hkn j2
        have hkn' : (k : Int) < (n : Int) := by omega
        have HO1 := Lib.hid (HO.out w1 wr V2 x j1 mx)
        have PW1 := Lib.hid (PW.out x mx)
        have MR : Hid (∀ y, Below wr.heap.size wr y → WS y (New U w1 y) B p g N V2 L ov ∧ Chg w1 y U) := Lib.hid fun y hy => WS.more j1 j2 hy
        have RM1 := Lib.hid (fun y hy => RM.out w1 y V2 x (MR.out y hy).1 mx)
        have HX := Lib.hid hx
        have HK := Lib.hid hkn
        have J := Lib.hid (And.intro j3 (And.intro j4 (And.intro j5 (And.intro j6 j7))))
        clear j1 j2 j3 j4 j5 j6 j7 hx mx hkn
        go_wp2_with (first | (go_at_call 45; refine (PW1.out _).mono ?_; rintro e y ⟨rfl, rfl⟩) | (go_at_call 46; refine (HO1.out).mono ?_; rintro e y ⟨hb, rfl, hh, hy⟩; have HH := Lib.hid hh; have HY := Lib.hid hy; clear hh hy; cases hb))
        · -- it goes
          have nh : Hid (¬ Held L (nm x)) := Lib.hid fun e => by have := HH.out.2 e; cases this
          have RM2 := Lib.hid (RM1.out y HY.out)
          go_wp2_with (go_at_call 47; refine (RM2.out).mono ?_; rintro e y2 ⟨er, V3, rfl, m1, m2, m3⟩; have c3 := Chg.U (MR.out y HY.out).2 m2; have m4 := m1.two (MR.out y HY.out).2.size m2.size; have M4 := Lib.hid m4; have C3 := Lib.hid c3; obtain ⟨r1, r2⟩ := m3; have R1 := Lib.hid r1; clear m1 m2 m4 c3 r1; rcases r2 with ⟨rfl, d⟩ | ⟨rfl, d⟩ <;> (have D := Lib.hid d; clear d))
          · go_ret
            obtain ⟨a3, a4, a5, a6, a7⟩ := J.out
            obtain ⟨d1, d2, d3, d4⟩ := D.out
            obtain ⟨b1, b2⟩ := BACK.out w1 y2 V3 HB.out M4.out C3.out
            refine ⟨8, V3, rfl, b1, b2, a3.trans R1.out, by omega, .inl ⟨rfl, ?_, d1, a6.same fun s _ => by rw [d3]⟩⟩
            rcases d2 with d2 | d2
            · rw [a5] at d2; cases d2
            · rw [← a3.fused]; exact d2
          · go_roundw
            case rel =>
              obtain ⟨a3, a4, a5, a6, a7⟩ := J.out
              obtain ⟨d1, d2, d3, d4⟩ := D.out
              refine ⟨k + 1, V3, by have := HK.out; omega, by go_num, M4.out, C3.out, a3.trans R1.out, by omega, d2, HDL.out V2 V3 x a6 nh.out d4, fun s hs => ?_⟩
              rw [d4] at hs
              by_cases e : s = nm x
              · rw [if_pos e] at hs; exact absurd rfl hs
              · rw [if_neg e] at hs
                rcases a7 s hs with a | ⟨j, hj, x', hx', e'⟩
                · exact .inl a
                · refine .inr ⟨j, ?_, x', hx', e'⟩
                  have : j ≠ k := fun e2 => by
                    rw [e2, HX.out] at hx'
                    injection hx' with hx'
                    exact e (by rw [e', hx'])
                  omega
            case measure => have := HK.out; simp [intOf]; omega
        · go_roundw
          case rel =>
            obtain ⟨a3, a4, a5, a6, a7⟩ := J.out
            obtain ⟨b1, b2⟩ := MR.out y HY.out
            refine ⟨k + 1, V2, by have := HK.out; omega, by go_num, b1, b2, a3, a4, a5, a6, fun s hs => ?_⟩
            rcases a7 s hs with a | ⟨j, hj, x', hx', e'⟩
            · exact .inl a
            · by_cases e2 : j = k
              · rw [e2, HX.out] at hx'
                injection hx' with hx'
                exact .inl (by rw [e', ← hx']; first | exact HH.out.1 rfl | exact HH.out.1 trivial)
              · exact .inr ⟨j, by omega, x', hx', e'⟩
          case measure => have := HK.out; simp [intOf]; omega
      · obtain rfl : k = n := by omega
        have hkk : ¬ (k : Int) < (k : Int) := by omega
        obtain ⟨b1, b2⟩ := BACK.out w1 wr V2 HB.out j1 j2
        have E : ∀ s, V2.F s ≠ none → Held L s := fun s hs' => by
          rcases j7 s hs' with a | ⟨j, hj, x, hx, _⟩
          · exact a
          · have := (List.getElem?_eq_some_iff.1 hx).1
            have := HN.out
            omega
        have K := Lib.hid (show WS wr (New U w wr) B p g N V2 L ov ∧ Chg w wr U ∧ Cle V L 0 V2 from ⟨b1, b2, j3, j4, .inr ⟨rfl, j5, j6, E⟩⟩)
        clear j1 j2 j3 j4 j5 j6 j7 hkn b1 b2 E
        go_wp2_with fail
        go_ret
        exact ⟨0, rfl, V2, K.out⟩
end Vc
end Go.Proofs.YtdaknlmnelfedaaGreatDoor
