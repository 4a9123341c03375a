/- Columns. -/
import Derived.Test.YtloiclmngmnbdaaSe
import Derived.Test.YtloiclmngmnbdaaDh
namespace Go.Proofs.Ytloiclmngmnbdaa
open Go.RowKit Go.Maps Go.ChangeMaps Go.MapKept
namespace Sf
open Jb Ca Ck Ct Cd Ls Lb Lc Ld Li Lj Lk Lm Ln Lo Lp Cq Cr Da Db Dc Ce Cs De Df Dg Dh Tb Sk Sl Sc Sd Se

theorem ownsRow_base' {W : World} {base base' : Nat} {e : TypeId} {size : Nat} {v : Value} {k : Nat} {xs : List Value} (h : W.ownsRow base e size v k xs) (hb : base' ≤ base) : W.ownsRow base' e size v k xs := by
  refine ⟨h.1, ?_⟩
  rcases h.2 with h | ⟨g, cap, cur, h1, h2, h3⟩
  · exact .inl h
  · exact .inr ⟨g, cap, cur, h1, Nat.le_trans hb h2, h3⟩
set_option maxRecDepth 100000
theorem keys29 (w : World) (mb : Option Nat) : Calls Try.prog 29 #[.map mb] w fun e w' => e = .returned (.func (.func 47) #[] #[.pointer (some ⟨w.heap.size, 0, none⟩)]) ∧ w' = w.alloc (.cells #[.map mb] 58) := by
  go_enter Try.func29, Try.ntmps29
  go_wp2_with fail
  go_ret
  exact ⟨rfl, rfl⟩
/-- Columns' cells. -/
def cc (s : Ky) (r : Value) : List Value := [.string s.1, .string s.2, r]
def ccs (ys : List Ky) (rs : List Value) : List Value := (List.zip ys rs).flatMap fun x => cc x.1 x.2
theorem ccs_snoc (ys : List Ky) (rs : List Value) (h : ys.length = rs.length) (s : Ky) (r : Value) : ccs (ys ++ [s]) (rs ++ [r]) = ccs ys rs ++ [.string s.1, .string s.2, r] := by
  unfold ccs
  rw [List.zip_append h, List.flatMap_append]
  simp [cc]
theorem rng_all (L : List Pnt) (h : ∀ x ∈ L, Wp x) : rng (-9223372036854775808) 9223372036854775807 L = L := by
  unfold rng
  rw [List.filter_eq_self]
  intro x hx
  have := (h x hx).1
  simp [inr, this.1, this.2]
def k0 : Ky := (⟨#[]⟩, ⟨#[]⟩)
/-- A slice of columns: those of ys, each with what P says. -/
def Cl (w : World) (base : Nat) (v : Value) (ys : List Ky) (P : Ky → List Pnt) : Prop :=
  ∃ rs : List Value, rs.length = ys.length ∧ w.ownsRow base 54 3 v ys.length (ccs ys rs) ∧ ∀ i, i < ys.length → ∃ r, rs[i]? = some r ∧ w.ownsRow base 32 4 r (P (ys.getD i k0)).length (pcs (P (ys.getD i k0)))
theorem info54 : (Try.prog.info? 54).map (fun i => (i.zero, i.size, i.bytes)) = some (some (.agg #[.string ⟨#[]⟩, .string ⟨#[]⟩, .slice none 0 0]), 3, 56) := by kernel_rfl
theorem Cl.nil (w : World) (base : Nat) (P : Ky → List Pnt) : Cl w base (.slice none 0 0) [] P := ⟨[], rfl, World.ownsRow_nil _ _ _ _, fun i hi => by simp at hi⟩
/-- One column more. -/
theorem Cl.snoc {w w1 : World} {base : Nat} {v v' r : Value} {ys : List Ky} {P : Ky → List Pnt} {s : Ky} (hr : w.ownsRow base 32 4 r (P s).length (pcs (P s)))
    (rs : List Value) (hrs : rs.length = ys.length) (hi : ∀ i, i < ys.length → ∃ r, rs[i]? = some r ∧ w.ownsRow base 32 4 r (P (ys.getD i k0)).length (pcs (P (ys.getD i k0))))
    (ho : w1.ownsRow base 54 3 v' (ys.length + 1) (ccs ys rs ++ [.string s.1, .string s.2, r])) (hv : w.ownsRow base 54 3 v ys.length (ccs ys rs)) (hg : w.grownBy w1 v.ownBlock) : Cl w1 base v' (ys ++ [s]) P := by
  have keep : ∀ {u : Value} {k : Nat} {xs : List Value}, w.ownsRow base 32 4 u k xs → w1.ownsRow base 32 4 u k xs := fun {u k xs} hu => by
    refine hu.kept hg ?_
    rcases hu.2 with ⟨rfl, _⟩ | ⟨g, cap, cur, rfl, _, hgb, _⟩
    · exact .inl rfl
    · refine .inr fun e' => ?_
      rcases hv.2 with ⟨rfl, _⟩ | ⟨g2, cap2, cur2, rfl, _, hgb2, _⟩
      · simp [Value.ownBlock] at e'
      · obtain rfl : g2 = g := by simpa [Value.ownBlock] using e'.symm
        rw [hgb] at hgb2
        simp at hgb2
  refine ⟨rs ++ [r], by simp [hrs], ?_, fun i hi' => ?_⟩
  · rw [ccs_snoc _ _ hrs.symm]
    simpa using ho
  · by_cases e : i < ys.length
    · obtain ⟨q, q1, q2⟩ := hi i e
      refine ⟨q, by rw [List.getElem?_append_left (by omega)]; exact q1, ?_⟩
      have : (ys ++ [s]).getD i k0 = ys.getD i k0 := by simp [List.getD_eq_getElem?_getD, List.getElem?_append_left e]
      rw [this]
      exact keep q2
    · have : i = ys.length := by simp at hi'; omega
      subst this
      refine ⟨r, by rw [← hrs]; simp, ?_⟩
      have : (ys ++ [s]).getD ys.length k0 = s := by simp [List.getD_eq_getElem?_getD]
      rw [this]
      exact keep hr
theorem Cl.below {w w' : World} {base : Nat} {v : Value} {ys : List Ky} {P : Ky → List Pnt} (h : Cl w base v ys P) (b : Below w.heap.size w w') : Cl w' base v ys P := by
  obtain ⟨rs, h1, h2, h3⟩ := h
  exact ⟨rs, h1, own_of_block h2 (fun k hk => b.block k (own_lt h2 hk).2), fun i hi => by
    obtain ⟨r, q1, q2⟩ := h3 i hi
    exact ⟨r, q1, own_of_block q2 (fun k hk => b.block k (own_lt q2 hk).2)⟩⟩
theorem columns18_nil (w : World) : Calls Try.prog 18 #[.pointer none] w fun e w' => e = .returned (.slice none 0 0) ∧ w' = w := by
  go_enter Try.func18, Try.ntmps18
  go_wp2_with fail
  go_ret
  exact ⟨rfl, rfl⟩
theorem columns18 (w : World) (S : Nat → Prop) (g N : Nat) (d : St) (h : Dk w S g N d) (hN : N ≤ 140737488355) (hl : ∀ s, (pts (d.F s)).length ≤ 1000000) :
    Calls Try.prog 18 #[.pointer (some ⟨g, 0, none⟩)] w fun e w' => ∃ v ys, e = .returned v ∧ Rk (fun s => (d.F s).map Co.blk) ys ∧ Cl w' w.heap.size v ys (fun s => pts (d.F s)) ∧ Below w.heap.size w w' := by
  obtain ⟨mb, hfv, hmv⟩ : ∃ mb, d.fv = .map mb ∧ Mv w mb N (fun s => (d.F s).map Co.blk) := by
    rcases h.fv with ⟨e, hn⟩ | ⟨m, e, _, _, hi⟩
    · exact ⟨none, e, funext fun s => by rw [hn s]; rfl⟩
    · exact ⟨some m, e, hi⟩
  have c2 := h.cs.c2
  rw [hfv] at c2
  have KE := Lib.hid (keys29 w mb)
  have hm2 : Mv (w.alloc (.cells #[.map mb] 58)) mb N (fun s => (d.F s).map Co.blk) := by
    cases mb with
    | none => exact hmv
    | some m => exact Is.of_block hmv (Below.heap_alloc w _ m (Is.lt hmv))
  have SO := Lib.hid (sorted28 (w.alloc (.cells #[.map mb] 58)) w.heap.size mb N _ hN (by simp) (new_cell _ _ _ 0 _ rfl) hm2)
  have HD := Lib.hid h
  have HF := Lib.hid hfv
  have HL := Lib.hid hl
  clear h hfv hmv hm2 hl
  go_enter Try.func18, Try.ntmps18
  go_wp2_with fail
  refine KE.out.mono ?_
  rintro e w1 ⟨rfl, rfl⟩
  go_wp2_with fail
  refine SO.out.mono ?_
  rintro e w2 ⟨lv, ys, rfl, hrows, hnn, olv, b2⟩
  have B2 := Lib.hid (show Below w.heap.size w w2 from ((Below.refl _ w).alloc (Nat.le_refl _) _).trans (b2.mono (by simp)))
  have OL := Lib.hid olv
  have HR := Lib.hid hrows
  obtain ⟨lp, lc, hlv⟩ : ∃ lp lc, lv = .slice lp ys.length lc := by
    rcases olv.2 with ⟨rfl, h0⟩ | ⟨q, cap, cur, rfl, _⟩
    · exact ⟨none, 0, by rw [h0]⟩
    · exact ⟨_, _, rfl⟩
  obtain ⟨n, hn⟩ : ∃ n, n = ys.length := ⟨_, rfl⟩
  rw [← hn] at hlv
  have LV := Lib.hid hlv
  have HN := Lib.hid hn
  rw [← hn] at hnn
  rw [hlv]
  clear b2 olv hrows hlv hn SO KE c2
  go_wp2_with fail
  obtain ⟨info, hi, hz0, hz1, hz2⟩ := info_parts info54
  go_loopw [16, 3] (fun i cv wr => ∃ k, i = .int .i64 (k : Nat) ∧ k ≤ n ∧ Hid (Cl wr w2.heap.size cv (ys.take k) (fun s => pts (d.F s)) ∧ Below w2.heap.size w2 wr)) (fun i _ _ => n - (intOf i).toNat)
  case atStart => exact ⟨0, rfl, Nat.zero_le _, Lib.hid ⟨by simpa using Cl.nil _ _ _, Below.refl _ _⟩⟩
  case round =>
    obtain ⟨k, rfl, hkn, HI⟩ := hrel
    by_cases hk : k < n
    case neg =>
      obtain rfl : k = n := by omega
      go_wp2_with fail
      go_ret
      obtain ⟨hc, hb⟩ := HI.out
      rw [HN.out, List.take_length] at hc
      exact ⟨_, ys, rfl, HR.out, ⟨hc.choose, hc.choose_spec.1, ownsRow_base' hc.choose_spec.2.1 B2.out.size, fun i hi => by obtain ⟨r, q1, q2⟩ := hc.choose_spec.2.2 i hi; exact ⟨r, q1, ownsRow_base' q2 B2.out.size⟩⟩, B2.out.trans (hb.mono B2.out.size)⟩
    have hky : k < ys.length := by rw [← HN.out]; exact hk
    obtain ⟨s, hs⟩ : ∃ s, s = ys[k]'hky := ⟨_, rfl⟩
    have o' := OL.out
    rw [LV.out, ← HN.out] at o'
    obtain ⟨q, qc, hq⟩ := Go.Joins.ownsRow_form o' (by omega)
    cases hq
    have hkn2 : k ≤ n := hkn
    have e0 : (kcs ys)[k * 2]? = some (.string s.1) := by
      rw [kcs_get _ _ (by omega), show k * 2 / 2 = k from by omega, show k * 2 % 2 = 0 from by omega, hs]
      simp [kc, hky]
    have e1 : (kcs ys)[k * 2 + 1]? = some (.string s.2) := by
      rw [kcs_get _ _ (by omega), show (k * 2 + 1) / 2 = k from by omega, show (k * 2 + 1) % 2 = 1 from by omega, hs]
      simp [kc, hky]
    have x0 := (o'.cellAt (k * 2) (by omega)).trans e0
    have x1 := (o'.cellAt (k * 2 + 1) (by omega)).trans e1
    obtain ⟨hcl, hbw⟩ := HI.out
    have hqc : n ≤ lc := by
      rcases o'.2 with ⟨e, _⟩ | ⟨_, _, _, e, _, _, hc, _⟩
      · cases e
      · cases e; exact hc
    have hq9 : q < w2.heap.size := (own_lt o' rfl).2
    have y0 := (World.cell?_of_block (hbw.block q hq9)).trans x0
    have y1 := (World.cell?_of_block (hbw.block q hq9)).trans x1
    have hsm : s ∈ ys := by rw [hs]; exact List.getElem_mem _
    have hGs : (d.F s).map Co.blk ≠ none := (HR.out.2 s).1 hsm
    obtain ⟨f, hf⟩ : ∃ f, d.F s = some f := by
      cases e : d.F s with
      | none => rw [e] at hGs; exact absurd rfl hGs
      | some f => exact ⟨f, rfl⟩
    have hok : ok s := by
      rcases HD.out.fv with ⟨_, e⟩ | ⟨m, _, _, _, D0, _, q1, _⟩
      · rw [e s] at hf; cases hf
      · exact q1 s hGs
    have bw : Below w.heap.size w wr := B2.out.trans (hbw.mono B2.out.size)
    have DA : ∀ n' : Nat, Dk ((wr.alloc (.cells #[.string s.1, .string s.2] 65)).drewN n') S g N d := fun n' =>
      (HD.out.below (B := w.heap.size) (bw.alloc bw.size (.cells #[.string s.1, .string s.2] 65)) (Nat.le_refl _)).move (by simp) (fun _ _ => rfl)
    have hfm := (HD.out.fm s f hf).1
    have hlk : ∀ n' : Nat, (Instr.lookup 58 (.map mb) (kv s) false).run Try.prog ((wr.alloc (.cells #[.string s.1, .string s.2] 65)).drewN n') = .ok (.pointer (some ⟨f.blk, 0, none⟩)) ((wr.alloc (.cells #[.string s.1, .string s.2] 65)).drewN n') := fun n' => by
      have := (DA n').look hok
      rw [hf, HF.out] at this
      exact this
    have hlk1 : (Instr.lookup 58 (.map mb) (kv s) false).run Try.prog (wr.alloc (.cells #[.string s.1, .string s.2] 65)).drew = .ok (.pointer (some ⟨f.blk, 0, none⟩)) (wr.alloc (.cells #[.string s.1, .string s.2] 65)).drew := hlk 1
    have hcg := (DA 0).cs.c2
    rw [HF.out] at hcg
    have hb0 : (wr.alloc (.cells #[.string s.1, .string s.2] 65)).cell? ⟨wr.heap.size, 0, none⟩ = some (.string s.1) := new_cell _ _ _ 0 _ rfl
    have hb1 : (wr.alloc (.cells #[.string s.1, .string s.2] 65)).cell? ⟨wr.heap.size, 1, none⟩ = some (.string s.2) := new_cell _ _ _ 1 _ rfl
    have BT := Lib.hid (show Calls Try.prog 26 #[.pointer (some ⟨f.blk, 0, none⟩), .int .i64 (-9223372036854775808), .int .i64 9223372036854775807] (wr.alloc (.cells #[.string s.1, .string s.2] 65)).drew fun e w' => ∃ r, e = .returned r ∧ w'.ownsRow (wr.heap.size + 1) 32 4 r f.L.length (pcs f.L) ∧ Below (wr.heap.size + 1) (wr.alloc (.cells #[.string s.1, .string s.2] 65)).drew w' from by
      have hc := ((DA 1).fm s f hf).1
      have hL : f.L.length ≤ 1000000 := by have := HL.out s; rw [hf] at this; exact this
      have t := between26 _ f hc (-9223372036854775808) 9223372036854775807 hL
      rw [rng_all f.L hc.wp] at t
      refine t.mono ?_
      rintro e w' ⟨r, h1, h2, h3⟩
      simp at h2 h3
      exact ⟨r, h1, h2, h3⟩)
    have hpos : 0 < f.L.length := List.length_pos_iff.2 hfm.ne
    have Hpos := Lib.hid hpos
    have DG := Lib.hid DA
    have CL := Lib.hid hcl
    have BW := Lib.hid hbw
    have HS := Lib.hid (show ys.take (k + 1) = ys.take k ++ [s] from by rw [hs]; first | exact (List.take_append_getElem hky).symm | exact List.take_succ_eq_append_getElem hky)
    have HFs := Lib.hid hf
    have hcg' : (wr.alloc (.cells #[.string s.1, .string s.2] 65)).cell? ⟨g, 2, none⟩ = some (.map mb) := hcg
    unfold kv at hlk hlk1
    clear hcl hbw hs hf hGs hsm o' e0 e1 DA hcg hpos hfm x0 x1 bw hok hky
    go_wp2_with fail
    obtain ⟨wa, hwa⟩ : ∃ wa, wa = wr.alloc (.cells #[.string s.1, .string s.2] 65) := ⟨_, rfl⟩
    have kX : wa.cell? ⟨g, 2, none⟩ = some (.map mb) ∧ wa.cell? ⟨wr.heap.size, 0, none⟩ = some (.string s.1) ∧ wa.cell? ⟨wr.heap.size, 1, none⟩ = some (.string s.2) := by rw [hwa]; exact ⟨hcg', hb0, hb1⟩
    rw [← hwa] at BT hlk1 ⊢
    have hsz : wa.heap.size = wr.heap.size + 1 := by rw [hwa]; simp
    have HWA := Lib.hid hwa
    have gl : g < wr.heap.size := by
      have := DG.out 0
      have h1 := this.cs.c2
      have h2 := HD.out.lt g HD.out.sg
      have h3 := B2.out.size
      have h4 := BW.out.size
      omega
    clear hwa hcg' hb0 hb1 hlk
    go_region_held (fun z => z.cell? ⟨g, 2, none⟩ = some (.map mb) ∧ z.cell? ⟨wr.heap.size, 0, none⟩ = some (.string s.1) ∧ z.cell? ⟨wr.heap.size, 1, none⟩ = some (.string s.2))
      (first | exact kX | exact kY)
      (first | (go_at_call 26; refine BT.out.mono ?_; rintro e w4 ⟨r, rfl, or, br⟩; obtain ⟨qr, qrc, rfl⟩ := Go.Joins.ownsRow_form or Hpos.out; have OR := Lib.hid or; have BR := Lib.hid br; have kY : w4.cell? ⟨g, 2, none⟩ = some (.map mb) ∧ w4.cell? ⟨wr.heap.size, 0, none⟩ = some (.string s.1) ∧ w4.cell? ⟨wr.heap.size, 1, none⟩ = some (.string s.2) := ⟨(br.cell (p := ⟨g, 2, none⟩) (by show g < _; omega)).trans kX.1, (br.cell (p := ⟨wr.heap.size, 0, none⟩) (by show wr.heap.size < _; omega)).trans kX.2.1, (br.cell (p := ⟨wr.heap.size, 1, none⟩) (by show wr.heap.size < _; omega)).trans kX.2.2⟩; clear or br))
    obtain ⟨rs, c1, c2, c3⟩ := CL.out
    have hlt : (ys.take k).length = k := by rw [List.length_take, ← HN.out]; omega
    have bl4 : Below wr.heap.size wr w4 := by
      have := BR.out
      rw [HWA.out] at this
      exact ((Below.refl _ wr).alloc (Nat.le_refl _) _).drew.trans (this.mono (Nat.le_succ _))
    have z1 := BW.out.size
    have z2 := bl4.size
    have o4 : w4.ownsRow w2.heap.size 54 3 u3 k (ccs (ys.take k) rs) := by
      have := own_of_block c2 (fun j hj => bl4.block j (own_lt c2 hj).2)
      rw [hlt] at this
      exact this
    have r4 : w4.ownsRow w2.heap.size 32 4 (.slice (some ⟨qr, 0, none⟩) f.L.length qrc) f.L.length (pcs f.L) := ownsRow_base' OR.out (by omega)
    obtain ⟨kY0, kY1, kY2⟩ := kY
    have HC : ∀ j u, [Value.string s.1, Value.string s.2, Value.slice (some ⟨qr, 0, none⟩) f.L.length qrc][j]? = some u → (w4.alloc (.cells #[.string s.1, .string s.2, .slice (some ⟨qr, 0, none⟩) f.L.length qrc] 54)).cell? ((⟨w4.heap.size, 0, none⟩ : Addr).add j) = some u := fun j u hj => by
      have hb := heap_alloc_new w4 (.cells #[.string s.1, .string s.2, .slice (some ⟨qr, 0, none⟩) f.L.length qrc] 54)
      match j, hj with
      | 0, hj => cases hj; simp [Addr.add, cell_at hb 0]
      | 1, hj => cases hj; simp [Addr.add, cell_at hb 1]
      | 2, hj => cases hj; simp [Addr.add, cell_at hb 2]
    have HONE : ∀ u ∈ [Value.string s.1, Value.string s.2, Value.slice (some ⟨qr, 0, none⟩) f.L.length qrc], u.oneCell' = true := by simp [Value.oneCell']
    have hmx : k + 1 ≤ maxLen := by unfold maxLen; omega
    have HFIN := Lib.hid (show ∀ v' w5, w5.ownsRow w2.heap.size 54 3 v' (k + 1) (ccs (ys.take k) rs ++ [.string s.1, .string s.2, .slice (some ⟨qr, 0, none⟩) f.L.length qrc]) → (w4.alloc (.cells #[.string s.1, .string s.2, .slice (some ⟨qr, 0, none⟩) f.L.length qrc] 54)).grownBy w5 u3.ownBlock → Cl w5 w2.heap.size v' (ys.take (k + 1)) (fun s => pts (d.F s)) ∧ Below w2.heap.size w2 w5 from fun v' w5 h1 h2 => by
      refine ⟨?_, ?_⟩
      · rw [HS.out]
        refine Cl.snoc (r := .slice (some ⟨qr, 0, none⟩) f.L.length qrc) (w := w4.alloc (.cells #[.string s.1, .string s.2, .slice (some ⟨qr, 0, none⟩) f.L.length qrc] 54)) (v := u3) ?_ rs c1 (fun i hi => ?_) (by rw [hlt]; exact h1) (by rw [hlt]; exact o4.alloc _) h2
        · show World.ownsRow _ _ _ _ _ (pts (d.F s)).length (pcs (pts (d.F s)))
          rw [HFs.out]
          exact r4.alloc _
        · obtain ⟨r, q1, q2⟩ := c3 i hi
          exact ⟨r, q1, (own_of_block q2 (fun j hj => bl4.block j (own_lt q2 hj).2)).alloc _⟩
      · refine (BW.out.trans (bl4.mono z1)).trans (((Below.refl w2.heap.size w4).alloc (by omega) _).grown h2 (by simp; omega) fun j ej => (own_lt o4 ej).1))
    have O4 := Lib.hid (o4.alloc (.cells #[.string s.1, .string s.2, .slice (some ⟨qr, 0, none⟩) f.L.length qrc] 54))
    clear c1 c2 c3 bl4 o4 r4 hlt
    generalize f.L.length = m at *
    go_wp2_with (at_builtin; refine wpList_append_own _ rfl _ _ 37 rfl w2.heap.size 54 info _ 3 56 Try.underlying37 hi hz0 hz1 hz2 rfl (by decide) _ k _ rfl O4.out ⟨w4.heap.size, 0, none⟩ 1 1 [.string s.1, .string s.2, .slice (some ⟨qr, 0, none⟩) m qrc] rfl rfl HC HONE hmx (by omega) (by simp; omega) ?_; intro v' w5 h1 h2 _; have H5 := Lib.hid (HFIN.out v' w5 h1 h2); clear h1 h2)
    exact ⟨⟨k + 1, by simp, by omega, H5⟩, by simp [intOf]; omega⟩
/-- Columns of a cache, by what is seen of it. -/
def Rv (V : Vw) (ys : List Ky) : Prop := ys.Pairwise (fun a b => klt a b = true) ∧ ∀ x, x ∈ ys ↔ V.P x ≠ []
theorem columnsD (w : World) (S : Nat → Prop) (g N : Nat) (V : Vw) (h : DV w S g N V) (hN : N ≤ 140737488355) (hl : ∀ s, (V.P s).length ≤ 1000000) :
    Calls Try.prog 18 #[.pointer (some ⟨g, 0, none⟩)] w fun e w' => ∃ v ys, e = .returned v ∧ Rv V ys ∧ Cl w' w.heap.size v ys V.P ∧ Below w.heap.size w w' := by
  obtain ⟨d, rfl, h⟩ := h
  refine (columns18 w S g N d h hN hl).mono ?_
  rintro e w' ⟨v, ys, rfl, ⟨p1, p2⟩, c, b⟩
  refine ⟨v, ys, rfl, ⟨p1, fun x => ?_⟩, c, b⟩
  rw [p2 x]
  show (d.F x).map Co.blk ≠ none ↔ pts (d.F x) ≠ []
  cases hF : d.F x with
  | none => simp [pts]
  | some f =>
    have := (h.fm x f hF).1.ne
    simpa [pts] using this
end Sf
end Go.Proofs.Ytloiclmngmnbdaa
