/- The program's side: read. -/
import Derived.Test.YtidbpoigbfpocaaDoorMr
import Derived.Test.YtidbpoigbfpocaaDoorRg
import Derived.Test.YtidbpoigbfpocaaDoorCv
import Derived.Test.YtidbpoigbfpocaaDoorRp
namespace Go.Proofs.YtidbpoigbfpocaaDoor
open Go.RowKit
namespace Rx
open Mt Wr Bm Pk Rp Cv Rd

/-- The numbers as cells. -/
def u64s (l : List Nat) : List Value := l.map fun b => .int .u64 (b : Nat)
theorem u64s_len (l : List Nat) : (u64s l).length = l.length := by simp [u64s]
theorem u64s_snoc (l : List Nat) (b : Nat) : u64s (l ++ [b]) = u64s l ++ [.int .u64 (b : Nat)] := by simp [u64s]
theorem u64s_get (l : List Nat) (j : Nat) (hj : j < l.length) : (u64s l)[j]? = some (.int .u64 (l.getD j 0 : Nat)) := by
  simp [u64s, List.getD_eq_getElem?_getD, hj]
theorem info34 : (Tryd.prog.info? 35).map (fun i => (i.zero, i.size, i.bytes)) = some (some (.int .u64 0), 1, 8) := by kernel_rfl
theorem iu_own {w : World} {B : Nat} {v : Value} {l : List Nat} (h : w.ownsRow B 35 1 v l.length (u64s l)) (hl : ∀ x ∈ l, x < 18446744073709551616) : Iu w v l := by
  refine ⟨hl, ?_⟩
  obtain ⟨_, ⟨rfl, e⟩ | ⟨g, c, cur, rfl, hg, hh, hnc, hcm, hsz, htk⟩⟩ := h
  · exact .inl ⟨_, _, rfl, List.length_eq_zero_iff.1 e⟩
  · have h' : w.ownsRow B 35 1 (.slice (some ⟨g, 0, none⟩) l.length c) l.length (u64s l) := ⟨by rw [u64s_len]; omega, .inr ⟨g, c, cur, rfl, hg, hh, hnc, hcm, hsz, htk⟩⟩
    refine .inr ⟨g, 0, c, rfl, hnc, (h'.lt g rfl).2, fun i hi => ?_⟩
    rw [Nat.zero_add, h'.cellAt i (by omega)]
    exact u64s_get l i hi

theorem slice_of' {w : World} {B size n : Nat} {e : TypeId} {v : Value} {xs : List Value} (ho : w.ownsRow B e size v n xs) : ∃ a c, v = .slice a n c := by
  rcases Go.Joins.ownsRow_forms ho with ⟨rfl, h0⟩ | ⟨q, c, rfl⟩
  · exact ⟨none, 0, by rw [h0]⟩
  · exact ⟨_, _, rfl⟩

theorem Rh.kept {w w' : World} {g : Nat} {s : Value} {bs : List Nat} {p : Nat} {bad : Bool} {row : Option Nat} (h : Rh w g s bs p bad) (hg : w.grownBy w' row) (h1 : row ≠ some g) (h2 : s.ownBlock = none ∨ s.ownBlock ≠ row) : Rh w' g s bs p bad := by
  have hb : w'.heap[g]? = w.heap[g]? := hg.block g h.lt (by first | exact h1 | exact h1.symm)
  obtain ⟨B, ho⟩ := h.own
  exact ⟨Nat.lt_of_lt_of_le h.lt hg.size, (World.cell?_of_block hb).trans h.c0, (World.cell?_of_block hb).trans h.c1, (World.cell?_of_block hb).trans h.c2, (World.frozen?_of_block hb).trans h.z0, (World.frozen?_of_block hb).trans h.z1, (World.frozen?_of_block hb).trans h.z2, h.ne, B, ho.kept hg h2⟩
theorem Rh.alloc {w : World} {g : Nat} {s : Value} {bs : List Nat} {p : Nat} {bad : Bool} (h : Rh w g s bs p bad) (o : Obj) : Rh (w.alloc o) g s bs p bad := by
  have hb : (w.alloc o).heap[g]? = w.heap[g]? := Below.heap_alloc w o g h.lt
  obtain ⟨B, ho⟩ := h.own
  exact ⟨by simpa using Nat.lt_succ_of_lt h.lt, (World.cell?_of_block hb).trans h.c0, (World.cell?_of_block hb).trans h.c1, (World.cell?_of_block hb).trans h.c2, (World.frozen?_of_block hb).trans h.z0, (World.frozen?_of_block hb).trans h.z1, (World.frozen?_of_block hb).trans h.z2, h.ne, B, ho.alloc o⟩
theorem own_only {w w' : World} {g B size n : Nat} {e : TypeId} {v : Value} {xs : List Value} (h : w.ownsRow B e size v n xs) (o : Only w w' g) (hB : g < B) : w'.ownsRow B e size v n xs :=
  h.kept (row := some g) ⟨o.os, o.tape, o.output, o.size, fun k hk hne => o.block k hk (by intro e; subst e; first | exact hne rfl | exact hne.symm rfl)⟩ (by
    by_cases e : v.ownBlock = none
    · exact .inl e
    · refine .inr fun e2 => ?_
      have := (h.lt g e2).1
      omega)

set_option maxRecDepth 100000 in
set_option maxHeartbeats 1000000 in
theorem read18 (w : World) (v : Value) (bs : List Nat) (n : Int) (hIs : Is w v bs) (hX : ∀ b ∈ bs, b < 256) (hT : Tab w) (hb : bs.length ≤ 140737488353272) (hbd : min n.toNat (60 * (bs.length / 8)) ≤ 17592186044159) (n1 : -9223372036854775808 ≤ n) (n2 : n ≤ 9223372036854775807) :
    Calls Tryd.prog 54 #[v, .int .i64 n] w fun e w' => ∃ r, e = .returned r ∧ w'.ownsRow w.heap.size 35 1 r (got bs n).length (u64s (got bs n)) ∧ Below w.heap.size w w' := by
  obtain ⟨i0, hi, hz0, hz1, hz2⟩ := info_parts info34
  have hv : ∃ a c, v = .slice a bs.length c := by
    rcases hIs with ⟨rfl, rfl⟩ | ⟨ad, c, rfl, _⟩
    · exact ⟨_, _, rfl⟩
    · exact ⟨_, _, rfl⟩
  obtain ⟨a, c, rfl⟩ := hv
  have F26 := Lib.hid (new16 w _ bs hIs (by omega))
  obtain ⟨Q, hQ⟩ : ∃ Q, Q = bs.length / 8 := ⟨_, rfl⟩
  have hQi : (bs.length : Int) / 8 = (Q : Int) := by omega
  have HBD : Hid (min n.toNat (60 * Q) ≤ 17592186044159) := Lib.hid (by rw [hQ]; exact hbd)
  clear hbd
  have HT := Lib.hid hT
  have HX := Lib.hid (has_bb hX)
  have HXX := Lib.hid hX
  obtain ⟨len, hlen⟩ : ∃ len, len = bs.length := ⟨_, rfl⟩
  have HG : Hid (got bs n = if ((Q * 60 : Nat) : Int) < n then [] else (reads n.toNat [] (wordsOf bs Q)).getD []) := Lib.hid (by unfold got; rw [hQ])
  rw [← hlen] at hQ hQi hb F26 ⊢
  have HQ := Lib.hid hQ
  have HQI := Lib.hid hQi
  have HLEN := Lib.hid hlen
  clear hIs hT hX hlen
  by_cases hbig : ((Q * 60 : Nat) : Int) < n
  · have hG : Hid (got bs n = []) := Lib.hid (by rw [HG.out, if_pos hbig])
    have hbig' : (len : Int) / 8 * 60 < n := by omega
    clear hQ hQi
    go_enter Tryd.func54, Tryd.ntmps54
    go_wp2_with fail
    go_ret
    rw [hG.out]
    exact ⟨_, rfl, World.ownsRow_nil _ _ _ _, Below.refl _ _⟩
  · have hG : Hid (got bs n = (reads n.toNat [] (wordsOf bs Q)).getD []) := Lib.hid (by rw [HG.out, if_neg hbig])
    have hbig' : n ≤ (len : Int) / 8 * 60 := by omega
    clear HG hbig hQ hQi
    go_enter Tryd.func54, Tryd.ntmps54
    go_wp2_with (go_at_call 41; refine F26.out.mono ?_; rintro e w1 ⟨g, s, rfl, hR1, hg1, hs1, b1⟩)
    rw [HQI.out]
    have hbw : n ≤ (Q : Int) * 60 := by rw [← HQI.out]; exact hbig'
    have hQb : Q ≤ 17592186044159 := by have := HQ.out; omega
    have HS1 := Lib.hid hs1
    have HG1 := Lib.hid hg1
    have hgl : g < w1.heap.size := hR1.lt
    have HR1 := Lib.hid hR1
    have B1 := Lib.hid b1
    have hsl : ∀ k, s.ownBlock = some k → k < w1.heap.size := fun k hk => by obtain ⟨B, ho⟩ := hR1.own; exact (ho.lt k hk).2
    have HSL := Lib.hid hsl
    clear hR1 hs1 hg1 b1 hsl hbig'
    go_loopw [21, 6] (fun i o wr => ∃ k L, k ≤ Q ∧ i = .int .i64 (k : Nat) ∧ reads n.toNat [] (wordsOf bs k) = some L ∧ L.length ≤ 60 * k ∧ wr.ownsRow w1.heap.size 35 1 o L.length (u64s L) ∧ Rh wr g s bs (64 * k) false ∧ Below w.heap.size w wr ∧ w1.heap.size ≤ wr.heap.size) (fun i _ _ => Q - (intOf i).toNat)
    case atStart => exact ⟨0, [], Nat.zero_le _, rfl, rfl, Nat.zero_le _, World.ownsRow_nil _ _ _ _, HR1.out, B1.out, Nat.le_refl _⟩
    case round =>
      obtain ⟨k, L, hk, rfl, hre, hll, hown, hR, hB, hsz⟩ := hrel
      by_cases hkQ : k < Q
      · have hp := num_parts HXX.out k
        have hp8 : 64 * k + 64 ≤ 8 * bs.length := by have := HQ.out; rw [HLEN.out] at this; omega
        have hbs : bs.length ≤ 140737488353272 := by rw [← HLEN.out]; exact hb
        have h19a := get_ok wr g s bs (64 * k) 4 (bb bs) hR HX.out (by decide) (by decide) (by omega) (by omega)
        have h19b := fun x (h : Rh x g s bs (64 * k + 4) false) => get_ok x g s bs (64 * k + 4) 60 (bb bs) h HX.out (by decide) (by decide) (by omega) (by omega)
        have hXlt := num8_lt HXX.out (8 * k)
        have hstep := @reads_step n.toNat bs k L hre
        have hstop := @reads_stop n.toNat bs k L hre
        have hLn := reads_le hre (Nat.zero_le _)
        obtain ⟨X, hX⟩ : ∃ X, X = num8 bs (8 * k) := ⟨_, rfl⟩
        rw [← hX] at hp hXlt hstep hstop
        obtain ⟨cd, hcd⟩ : ∃ cd, cd = X / 2 ^ 60 := ⟨_, rfl⟩
        obtain ⟨rm, hrm⟩ : ∃ rm, rm = X % 2 ^ 60 := ⟨_, rfl⟩
        rw [hp.1, ← hcd] at h19a
        rw [hp.2, ← hrm] at h19b
        rw [← hcd] at hstep hstop
        have F19a : Hid (Calls Tryd.prog 42 #[.pointer (some ⟨g, 0, none⟩), .int .i64 4] wr fun e w' => e = .returned (.int .u64 (cd : Nat)) ∧ Rh w' g s bs (64 * k + 4) false ∧ Only wr w' g) := Lib.hid h19a
        have F19b : Hid (∀ x, Rh x g s bs (64 * k + 4) false → Calls Tryd.prog 42 #[.pointer (some ⟨g, 0, none⟩), .int .i64 60] x fun e w' => e = .returned (.int .u64 (rm : Nat)) ∧ Rh w' g s bs (64 * (k + 1)) false ∧ Only x w' g) := Lib.hid h19b
        have hcd16 : cd < 16 := by omega
        have hrm60 : rm < 1152921504606846976 := by omega
        obtain ⟨a6, c6, hu6⟩ := slice_of' hown
        have HO := Lib.hid hown
        have HB := Lib.hid hB
        have HRE := Lib.hid hre
        have HST := Lib.hid hstep
        have HSP := Lib.hid hstop
        have HCD := Lib.hid hcd
        have HRM := Lib.hid hrm
        have HXE := Lib.hid hX
        have HXL := Lib.hid hXlt
        clear hown hB hre hstep hstop hcd hrm hX hXlt hp h19a h19b hR hbs hp8
        subst hu6
        by_cases hc : 13 < cd
        · go_wp2_with fail
          refine F19a.out.mono ?_
          rintro e w2 ⟨rfl, r2, o2⟩
          have R2 := Lib.hid r2
          have O2 := Lib.hid o2
          clear r2 o2
          go_wp2_with fail
          refine (F19b.out _ R2.out).mono ?_
          rintro e w3 ⟨rfl, r3, o3⟩
          have R3 := Lib.hid r3
          have O3 := Lib.hid o3
          clear r3 o3
          go_wp2_with fail
          go_ret
          have hgot : got bs n = [] := by rw [hG.out, reads_more (HSP.out hc) Q (by omega)]; rfl
          rw [hgot]
          have hw := HB.out
          exact ⟨_, rfl, World.ownsRow_nil _ _ _ _, hw.trans ((O2.out.trans O3.out).below HG1.out (by have := B1.out.size; have := hw.size; omega))⟩
        · have h1 := W_pos cd
          have h2 := W_le cd
          have h3 : (60 : Int) / (W cd : Nat) = (cap cd : Nat) := rfl
          have h4 := cap_pos cd
          have h5 := cap_le cd
          have h6 := cap_mul cd
          obtain ⟨U, hU⟩ : ∃ U, U = W cd := ⟨_, rfl⟩
          obtain ⟨C, hC⟩ : ∃ C, C = cap cd := ⟨_, rfl⟩
          have FT : Hid (∀ x, Below w.heap.size w x → x.cell? ⟨0, cd, none⟩ = some (.int .i64 (U : Nat))) := Lib.hid fun x hb => by rw [hU]; exact (HT.out.below hb HT.out.1).2 cd (by omega)
          rw [← hU] at h1 h2 h3 h6
          rw [← hC] at h3 h4 h5 h6
          have HU := Lib.hid hU
          have HCC := Lib.hid hC
          have H6 := Lib.hid h6
          obtain ⟨ll, hl⟩ : ∃ ll, ll = L.length := ⟨_, rfl⟩
          rw [← hl] at HO hLn hll ⊢
          have HLL := Lib.hid hl
          have hlo : (-9223372036854775808 : Int) ≤ n - (ll : Int) := by omega
          clear hU hC h6 hl
          go_wp2_with fail
          refine F19a.out.mono ?_
          rintro e w2 ⟨rfl, r2, o2⟩
          have R2 := Lib.hid r2
          have O2 := Lib.hid o2
          clear r2 o2
          go_wp2_with fail
          refine (F19b.out _ R2.out).mono ?_
          rintro e w3 ⟨rfl, r3, o3⟩
          have R3 := Lib.hid r3
          have O3 := Lib.hid o3
          have B3 := Lib.hid (Below.trans HB.out ((O2.out.trans O3.out).below HG1.out (by have := B1.out.size; have := HB.out.size; omega)))
          have e3 := FT.out w3 B3.out
          clear r3 o3
          obtain ⟨T, hT⟩ : ∃ T, T = min C (n.toNat - ll) := ⟨_, rfl⟩
          by_cases hlt : n - (ll : Int) < (C : Int)
          case' pos =>
            go_wp2_with fail
            obtain ⟨m, hm⟩ : ∃ m, m = n - (ll : Int) := ⟨_, rfl⟩
            rw [← hm]
            have hmT : m.toNat = T ∧ m ≤ 60 ∧ -9223372036854775808 ≤ m := by omega
          case' neg =>
            go_wp2_with fail
            obtain ⟨m, hm⟩ : ∃ m, m = (C : Int) := ⟨_, rfl⟩
            rw [← hm]
            have hmT : m.toNat = T ∧ m ≤ 60 ∧ -9223372036854775808 ≤ m := by omega
          all_goals
            obtain ⟨hm1, hm2, hm3⟩ := hmT
            have HTT := Lib.hid hT
            have HO3 : Hid (w3.ownsRow w1.heap.size 35 1 (.slice a6 ll c6) ll (u64s L)) := Lib.hid (own_only HO.out (O2.out.trans O3.out) hgl)
            have HSZ : Hid (w1.heap.size ≤ w3.heap.size) := Lib.hid (Nat.le_trans hsz (Nat.le_trans O2.out.size O3.out.size))
            clear hT hm hlt hlo h3
            go_loopw [39, 6, 9] (fun j o r wr => ∃ q, q ≤ T ∧ j = .int .i64 (q : Nat) ∧ r = .int .u64 ((rm / 2 ^ (q * U) : Nat) : Int) ∧ wr.ownsRow w1.heap.size 35 1 o (ll + q) (u64s (L ++ outs U X q)) ∧ Rh wr g s bs (64 * (k + 1)) false ∧ Below w.heap.size w wr ∧ w1.heap.size ≤ wr.heap.size) (fun j _ _ _ => T - (intOf j).toNat)
            case atStart => exact ⟨0, Nat.zero_le _, rfl, by simp, by simpa [outs] using HO3.out, R3.out, B3.out, HSZ.out⟩
            case round =>
              obtain ⟨q, hq, rfl, rfl, hown, hR, hB, hsz2⟩ := hrel
              by_cases hqT : q < T
              · have hqU : (q + 1) * U ≤ 60 := Nat.le_trans (Nat.mul_le_mul_right _ (by have := HTT.out; omega)) H6.out
                rw [Nat.add_mul, Nat.one_mul] at hqU
                have hqm : (q : Int) < m := by omega
                have hy60 : rm / 2 ^ (q * U) < 1152921504606846976 := Nat.lt_of_le_of_lt (Nat.div_le_self _ _) hrm60
                have hyn : rm / 2 ^ (q * U) / 2 ^ U = rm / 2 ^ ((q + 1) * U) := by rw [Nat.div_div_eq_div_mul, ← Nat.pow_add, Nat.add_mul, Nat.one_mul]
                have hyd : rm / 2 ^ (q * U) % 2 ^ U = X / 2 ^ (q * U) % 2 ^ U := by rw [HRM.out, part_eq X q U hqU]
                obtain ⟨y, hy⟩ : ∃ y, y = rm / 2 ^ (q * U) := ⟨_, rfl⟩
                rw [← hy] at hy60 hyn hyd
                rw [← hy]
                have HYN := Lib.hid hyn
                have HYD := Lib.hid hyd
                have HOW := Lib.hid hown
                have HRH := Lib.hid hR
                have HBB := Lib.hid hB
                obtain ⟨ao, co, hu⟩ := slice_of' hown
                obtain ⟨D, hD⟩ : ∃ D, D = y % 2 ^ U := ⟨_, rfl⟩
                have hand : bits BinOp.and IntKind.u64 (y : Int) (IntKind.u64.wrap (IntKind.u64.wrap (2 ^ U) - 1)) = ((D : Nat) : Int) := by
                  have hp1 : 2 ^ U ≤ 2 ^ 60 := Nat.pow_le_pow_right (by decide) h2
                  have hp0 : 0 < 2 ^ U := Nat.two_pow_pos U
                  have e1 : IntKind.u64.wrap (IntKind.u64.wrap ((2 : Int) ^ U) - 1) = ((2 ^ U - 1 : Nat) : Int) := by
                    rw [show ((2 : Int) ^ U) = ((2 ^ U : Nat) : Int) from by push_cast; rfl, IntKind.wrap_u64, IntKind.wrap_u64]
                    omega
                  rw [e1, u64_and_nat _ _ (by omega) (by omega), Nat.and_two_pow_sub_one_eq_mod, hD]
                have HDE := Lib.hid hD
                have HQB : Hid (ll + q + 1 ≤ 17592186044159) := Lib.hid (by have := HBD.out; have := HTT.out; omega)
                clear hy hyn hyd hown hR hB hD
                subst hu
                go_wp2_with (at_builtin; refine wpList_append_own _ rfl (.tmp 41) (.tmp 47) 39 rfl w1.heap.size 35 i0 (.int .u64 0) 1 8 Tryd.underlying39 hi hz0 hz1 hz2 rfl (by decide) _ _ _ rfl (HOW.out.alloc _) ⟨wr.heap.size, 0, none⟩ 1 1 [.int .u64 (D : Nat)] rfl rfl ?c1 ?c2 ?c3 ?c4 ?c5 ?_)
                case c1 => exact cell_one_new _ _ _
                case c2 => intro u hu; simp at hu; subst hu; rfl
                case c3 => have := HQB.out; unfold maxLen; omega
                case c4 => have := HQB.out; omega
                case c5 => simp; omega
                intro v' w6 hown6 hgrow _
                have hne1 : (Value.slice ao (ll + q) co).ownBlock ≠ some g := fun e => by have := (HOW.out.lt g e).1; omega
                have hne2 : s.ownBlock = none ∨ s.ownBlock ≠ (Value.slice ao (ll + q) co).ownBlock := by
                  cases hso : s.ownBlock with
                  | none => exact .inl rfl
                  | some z => exact .inr fun e => by have h8 := HSL.out z hso; have h9 := (HOW.out.lt z e.symm).1; omega
                have R6 := Lib.hid (Rh.kept (Rh.alloc HRH.out _) hgrow hne1 hne2)
                have B6 := Lib.hid (Below.grown (HBB.out.alloc (by have := B1.out.size; omega) _) hgrow (by simp; have := B1.out.size; omega) (fun r hr => by have := (HOW.out.lt r hr).1; have := B1.out.size; omega))
                have S6 := Lib.hid hgrow.size
                have O6 := Lib.hid hown6
                clear hgrow hown6 hne1 hne2
                go_wp2_with fail
                go_roundw
                case rel =>
                  refine ⟨q + 1, by omega, by go_num, ?_, ?_, R6.out, B6.out, by have := S6.out; simp at this; omega⟩
                  · rw [← HYN.out]; push_cast; rfl
                  · have h := O6.out
                    rw [HDE.out, HYD.out] at h
                    rw [show L ++ outs U X (q + 1) = (L ++ outs U X q) ++ [X / 2 ^ (q * U) % 2 ^ U] from by simp [outs], u64s_snoc]
                    exact h
                case measure => simp [intOf]; omega
              · obtain rfl : T = q := by omega
                have HOW := Lib.hid hown
                have HRH := Lib.hid hR
                have HBB := Lib.hid hB
                obtain ⟨ao, co, hu⟩ := slice_of' hown
                have hqm : ¬ (T : Int) < m := by omega
                have HNX : Hid (reads n.toNat [] (wordsOf bs (k + 1)) = some (L ++ outs U X T)) := Lib.hid (by
                  rw [HST.out hc, HU.out, ← HLL.out]
                  unfold room
                  rw [← HCC.out, ← HTT.out])
                clear hown hR hB
                subst hu
                go_wp2_with fail
                go_roundw
                case rel =>
                  refine ⟨k + 1, L ++ outs U X T, by omega, by go_num, HNX.out, ?_, ?_, HRH.out, HBB.out, hsz2⟩
                  · rw [List.length_append, outs_len, ← HLL.out]
                    have := HTT.out
                    omega
                  · rw [List.length_append, outs_len, ← HLL.out]
                    exact HOW.out
                case measure => simp [intOf]; omega
      · obtain rfl : Q = k := by omega
        have HO := Lib.hid hown
        have HB := Lib.hid hB
        have HRE := Lib.hid hre
        clear hown hR hB hre
        go_wp2_with fail
        go_ret
        have hgot : got bs n = L := by rw [hG.out, HRE.out]; rfl
        rw [hgot]
        exact ⟨_, rfl, Go.Joins.ownsRow_le HO.out (by have := B1.out.size; omega), HB.out⟩
end Rx
end Go.Proofs.YtidbpoigbfpocaaDoor
