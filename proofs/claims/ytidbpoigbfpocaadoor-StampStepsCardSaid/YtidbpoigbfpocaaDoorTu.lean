/- readUneven. -/
import Derived.Test.YtidbpoigbfpocaaDoorTw
namespace Go.Proofs.YtidbpoigbfpocaaDoor
open Go.RowKit
namespace Tg
open Bm Mt Wr Pk Rp Cv Rd Rx Ux Sz Tm Ti Lu

def un (F : Int) (cs : List Nat) (k : Nat) : Int := wrap64 (tims F cs k)
theorem un_tab (F : Int) (cs : List Nat) : unevenT F cs = tab (un F cs) (cs.length + 1) := rfl
theorem un_zero {F : Int} (hF : -9223372036854775808 ≤ F ∧ F ≤ 9223372036854775807) (cs : List Nat) : un F cs 0 = F := wrap_id hF
theorem un_succ (F : Int) (cs : List Nat) (k : Nat) : un F cs (k + 1) = wrap64 (un F cs k + wrap64 (accs cs (k + 1))) := by
  unfold un
  simp only [tims]
  generalize accs cs (k + 1) = q
  unfold wrap64
  omega
theorem accs_wrap (cs : List Nat) (k : Nat) : wrap64 (accs cs (k + 1)) = wrap64 (wrap64 (accs cs k) + zag (cs.getD k 0 : Nat)) := by
  simp only [accs]
  unfold wrap64
  omega
/-- What readUneven tells. -/
def unT (F : Int) (bs : List Nat) (m : Nat) : List Int :=
  match unpacks bs (m : Int) with
  | some cs => unevenT F cs
  | none => []

set_option maxRecDepth 100000 in
set_option maxHeartbeats 1000000 in
theorem uneven45 (w : World) (v : Value) (bs : List Nat) (F : Int) (n : Nat) (hP : Pl w v bs) (hIs : Is w v bs) (hX : ∀ b ∈ bs, b < 256) (hTb : Tab w) (hb : bs.length ≤ 140737488353272) (hF : -9223372036854775808 ≤ F ∧ F ≤ 9223372036854775807) (hn : 1 ≤ n) (hn9 : n ≤ 1000) :
    Calls Tryd.prog 45 #[v, .int .i64 F, .int .i64 (n : Nat)] w fun e w' => ∃ r, e = .returned r ∧ w'.ownsRow w.heap.size 2 1 r (unT F bs (n - 1)).length (i64s (unT F bs (n - 1))) ∧ Below w.heap.size w w' := by
  obtain ⟨i0, hi, hz0, hz1, hz2⟩ := info_parts info2
  have F51 := Lib.hid (unpack11 w v bs ((n - 1 : Nat) : Int) hP hIs hX hTb hb (by omega) (by omega) (by omega))
  have hs1 : (n : Int) - 1 = ((n - 1 : Nat) : Int) := by omega
  cases hu : unpacks bs ((n - 1 : Nat) : Int) with
  | none =>
    have HR : Hid (unT F bs (n - 1) = []) := Lib.hid (by unfold unT; rw [hu])
    have F51n : Hid (Calls Tryd.prog 51 #[v, .int .i64 ((n - 1 : Nat) : Int)] w fun e w' => e = .returned (.tuple #[.slice none 0 0, .int .i64 2]) ∧ Below w.heap.size w w') := Lib.hid (F51.out.mono fun e w' h => Unpacked.bad h hu)
    rw [← hs1] at F51n
    clear F51 hP hIs hX hTb hb hu hs1
    go_enter Tryd.func45, Tryd.ntmps45
    go_wp2_with fail
    refine F51n.out.mono ?_
    rintro e w1 ⟨rfl, b1⟩
    have B1 := Lib.hid b1
    clear b1
    go_wp2_with fail
    go_ret
    exact ⟨_, rfl, by rw [HR.out]; exact World.ownsRow_nil _ _ _ _, B1.out⟩
  | some cs =>
    have hcl := unpacks_len hu
    have HR : Hid (unT F bs (n - 1) = tab (un F cs) n) := Lib.hid (by unfold unT; rw [hu, ← show cs.length + 1 = n from by omega]; rfl)
    have F51s : Hid (Calls Tryd.prog 51 #[v, .int .i64 ((n - 1 : Nat) : Int)] w fun e w' => ∃ r, e = .returned (.tuple #[r, .int .i64 0]) ∧ Iu w' r cs ∧ Below w.heap.size w w') := Lib.hid (F51.out.mono fun e w' h => by
      obtain ⟨hS, _, r, he, ho, bl⟩ := Unpacked.ok h hu
      exact ⟨r, he, iu_own ho (small64 hS), bl⟩)
    have H64 : Hid (∀ k, cs.getD k 0 < 18446744073709551616) := Lib.hid fun k => by
      unfold unpacks at hu
      split at hu
      · cases hr : reads ((n - 1 : Nat) : Int).toNat [] (wordsOf bs (bs.length / 8)) with
        | none => rw [hr] at hu; cases hu
        | some l' =>
          rw [hr] at hu
          simp only [Option.bind_some] at hu
          split at hu
          · cases hu
            exact Nat.lt_trans ((reads_small hr small_nil).get k) (by decide)
          · cases hu
      · cases hu
    rw [← hs1] at F51s
    have HONE : Hid (∀ x : World, (x.alloc (.cells #[.int .i64 F] 2)).ownsRow x.heap.size 2 1 (.slice (some ⟨x.heap.size, 0, none⟩) 1 1) 1 (i64s (tab (un F cs) 1))) := Lib.hid fun x => by
      have := own_one x F
      rw [show tab (un F cs) 1 = [F] from by show [un F cs 0] = [F]; rw [un_zero hF cs]]
      exact this
    have HA0 : Hid ((0 : Int) = wrap64 (accs cs 0)) := Lib.hid (by simp only [accs]; unfold wrap64; omega)
    clear F51 hP hIs hX hTb hb hu hs1
    obtain ⟨m, hm⟩ : ∃ m, m = cs.length := ⟨_, rfl⟩
    rw [← hm] at hcl
    have HM := Lib.hid hm
    clear hm
    by_cases hm0 : m = 0
    · have hn1 : n = 1 := by omega
      subst hn1
      have hc0 : Hid (cs = []) := Lib.hid (List.length_eq_zero_iff.1 (by have := HM.out; omega))
      have F51z : Hid (Calls Tryd.prog 51 #[v, .int .i64 0] w fun e w' => ∃ a c, e = .returned (.tuple #[.slice a 0 c, .int .i64 0]) ∧ Below w.heap.size w w') := Lib.hid (F51s.out.mono fun e w' ⟨r, he, hI, bl⟩ => by
        rcases hI.cases with ⟨a, c, rfl, _⟩ | ⟨h0, _⟩
        · exact ⟨a, c, he, bl⟩
        · rw [hc0.out] at h0; simp at h0)
      clear F51s hcl hm0
      go_enter Tryd.func45, Tryd.ntmps45
      go_wp2_with fail
      refine F51z.out.mono ?_
      rintro e w1 ⟨a1, c1, rfl, b1⟩
      have B1 := Lib.hid b1
      clear b1
      go_wp2_with fail
      refine wp_loop_rounds 1 ?_
      rw [rounds_succ]
      go_wp2_with fail
      go_ret
      refine ⟨_, rfl, ?_, B1.out.alloc B1.out.size _⟩
      rw [HR.out, tab_len]
      exact Go.Joins.ownsRow_le (HONE.out w1) B1.out.size
    · have F51z : Hid (Calls Tryd.prog 51 #[v, .int .i64 ((n : Int) - 1)] w fun e w' => ∃ b off c, e = .returned (.tuple #[.slice (some ⟨b, off, none⟩) m c, .int .i64 0]) ∧ b < w'.heap.size ∧ (∀ i, i < m → w'.cell? ⟨b, off + i, none⟩ = some (.int .u64 (cs.getD i 0 : Nat))) ∧ m ≤ c ∧ Below w.heap.size w w') := Lib.hid (F51s.out.mono fun e w' ⟨r, he, hI, bl⟩ => by
        rcases hI.cases with ⟨a, c, rfl, h⟩ | ⟨_, b, off, c, rfl, h2, h3, h4⟩
        · rw [h] at HM; exact absurd HM.out hm0
        · rw [← HM.out] at he h4 h2
          exact ⟨b, off, c, he, h3, h4, h2, bl⟩)
      clear F51s
      go_enter Tryd.func45, Tryd.ntmps45
      go_wp2_with fail
      refine F51z.out.mono ?_
      rintro e w1 ⟨b1, off, c1, rfl, hb1, hcell, hmc, bl1⟩
      have B1 := Lib.hid bl1
      have HC := Lib.hid hcell
      have hO1 := Lib.hid (HONE.out w1)
      have HBA : Hid (Below w1.heap.size w1 (w1.alloc (.cells #[.int .i64 F] 2))) := Lib.hid ((Below.refl _ _).alloc (Nat.le_refl _) _)
      clear bl1 hcell
      go_wp2_with fail
      go_loopw [11, 12, 10, 9, 26] (fun _ _ d o i wr => ∃ k, k ≤ m ∧ i = .int .i64 (k : Nat) ∧ d = .int .i64 (wrap64 (accs cs k)) ∧ wr.ownsRow w1.heap.size 2 1 o (k + 1) (i64s (tab (un F cs) (k + 1))) ∧ Below w1.heap.size w1 wr) (fun _ _ _ _ i _ => m - (intOf i).toNat)
      case atStart => exact ⟨0, Nat.zero_le _, rfl, by rw [← HA0.out], hO1.out, HBA.out⟩
      case round =>
        obtain ⟨k, hk, rfl, rfl, ho, hbl⟩ := hrel
        by_cases hkn : k < m
        · obtain ⟨go, co, rfl⟩ := Go.Joins.ownsRow_form ho (by omega)
          have e1 : wr.cell? ⟨go, k, none⟩ = some (.int .i64 (un F cs k)) := by
            rw [ho.cellAt k (by omega)]
            rw [i64s_get _ k (by rw [tab_len]; omega), tab_get _ _ _ _ (by omega)]
          have e2 := (hbl.cell hb1).trans (HC.out k hkn)
          have hcs := H64.out k
          have haw := accs_wrap cs k
          have HTD : Hid (i64s (tab (un F cs) (k + 1 + 1)) = i64s (tab (un F cs) (k + 1)) ++ [.int .i64 (wrap64 (un F cs k + wrap64 (accs cs (k + 1))))]) := Lib.hid (by rw [tab_succ, i64s_snoc, un_succ])
          obtain ⟨E, hE⟩ : ∃ E, E = un F cs k := ⟨_, rfl⟩
          rw [← hE] at e1 HTD
          obtain ⟨C, hC⟩ : ∃ C, C = cs.getD k 0 := ⟨_, rfl⟩
          rw [← hC] at e2 hcs haw
          obtain ⟨A, hA⟩ : ∃ A, A = wrap64 (accs cs k) := ⟨_, rfl⟩
          obtain ⟨A2, hA2⟩ : ∃ A2, A2 = wrap64 (accs cs (k + 1)) := ⟨_, rfl⟩
          rw [← hA, ← hA2] at haw
          rw [← hA2] at HTD
          have HA2 := Lib.hid hA2
          rw [← hA]
          obtain ⟨G, hG⟩ : ∃ G, G = zag (C : Nat) := ⟨_, rfl⟩
          rw [← hG] at haw
          have hsum := haw.symm
          have F52 : Hid (∀ x, Calls Tryd.prog 52 #[.int .u64 (C : Nat)] x fun e w' => e = .returned (.int .i64 G) ∧ w' = x) := Lib.hid fun x => by
            rw [hG]
            exact zag24 (C : Nat) (by omega) (by omega) x
          have HB := Lib.hid hbl
          have hbs := hbl.size
          have hown := ho
          have hk1 : (k : Int) < ((k + 1 : Nat) : Int) := by omega
          clear ho hbl hE hC hA hA2 haw hG hcs
          obtain ⟨j, hj⟩ : ∃ j, j = k + 1 := ⟨_, rfl⟩
          rw [← hj] at hown HTD hk1
          have HJ := Lib.hid hj
          have hj9 : j ≤ 1000 := by omega
          rw [← hj]
          clear hj
          go_wp2_with fail
          refine (F52.out _).mono ?_
          rintro e w5 ⟨rfl, h5⟩
          rw [h5]
          clear h5 w5
          go_wp2_with (at_builtin; refine wpList_append_own _ rfl (.tmp 35) (.tmp 42) 22 rfl w1.heap.size 2 i0 (.int .i64 0) 1 8 Tryd.underlying22 hi hz0 hz1 hz2 rfl (by decide) _ j _ rfl (hown.alloc _) ⟨wr.heap.size, 0, none⟩ 1 1 [.int .i64 (wrap64 (E + A2))] rfl rfl ?c1 ?c2 ?c3 ?c4 ?c5 ?_)
          case c1 => exact cell_one_new _ _ _
          case c2 => intro u hu; simp at hu; subst hu; rfl
          case c3 => unfold maxLen; omega
          case c4 => omega
          case c5 => simp; omega
          intro v' w6 hown' hgrow _
          have b6 := Lib.hid (Below.grown (HB.out.alloc (Nat.le_trans (Nat.le_refl _) hbs) _) hgrow (by simp; omega) (fun r hr => (hown.lt r hr).1))
          clear hgrow
          have hO6 := Lib.hid hown'
          clear hown'
          go_wp2_with fail
          go_roundw
          case rel => exact ⟨k + 1, by have := HJ.out; omega, by go_num, by rw [HA2.out], by have h := hO6.out; rw [← HTD.out, HJ.out] at h; exact h, b6.out⟩
          case measure => simp [intOf]; omega
        · obtain rfl : k = m := by omega
          have HB := Lib.hid hbl
          have HO := Lib.hid ho
          have HKN : Hid (k + 1 = n) := Lib.hid (by omega)
          clear ho hbl
          go_wp2_with fail
          go_ret
          refine ⟨_, rfl, ?_, B1.out.trans (HB.out.mono B1.out.size)⟩
          rw [HR.out, tab_len]
          have h := HO.out
          rw [HKN.out] at h
          exact Go.Joins.ownsRow_le h B1.out.size
end Tg
end Go.Proofs.YtidbpoigbfpocaaDoor
