/- The document's Encode. -/
import Derived.Test.YtmlbmiegfeadjaaIq
import Derived.Deep.RegionHeldLaw
namespace Go.Proofs.Ytmlbmiegfeadjaa
open Go.RowKit
namespace Iu
open Ga Gm Gt
open Mt (eight eight_lt)
open Wr (u8s)
open Ia Ib Ic Iq

theorem encL_bound {L : List Tmb} {k : Nat} (hk : k ≤ L.length) (h : ∀ j, j < k → fmT (L.getD j t0) = true) : (encL (L.take k)).length ≤ k * 8020 := by
  have hf : fmL (L.take k) = true := fm_true fun i hi => by
    rw [List.length_take] at hi
    have hi : i < k := by omega
    have := h i hi
    rw [List.getD_eq_getElem?_getD] at this
    rw [List.getD_eq_getElem?_getD, List.getElem?_take_of_lt hi]
    exact this
  have := encL_len (L.take k) hf k
  rwa [List.take_take, Nat.min_self] at this
set_option maxRecDepth 100000
set_option maxHeartbeats 16000000
theorem encode10 (w : World) (v : Value) (L : List Tmb) (h : Ti w v L) (hn : L.length ≤ 1000000000) :
    Calls Try.prog 10 #[v] w fun e w' => Enc w w' L e ∧ Below w.heap.size w w' := by
  obtain ⟨a, c, rfl, hg⟩ := h.get
  obtain ⟨n, hN⟩ : ∃ n, n = L.length := ⟨_, rfl⟩
  have FT := Lib.hid (fun (hh : ∀ i, i < n → fmT (L.getD i t0) = true) => fm_true (L := L) (fun i hi => hh i (by omega)))
  have FF := Lib.hid (fun i (hi : i < n) hh => fm_false (L := L) (i := i) (by omega) hh)
  have HG := Lib.hid hg
  have HN := Lib.hid hN
  rw [← hN] at HG hn ⊢
  clear h hg hN
  go_enter Try.func10, Try.ntmps10
  go_wp2_with fail
  go_loopw [4, 9] (fun o i wr => ∃ k, k ≤ n ∧ i = .int .i64 (k : Nat) ∧ Hid (wr.ownsRow w.heap.size 5 1 o (encL (L.take k)).length (u8s (encL (L.take k)))) ∧ Hid (∀ j, j < k → fmT (L.getD j t0) = true) ∧ Hid (Below w.heap.size w wr)) (fun _ i _ => n - (intOf i).toNat)
  case atStart => exact ⟨0, Nat.zero_le _, rfl, Lib.hid (World.ownsRow_nil _ _ _ _), Lib.hid (fun j hj => by omega), Lib.hid (Below.refl _ _)⟩
  case round =>
    obtain ⟨k, hk, rfl, HO, HA, HB⟩ := hrel
    obtain ⟨wa, rfl⟩ : ∃ wa, wa = wr := ⟨_, rfl⟩
    obtain ⟨oa, oc, rfl⟩ := own_forms HO.out
    obtain ⟨ol, hol⟩ : ∃ ol, ol = (encL (L.take k)).length := ⟨_, rfl⟩
    rw [← hol] at HO ⊢
    by_cases hkn : k < n
    case neg =>
      obtain rfl : k = n := by omega
      have E := Lib.hid (FT.out HA.out)
      have HO2 := HO
      rw [List.take_of_length_le (show L.length ≤ k by rw [HN.out]; exact Nat.le_refl _)] at HO2
      have hol2 := Lib.hid (show ol = (encL L).length by rw [hol, List.take_of_length_le (by rw [HN.out]; exact Nat.le_refl _)])
      clear hol
      go_wp2_with fail
      go_ret2
      exact ⟨.inl ⟨E.out, _, rfl, by rw [← hol2.out]; exact HO2.out⟩, HB.out⟩
    obtain ⟨b, off, rfl, hnc, hb, hT⟩ := HG.out k hkn
    obtain ⟨x0, x1, x2, x3⟩ := hT wa HB.out
    have XF := Lib.hid (FF.out k hkn)
    have XT := Lib.hid (show fmT (L.getD k t0) = true → ∀ j, j < k + 1 → fmT (L.getD j t0) = true from fun hh j hj => by
      by_cases e : j = k
      · rw [e]; exact hh
      · exact HA.out j (by omega))
    have ET := Lib.hid (encL_take L (k := k) (by rw [← HN.out]; exact hkn))
    have hlen := encL_bound (L := L) (k := k) (by rw [← HN.out]; exact hk) HA.out
    generalize L.getD k t0 = x at x0 x1 x2 x3 XT XF hT ET
    obtain ⟨xs, xf, x4, x5⟩ := x
    simp only at x0 x1 x2 x3
    have zb := HB.out.size
    have hbz : b < wa.heap.size := by omega
    have BN := Lib.hid (HB.out.alloc zb (.cells #[.string xs, .string xf, .int .i64 x4, .int .i64 x5] 44))
    by_cases h1 : xs.size ≤ 4000
    case neg =>
      have X2 := Lib.hid (XF.out (by simp [fmT, h1]))
      have e1 : decide ((xs.size : Int) > 4000) = true := decide_eq_true (by omega)
      clear XT XF h1 hT
      go_wp2_with fail
      go_ret2
      exact ⟨.inr ⟨X2.out, rfl⟩, BN.out⟩
    by_cases h2 : xf.size ≤ 4000
    case neg =>
      have X2 := Lib.hid (XF.out (by simp [fmT, h1, h2]))
      have e1 : decide ((xs.size : Int) > 4000) = false := decide_eq_false (by omega)
      have e2 : decide ((xf.size : Int) > 4000) = true := decide_eq_true (by omega)
      clear XT XF h1 h2 hT
      go_wp2_with fail
      go_ret2
      exact ⟨.inr ⟨X2.out, rfl⟩, BN.out⟩
    have X2 := XT.out (by simp [fmT, h1, h2])
    have e1 : decide ((xs.size : Int) > 4000) = false := decide_eq_false (by omega)
    have e2 : decide ((xf.size : Int) > 4000) = false := decide_eq_false (by omega)
    have X3 := Lib.hid X2
    have ha := heap_alloc_new wa (.cells #[.string xs, .string xf, .int .i64 x4, .int .i64 x5] 44)
    obtain ⟨W, hW⟩ : ∃ W, W = wa.alloc (.cells #[.string xs, .string xf, .int .i64 x4, .int .i64 x5] 44) := ⟨_, rfl⟩
    rw [← hW] at ha BN
    have hWs : wa.heap.size < W.heap.size := by rw [hW]; simp
    have bA : Below wa.heap.size wa W := by rw [hW]; exact (Below.refl wa.heap.size wa).alloc (Nat.le_refl _) _
    have CB := Lib.hid (show ∀ y, Below W.heap.size W y → y.cell? ⟨wa.heap.size, 0, none⟩ = some (.string xs) ∧ y.cell? ⟨wa.heap.size, 1, none⟩ = some (.string xf) ∧ y.cell? ⟨wa.heap.size, 2, none⟩ = some (.int .i64 x4) ∧ y.cell? ⟨wa.heap.size, 3, none⟩ = some (.int .i64 x5) from fun y hy => by
      have hb := (hy.block wa.heap.size hWs).trans ha
      exact ⟨cell_at hb 0, cell_at hb 1, cell_at hb 2, cell_at hb 3⟩)
    have HV := Lib.hid (show Hv W W.drew [(.slice oa ol oc, encL (L.take k))] from ⟨(Below.refl _ _).drew, fun x hx => by
      obtain rfl := List.mem_singleton.1 hx
      exact (pe_own hol HO.out).below bA.drew⟩)
    have EE := Lib.hid (show encL (L.take k) ++ (two xs.size ++ (nums xs ++ (two xf.size ++ (nums xf ++ (eight (ut x4) ++ eight (ut x5)))))) = encL (L.take (k + 1)) from by rw [ET.out]; simp only [enc, txt, List.append_assoc])
    have LL : Hid ((encL (L.take k) ++ (two xs.size ++ (nums xs ++ (two xf.size ++ (nums xf ++ (eight (ut x4) ++ eight (ut x5))))))).length ≤ 70368744177664) := Lib.hid (by
      simp only [List.length_append, nums_len, two, eight, List.length_cons, List.length_nil]; omega)
    have END := Lib.hid (show ∀ (w' : World) r, w'.ownsRow W.heap.size 5 1 r (encL (L.take k) ++ (two xs.size ++ (nums xs ++ (two xf.size ++ (nums xf ++ (eight (ut x4) ++ eight (ut x5))))))).length (u8s (encL (L.take k) ++ (two xs.size ++ (nums xs ++ (two xf.size ++ (nums xf ++ (eight (ut x4) ++ eight (ut x5)))))))) → Below W.heap.size W w' → Hid (w'.ownsRow w.heap.size 5 1 r (encL (L.take (k + 1))).length (u8s (encL (L.take (k + 1))))) ∧ Hid (Below w.heap.size w w') from fun w' r ho hb => by
      rw [EE.out] at ho
      exact ⟨Lib.hid (Go.Joins.ownsRow_le ho BN.out.size), Lib.hid (BN.out.trans (hb.mono BN.out.size))⟩)
    have T23 := Lib.hid two23f
    obtain ⟨ff, cc, hcv, hcp⟩ := conv_fun
    have CV := Lib.hid (fun S y l (h : Hv W y l) => h.add (hcp S y).2 (hcp S y).1)
    clear hcp
    have E24 := Lib.hid eight24f
    have uw4 := ut_wrap x4
    have uw5 := ut_wrap x5
    clear XT XF h1 h2 hT ET bA X2 HO hlen hol
    go_upto_region 8 with (fail)
    rw [← hW]
    have HWW := Lib.hid hW
    have kY := CB.out W.drew HV.out.1
    have HK := Lib.hid (And.intro hkn hn)
    clear hW x0 x1 x2 x3 ha e1 e2 hb hbz zb hnc hkn hk hn hWs
    go_region_held_law (fun y : World => y.cell? ⟨wa.heap.size, 0, none⟩ = some (.string xs) ∧ y.cell? ⟨wa.heap.size, 1, none⟩ = some (.string xf) ∧ y.cell? ⟨wa.heap.size, 2, none⟩ = some (.int .i64 x4) ∧ y.cell? ⟨wa.heap.size, 3, none⟩ = some (.int .i64 x5))
      (first | exact kY | exact CB.out _ HV.out.1 | exact CB.out _ (CV.out _ _ _ HV.out).1 | exact CB.out _ (CV.out _ _ _ (CV.out _ _ _ HV.out)).1 | exact CB.out _ (HV.out.1.alloc HV.out.1.size _) | exact CB.out _ ((CV.out _ _ _ HV.out).1.alloc (CV.out _ _ _ HV.out).1.size _) | exact CB.out _ ((CV.out _ _ _ (CV.out _ _ _ HV.out)).1.alloc (CV.out _ _ _ (CV.out _ _ _ HV.out)).1.size _))
      (first
        | (refine step_call rfl 23 _ _ (by exact rfl) _ rfl (ent23 _ _) ?_; refine (T23.out _ _).mono ?_; rintro e w' ⟨g, c, rfl, hp, hbw⟩; refine ⟨_, rfl, ?_⟩; (first | (have HV := Lib.hid (HV.out.add hbw hp)) | (have HV := Lib.hid ((CV.out _ _ _ HV.out).add hbw hp)) | (have HV := Lib.hid ((CV.out _ _ _ (CV.out _ _ _ HV.out)).add hbw hp))); have kZ := CB.out w' HV.out.1; clear hp hbw kY; have kY := kZ; clear kZ)
        | (refine step_call rfl 24 _ _ (by exact rfl) _ rfl (ent24 _ _) ?_; refine (E24.out _ _).mono ?_; rintro e w' ⟨g, c, rfl, hp, hbw⟩; refine ⟨_, rfl, ?_⟩; (first | (have HV := Lib.hid (HV.out.add hbw hp)) | (have HV := Lib.hid ((CV.out _ _ _ HV.out).add hbw hp)) | (have HV := Lib.hid ((CV.out _ _ _ (CV.out _ _ _ HV.out)).add hbw hp))); have kZ := CB.out w' HV.out.1; clear hp hbw kY; have kY := kZ; clear kZ)
        | (refine step_call rfl 22 _ _ (by exact rfl) _ rfl (ent22 _ _) ?_; refine (join7 W _ _ _ _ _ _ _ _ _ _ _ _ _ _ _ _ (by first | with_reducible exact HV.out | with_reducible exact CV.out _ _ _ HV.out | with_reducible exact CV.out _ _ _ (CV.out _ _ _ HV.out)) (by repeat (first | exact List.mem_cons_self | apply List.mem_cons_of_mem)) (by repeat (first | exact List.mem_cons_self | apply List.mem_cons_of_mem)) (by repeat (first | exact List.mem_cons_self | apply List.mem_cons_of_mem)) (by repeat (first | exact List.mem_cons_self | apply List.mem_cons_of_mem)) (by repeat (first | exact List.mem_cons_self | apply List.mem_cons_of_mem)) (by repeat (first | exact List.mem_cons_self | apply List.mem_cons_of_mem)) (by repeat (first | exact List.mem_cons_self | apply List.mem_cons_of_mem)) LL.out).mono ?_; rintro e w' ⟨r, rfl, ho, hbw⟩; refine ⟨_, rfl, ?_⟩; have RE := Lib.hid (END.out _ _ ho hbw); have kZ := CB.out w' hbw; clear ho hbw kY; have kY := kZ; clear kZ))
    all_goals
      obtain ⟨hkn, hn⟩ := HK.out
      go_wp2_with fail
      go_roundw
      case rel => exact ⟨k + 1, by omega, by go_num, RE.out.1, X3, RE.out.2⟩
      case measure => simp [intOf]; omega
end Iu
end Go.Proofs.Ytmlbmiegfeadjaa
