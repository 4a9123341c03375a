/- pointsOf: the points of parts of one name. -/
import Derived.Test.YthaadpijfkmdiaaNl
import Derived.Test.YthaadpijfkmdiaaNht
namespace Go.Proofs.Ythaadpijfkmdiaa
open Go.RowKit
namespace Nn
open Jb Ca Ga Nm Na Nj Nk

theorem infoS : (Try.prog.info? 40).map (fun i => (i.zero, i.size, i.bytes)) = some (some (.slice none 0 0), 1, 24) := by kernel_rfl
/-- The rows of the parts' slices. -/
def rows (pr : Value → List V4) (L : List V4) : List (List V4) := L.map fun x => pr x.2.2.1
theorem rows_take (pr : Value → List V4) {L : List V4} {k : Nat} (hk : k < L.length) : rows pr (L.take (k + 1)) = rows pr (L.take k) ++ [pr (L.getD k d4).2.2.1] := by
  unfold rows
  rw [List.take_add_one, List.getElem?_eq_getElem hk, List.getD_eq_getElem?_getD, List.getElem?_eq_getElem hk, List.map_append]
  rfl
set_option maxRecDepth 100000
set_option maxHeartbeats 8000000
theorem points16 (w : World) (v : Value) (L : List V4) (pr : Value → List V4) (h : Sl w v L) (hD : ∀ x ∈ L, Dp x) (hP : ∀ x ∈ L, Sl w x.2.2.1 (pr x.2.2.1) ∧ ∀ z ∈ pr x.2.2.1, Dt z ∧ One z) (hn : L.length ≤ 1000000000) (ht : (rows pr L).flatten.length ≤ 1000000000) :
    Calls Try.prog 16 #[v] w fun e w' => ∃ r R, e = .returned r ∧ w'.ownsRow w.heap.size 65 4 r R.length (c4s R) ∧ Sorted kt ltt R ∧ (∀ k, lk kt R k = lk kt (rows pr L).flatten k) ∧ (∀ z ∈ R, z ∈ (rows pr L).flatten) ∧ R.length ≤ (rows pr L).flatten.length ∧ Below w.heap.size w w' := by
  obtain ⟨i0, hi, hz0, hz1, hz2⟩ := info_parts infoS
  obtain ⟨a, c, rfl, hg⟩ := h.get
  obtain ⟨m, hM⟩ : ∃ m, m = L.length := ⟨_, rfl⟩
  have HM := Lib.hid hM
  rw [← hM] at hg hn ⊢
  have HG := Lib.hid hg
  have HD := Lib.hid hD
  have HP := Lib.hid hP
  have HT := Lib.hid ht
  have RI := Lib.hid (fun (W : World) (v : Value) LL h1 h2 h3 h4 => Nht.rising24 kt ltt Dt ord_t lin_t W v LL h1 h2 h3 h4)
  clear h hg hD hP ht hM
  go_enter Try.func16, Try.ntmps16
  go_wp2_with fail
  go_loopw [3, 8, 5] (fun o i _ wr => ∃ (k : Nat) (vals : List Value), k ≤ m ∧ i = .int .i64 (k : Nat) ∧ Hid (wr.ownsRow w.heap.size 40 1 o vals.length vals) ∧ Hid (Vs w vals (rows pr (L.take k))) ∧ Hid (Below w.heap.size w wr)) (fun _ i _ _ => m - (intOf i).toNat)
  case atStart => exact ⟨0, [], Nat.zero_le _, rfl, Lib.hid (World.ownsRow_nil _ _ _ _), Lib.hid (vs_nil _), Lib.hid (Below.refl _ _)⟩
  case round =>
    obtain ⟨k, vals, hk, rfl, HO, HV, HB⟩ := hrel
    obtain ⟨wa, rfl⟩ : ∃ wa, wa = wr := ⟨_, rfl⟩
    obtain ⟨oa, oc, he⟩ := La.own_forms HO.out
    subst he
    by_cases hkm : k < m
    case neg =>
      obtain rfl : k = m := by omega
      have et : L.take k = L := by rw [List.take_of_length_le (by have := HM.out; omega)]
      rw [et] at HV
      have A6 := Lib.hid (RI.out wa (.slice oa vals.length oc) (rows pr L) (rr_own HO.out (HV.out.below HB.out (Nat.le_refl _))) (fun z hz => by
        obtain ⟨l, hl, hzl⟩ := List.mem_flatten.1 hz
        obtain ⟨x, hx, rfl⟩ := List.mem_map.1 hl
        exact (HP.out x hx).2 z hzl) (by unfold rows; rw [List.length_map, ← HM.out]; exact hn) HT.out)
      clear HO HV
      go_wp2_with fail
      refine A6.out.mono ?_
      rintro e w6 ⟨r, R, rfl, o6, p1, p2, p3, p4, b6⟩
      have O6 := Lib.hid (Nct.own_base o6 HB.out.size)
      have P6 := Lib.hid (And.intro p1 (And.intro p2 (And.intro p3 p4)))
      have B6 := Lib.hid (HB.out.trans (b6.mono HB.out.size))
      clear o6 p1 p2 p3 p4 b6
      go_wp2_with fail
      go_ret
      exact ⟨r, R, rfl, O6.out, P6.out.1, P6.out.2.1, P6.out.2.2.1, P6.out.2.2.2, B6.out⟩
    obtain ⟨b, off, rfl, hmc, hb, hT⟩ := HG.out k hkm
    have hk9 : k < L.length := by have := HM.out; omega
    have hx : L.getD k d4 ∈ L := by rw [List.getD_eq_getElem?_getD, List.getElem?_eq_getElem hk9]; exact List.getElem_mem _
    have hT := hT wa HB.out
    have RT := Lib.hid (rows_take pr hk9)
    have SX := Lib.hid (HP.out _ hx).1
    obtain ⟨s, f, u, l, e1, ua, un, uc, rfl⟩ := HD.out _ hx
    rw [e1] at hT RT SX
    obtain ⟨x0, x1, x2, x3⟩ := hT
    simp only at x0 x1 x2 x3 RT SX
    have hbw : b < wa.heap.size := Nat.lt_of_lt_of_le hb HB.out.size
    have hvl : vals.length = k := by rw [HV.out.1]; unfold rows; rw [List.length_map, List.length_take]; omega
    have zb := HB.out.size
    have BA := Lib.hid ((HB.out.alloc HB.out.size (.cells #[.string s, .string f, .slice ua un uc, .int .i64 l] 44)).alloc (by simp; omega) (.cells #[.slice ua un uc] 40))
    have OW := Lib.hid ((HO.out.alloc (.cells #[.string s, .string f, .slice ua un uc, .int .i64 l] 44)).alloc (.cells #[.slice ua un uc] 40))
    have hh := heap_alloc_new (wa.alloc (.cells #[.string s, .string f, .slice ua un uc, .int .i64 l] 44)) (.cells #[.slice ua un uc] 40)
    simp only [World.size_alloc] at hh
    have NEWC : ∀ i u, [Value.slice ua un uc][i]? = some u → ((wa.alloc (.cells #[.string s, .string f, .slice ua un uc, .int .i64 l] 44)).alloc (.cells #[.slice ua un uc] 40)).cell? ((⟨wa.heap.size + 1, 0, none⟩ : Addr).add i) = some u := fun i u hj => by
      match i, hj with
      | 0, hj => cases hj; exact La.cell_at hh 0
    obtain ⟨q, hq⟩ : ∃ q, q = vals.length := ⟨_, rfl⟩
    rw [← hq] at OW hvl ⊢
    have HQ := Lib.hid hq
    have hq9 : q ≤ 1000000000 := by omega
    clear hx e1 hh hq hvl
    go_wp2_with (at_builtin; refine wpList_append_own _ rfl (.tmp 12) (.tmp 16) 59 rfl w.heap.size 40 i0 _ 1 24 Try.underlying59 hi hz0 hz1 hz2 rfl (by decide) (.slice oa q oc) q vals (by simp [Act.eval]) OW.out ⟨wa.heap.size + 1, 0, none⟩ 1 1 [.slice ua un uc] (by simp [Act.eval]) rfl NEWC (by intro u hu; simp at hu; rw [hu]; rfl) (by unfold maxLen; omega) (by omega) (by simp; omega) ?_)
    intro v6 w6 o6 g6 _
    have B6 := Lib.hid (BA.out.grown g6 (by simp; omega) (fun i ej => (La.own_lt OW.out ej).1))
    have O6 := Lib.hid (show w6.ownsRow w.heap.size 40 1 v6 (vals ++ [Value.slice ua un uc]).length (vals ++ [Value.slice ua un uc]) by rw [List.length_append, ← HQ.out]; exact o6)
    clear o6 g6 NEWC
    go_wp2_with fail
    go_roundw
    case rel => exact ⟨k + 1, _, by omega, by go_num, O6, Lib.hid (by rw [RT.out]; exact HV.out.snoc SX.out), B6⟩
    case measure => simp [intOf]; omega
end Nn
end Go.Proofs.Ythaadpijfkmdiaa
