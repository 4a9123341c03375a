/- The law DiskFull: its walk. -/
import Derived.Test.YthejolhpoakheaaJy
namespace Go.Proofs.Ythejolhpoakheaa
open Go.RowKit Go.Maps Go.ChangeMaps Go.MapKept
namespace Jz
open Jb Jm Jd Jw Jx Jn Je Jf Jg Jh Jk Jc Jl Jo Jq Jt Ju Jy

theorem zeros_u8s (n : Nat) : (madeCells (Value.int .u8 0).cells (n * 1)).toList = u8s (List.replicate n 0) := by
  rw [show (Value.int .u8 0).cells = #[Value.int .u8 0] from rfl, toList_madeCells_one]
  simp [u8s]
/-- make, in the walk. -/
theorem make_c (w : World) (y : Nat) (hy : y < 256) : ∃ w', (Instr.makeSlice 29 (.int .i64 (y : Nat)) (.int .i64 (y : Nat))).run Try.prog w = .ok (.slice (some ⟨w.heap.size, 0, none⟩) y y) w' ∧ w'.ownsRow w.heap.size 5 1 (.slice (some ⟨w.heap.size, 0, none⟩) y y) y (u8s (List.replicate y 0)) ∧ Below w.heap.size w w' := by
  obtain ⟨i0, hi, hz0, hz1, hz2⟩ := info_parts info5
  obtain ⟨w', h1, h2, h3⟩ := run_make_full (P := Try.prog) w w.heap.size 29 5 i0 (.int .u8 0) 1 Try.underlying29 hi hz0 hz1 .i64 .i64 y (by rw [hz2]; omega) (by unfold maxLen; omega) (Nat.le_refl _)
  rw [zeros_u8s] at h2
  exact ⟨w', h1, h2, ⟨h3.os, h3.tape, h3.output, h3.size, fun k hk => h3.block k hk (by simp)⟩⟩
set_option maxRecDepth 100000 in
set_option maxHeartbeats 2000000 in
theorem full5 (w : World) (room : Nat) (hroom : room < 65536) (v : Value) (bs : List Nat) (hv : Src w (fun k => k < w.heap.size) v bs) (hby : ∀ x ∈ bs, x < 256) (hl : bs.length ≤ 140737488351232) :
    Calls Try.prog 5 #[.int .u16 (room : Nat), v] w fun e w' => e = .returned (.bool true) ∧ Below w.heap.size w w' := by
  obtain ⟨ad, c, hvf⟩ := hv.forms
  have AW := Lib.hid (awake8 w)
  have NEW : Hid (∀ w1, Below w.heap.size w w1 → Calls Try.prog 9 #[.int .i64 (room : Nat)] w1 fun e w' => e = .returned (.pointer (some ⟨w1.heap.size, 0, none⟩)) ∧ (∃ S, DV w' S w1.heap.size 0 (VF room none) ∧ ∀ k, S k → w.heap.size ≤ k) ∧ Below w.heap.size w w') := Lib.hid fun w1 b1 => by
    have hb := b1.size
    have := New_c w1 (room : Nat) (by omega)
    rw [Int.toNat_natCast] at this
    refine this.mono ?_
    rintro e w' ⟨rfl, h1, h2⟩
    refine ⟨rfl, ⟨(fun k => w1.heap.size ≤ k ∧ k < w'.heap.size), ?_, fun k hk => by omega⟩, b1.trans (h2.mono hb)⟩
    have e0 : VF room none = V0 room := vw_ext (fun x => by simp [VF, V0]) rfl rfl rfl rfl rfl
    rw [e0]
    exact h1
  have HS : Hid (∀ wr, Below w.heap.size w wr → ∀ k, k < bs.length → ∃ b off, ad = some ⟨b, off, none⟩ ∧ wr.cell? ⟨b, off + k, none⟩ = some (.int .u8 (g bs k : Nat)) ∧ g bs k < 256) := Lib.hid fun wr b k hk => by
    have hs := hv.below b (fun k hk => hk)
    rw [hvf] at hs
    rcases hs with ⟨rfl, _⟩ | ⟨_, b', off, c', e, _, _, hc⟩
    · simp at hk
    · cases e; exact ⟨b', off, rfl, hc k hk, g_lt hby k⟩
  have HC : bs.length ≤ c := by
    rcases hv with ⟨rfl, _⟩ | ⟨_, b', off, c', e, h, _⟩
    · simp
    · rw [hvf] at e; cases e; exact h
  have APP : Hid (∀ wr wx S gd N o y, Below w.heap.size w wr → DV wr S gd N (VF room o) → (∀ k, S k → w.heap.size ≤ k) → N ≤ 140737488353000 → (o.getD []).length ≤ room → y < 256 → wx.ownsRow wr.heap.size 5 1 (.slice (some ⟨wr.heap.size, 0, none⟩) y y) y (u8s (List.replicate y 0)) → Below wr.heap.size wr wx →
      Calls Try.prog 13 #[.pointer (some ⟨gd, 0, none⟩), .string { data := #[97] }, .slice (some ⟨wr.heap.size, 0, none⟩) y y] wx fun e w' => e = .returned (.tuple #[.int .i64 (min y (room - (o.getD []).length) : Nat), .int .i64 (if room - (o.getD []).length < y then 7 else 0 : Nat)]) ∧
        ∃ S' o', DV w' S' gd (N + 1) (VF room (some o')) ∧ o'.length = (o.getD []).length + min y (room - (o.getD []).length) ∧ (∀ k, S' k → w.heap.size ≤ k) ∧ Below w.heap.size w w') := Lib.hid fun wr wx S gd N o y b h hS hN ho hy ow bx => by
    have h0 := b.size
    have h1 := bx.size
    have hl0 : (List.replicate y 0).length = y := by simp
    have ow' : wx.ownsRow wr.heap.size 5 1 (.slice (some ⟨wr.heap.size, 0, none⟩) y y) (List.replicate y 0).length (u8s (List.replicate y 0)) := by rw [hl0]; exact ow
    have := Append_c wx S gd N (VF room o) (h.below bx (Nat.le_refl _)) sa (by decide) _ (fun k hk e => by have := h.lt e; omega) _ (List.replicate y 0) (src_own ow') (fun c e => by cases e) (fun x hx => by rw [List.eq_of_mem_replicate hx]; decide) hN
      (by rw [VF_old, hl0]; show (o.getD []).length + y ≤ _; omega) (by rw [hl0]; show (o.getD []).length + y ≤ _; omega)
    rw [VF_n, VF_e, VF_app, hl0] at this
    refine this.mono ?_
    rintro e w' ⟨rfl, k1, k2⟩
    refine ⟨rfl, _, _, k1, ?_, fun k hk => ?_, ?_⟩
    · rw [List.length_append, List.length_take, hl0]; omega
    · rcases hk with hk | hk
      · exact hS k hk
      · omega
    · exact (b.trans (bx.mono h0)).trans (k2.below (fun k hk _ => hS k hk) (by omega))
  have CUT : Hid (∀ wr S gd N o n, Below w.heap.size w wr → DV wr S gd N (VF room (some o)) → (∀ k, S k → w.heap.size ≤ k) → o.length ≤ room → n ≤ o.length →
      Calls Try.prog 18 #[.pointer (some ⟨gd, 0, none⟩), .string { data := #[97] }, .int .i64 (n : Nat)] wr fun e w' => e = .returned (.int .i64 0) ∧
        ∃ S' o', DV w' S' gd N (VF room (some o')) ∧ o'.length = n ∧ (∀ k, S' k → w.heap.size ≤ k) ∧ Below w.heap.size w w') := Lib.hid fun wr S gd N o n b h hS ho hn => by
    have h0 := b.size
    have := Cut_c wr S gd N (VF room (some o)) h sa n (by decide) o 0 rfl (by simp [VF]) hn rfl (Nat.le_refl _) (by omega)
    rw [VF_cut room o n hn] at this
    refine this.mono ?_
    rintro e w' ⟨rfl, k1, k2⟩
    refine ⟨rfl, _, _, k1, by rw [List.length_take]; omega, fun k hk => ?_, ?_⟩
    · rcases hk with hk | hk
      · exact hS k hk
      · omega
    · exact b.trans (k2.below (fun k hk _ => hS k hk) h0)
  have US : Hid (∀ wr S gd N o, DV wr S gd N (VF room o) → Calls Try.prog 19 #[.pointer (some ⟨gd, 0, none⟩)] wr fun e w' => e = .returned (.int .i64 ((o.getD []).length : Nat)) ∧ w' = wr) := Lib.hid fun wr S gd N o h => Used_c wr S gd N _ h
  rw [hvf]
  obtain ⟨n, hn⟩ : ∃ n, n = bs.length := ⟨_, rfl⟩
  rw [← hn] at HS HC hl ⊢
  have HCC := Lib.hid HC
  clear hv hvf hn HC hby
  go_enter Try.func5, Try.ntmps5
  go_wp2_with (go_at_call 8; refine (AW.out).mono ?_; rintro e w1 ⟨rfl, b1⟩; have B1 := Lib.hid b1; clear b1)
  go_at_call 9
  refine (NEW.out w1 B1.out).mono ?_
  rintro e w2 ⟨rfl, ⟨S0, k2, hS0⟩, b2⟩
  have K2 := Lib.hid k2
  have B2 := Lib.hid b2
  have HS0 := Lib.hid hS0
  obtain ⟨gd, hgd⟩ : ∃ gd, gd = w1.heap.size := ⟨_, rfl⟩
  rw [← hgd] at K2 ⊢
  clear hgd k2 b2 hS0 B1 NEW AW
  go_wp2_with fail
  go_loopw [6, 7, 8, 9, 10, 18] (fun us _ _ _ _ i wr => ∃ k S o, k ≤ n ∧ i = .int .i64 (k : Nat) ∧ us = .int .i64 ((o.getD []).length : Nat) ∧ (o.getD []).length ≤ room ∧ DV wr S gd k (VF room o) ∧ (∀ k, S k → w.heap.size ≤ k) ∧ Below w.heap.size w wr) (fun _ _ _ _ _ i _ => n - (intOf i).toNat)
  case atStart => exact ⟨0, S0, none, Nat.zero_le _, rfl, rfl, Nat.zero_le _, K2.out, HS0.out, B2.out⟩
  case round =>
    obtain ⟨k, S, o, hk, rfl, rfl, ho, hdv, hS, hb⟩ := hrel
    have HDV := Lib.hid hdv
    have HSS := Lib.hid hS
    have HB := Lib.hid hb
    obtain ⟨U, hU⟩ : ∃ U, U = (o.getD []).length := ⟨_, rfl⟩
    rw [← hU] at ho ⊢
    have HU := Lib.hid hU
    clear hdv hS hb hU
    by_cases hkn : k < n
    · obtain ⟨b, off, had, cell0, hy⟩ := HS.out wr HB.out k hkn
      obtain ⟨y, hye⟩ : ∃ y, y = g bs k := ⟨_, rfl⟩
      rw [← hye] at cell0 hy
      obtain ⟨wx, hmk, ox, bx⟩ := make_c wr y hy
      have cell1 : wx.cell? ⟨b, off + k, none⟩ = some (.int .u8 (y : Nat)) := (World.cell?_of_block (bx.block b (cell_lt cell0))).trans cell0
      have AP := APP.out wr wx S gd k o y HB.out HDV.out HSS.out (by omega) (by rw [← HU.out]; exact ho) hy ox bx
      rw [← HU.out] at AP
      have APH := Lib.hid AP
      have HAD := Lib.hid had
      rw [HAD.out]
      have HY := Lib.hid hye
      clear ox bx AP hye had
      obtain ⟨f, hf⟩ : ∃ f, f = min y (room - U) := ⟨_, rfl⟩
      rw [← hf] at APH
      have q1 : IntKind.i64.wrap ((room : Int) - (U : Nat)) = ((room - U : Nat) : Int) := by rw [IntKind.wrap_i64]; omega
      have q2 : IntKind.i64.wrap ((U : Int) + (f : Nat)) = ((U + f : Nat) : Int) := by rw [IntKind.wrap_i64]; omega
      have hmn : ∀ (ty : TypeId) (z : World), (Builtin.min_ #[3, 3] ty #[.int .i64 (y : Nat), .int .i64 (room - U : Nat)]).run Try.prog z = .ok (.int .i64 (f : Nat)) z := by
        intro ty z
        rw [run_min_int2]
        have e : (if ((room - U : Nat) : Int) < (y : Int) then ((room - U : Nat) : Int) else (y : Int)) = (f : Nat) := by split <;> omega
        rw [e]
      by_cases hq : room - U < y
      · have hfy : ¬ f = y := by omega
        rw [if_pos hq] at APH
        have HF := Lib.hid hf
        clear hf hq
        go_wp2_with fail
        go_at_call 13
        refine APH.out.mono ?_
        rintro e w3 ⟨rfl, S', o', d1, d2, d3, d4⟩
        have D1 := Lib.hid d1
        have D2 : Hid (o'.length = U + f) := Lib.hid d2
        have D3 := Lib.hid d3
        have D4 := Lib.hid d4
        have cell3 : w3.cell? ⟨b, off + k, none⟩ = some (.int .u8 (y : Nat)) := by
          obtain ⟨b', off', h1, h2, _⟩ := HS.out w3 d4 k hkn
          rw [HAD.out] at h1
          cases h1
          rw [HY.out]
          exact h2
        clear d1 d2 d3 d4
        have HLE : Hid (U + f ≤ room) := Lib.hid (by have := HF.out; omega)
        go_wp2_with fail
        · have e9 : wrap64 (((U : Int) + (f : Int)).tdiv 2) = (((U + f) / 2 : Nat) : Int) := by
            rw [Int.tdiv_eq_ediv_of_nonneg (by omega)]
            have := HLE.out
            unfold wrap64
            omega
          rw [e9]
          clear e9
          go_at_call 18
          refine (CUT.out w3 S' gd (k + 1) o' ((U + f) / 2) D4.out D1.out D3.out (by rw [D2.out]; exact HLE.out) (by rw [D2.out]; omega)).mono ?_
          rintro e w4 ⟨rfl, S9, o9, c1, c2, c3, c4⟩
          have C1 := Lib.hid c1
          have C2 := Lib.hid c2
          have C3 := Lib.hid c3
          have C4 := Lib.hid c4
          clear c1 c2 c3 c4
          go_wp2_with fail
          go_roundw
          case rel => exact ⟨k + 1, S9, some o9, by omega, by go_num, by refine congrArg (Value.int IntKind.i64) ?_; show (((U + f) / 2 : Nat) : Int) = ((o9.length : Nat) : Int); rw [C2.out], by show o9.length ≤ room; rw [C2.out]; have := HLE.out; omega, C1.out, C3.out, C4.out⟩
          case measure => simp [intOf]; omega
        · go_roundw
          case rel => exact ⟨k + 1, S', some o', by omega, by go_num, by refine congrArg (Value.int IntKind.i64) ?_; show (U : Int) + (f : Int) = ((o'.length : Nat) : Int); rw [D2.out, Int.natCast_add], by show o'.length ≤ room; rw [D2.out]; exact HLE.out, D1.out, D3.out, D4.out⟩
          case measure => simp [intOf]; omega
      · have hfy : y = f := by omega
        rw [if_neg hq] at APH
        have HF := Lib.hid hf
        clear hf hq
        subst hfy
        go_wp2_with fail
        go_at_call 13
        refine APH.out.mono ?_
        rintro e w3 ⟨rfl, S', o', d1, d2, d3, d4⟩
        have D1 := Lib.hid d1
        have D2 : Hid (o'.length = U + y) := Lib.hid d2
        have D3 := Lib.hid d3
        have D4 := Lib.hid d4
        have cell3 : w3.cell? ⟨b, off + k, none⟩ = some (.int .u8 (y : Nat)) := by
          obtain ⟨b', off', h1, h2, _⟩ := HS.out w3 d4 k hkn
          rw [HAD.out] at h1
          cases h1
          rw [HY.out]
          exact h2
        clear d1 d2 d3 d4
        have HLE : Hid (U + y ≤ room) := Lib.hid (by have := HF.out; omega)
        go_wp2_with fail
        · have e9 : ((U : Int) + (y : Int)) / 2 = (((U + y) / 2 : Nat) : Int) := by omega
          rw [e9]
          clear e9
          go_at_call 18
          refine (CUT.out w3 S' gd (k + 1) o' ((U + y) / 2) D4.out D1.out D3.out (by rw [D2.out]; exact HLE.out) (by rw [D2.out]; omega)).mono ?_
          rintro e w4 ⟨rfl, S9, o9, c1, c2, c3, c4⟩
          have C1 := Lib.hid c1
          have C2 := Lib.hid c2
          have C3 := Lib.hid c3
          have C4 := Lib.hid c4
          clear c1 c2 c3 c4
          go_wp2_with fail
          go_roundw
          case rel => exact ⟨k + 1, S9, some o9, by omega, by go_num, by refine congrArg (Value.int IntKind.i64) ?_; show (((U + y) / 2 : Nat) : Int) = ((o9.length : Nat) : Int); rw [C2.out], by show o9.length ≤ room; rw [C2.out]; have := HLE.out; omega, C1.out, C3.out, C4.out⟩
          case measure => simp [intOf]; omega
        · go_roundw
          case rel => exact ⟨k + 1, S', some o', by omega, by go_num, by refine congrArg (Value.int IntKind.i64) ?_; show (U : Int) + (y : Int) = ((o'.length : Nat) : Int); rw [D2.out, Int.natCast_add], by show o'.length ≤ room; rw [D2.out]; exact HLE.out, D1.out, D3.out, D4.out⟩
          case measure => simp [intOf]; omega
    · have ek : n = k := by omega
      subst ek
      have U9 := Lib.hid (US.out wr S gd n o HDV.out)
      rw [← HU.out] at U9
      clear hkn
      go_wp2_with (go_at_call 19; refine U9.out.mono ?_; rintro e wr ⟨rfl, rfl⟩)
      go_ret
      exact ⟨rfl, HB.out⟩
end Jz
end Go.Proofs.Ythejolhpoakheaa
