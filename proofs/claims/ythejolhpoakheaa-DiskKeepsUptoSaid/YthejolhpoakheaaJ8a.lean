/- The law DiskKeeps: its walk. -/
import Derived.Test.YthejolhpoakheaaJ7
namespace Go.Proofs.Ythejolhpoakheaa
open Go.RowKit Go.Maps Go.ChangeMaps Go.MapKept
namespace J8
open Jb Jm Jd Jw Jx Jn Je Jf Jg Jh Jk Jc Jl Jo Jq J1 J2 J3 J4 J6 Jt J7

set_option maxRecDepth 100000 in
set_option maxHeartbeats 4000000 in
theorem keeps_good (w : World) (s : ByteArray) (hs : s.size ≤ 140737488351232) (v1 v2 v3 : Value) (X1 X2 X3 : List Nat) (h1 : Src w (fun k => k < w.heap.size) v1 X1) (h2 : Src w (fun k => k < w.heap.size) v2 X2) (h3 : Src w (fun k => k < w.heap.size) v3 X3)
    (hc1 : ∀ c, v1 = .slice none X1.length c → c = 0) (hc2 : ∀ c, v2 = .slice none X2.length c → c = 0) (hb1 : ∀ x ∈ X1, x < 256) (hb2 : ∀ x ∈ X2, x < 256) (hb3 : ∀ x ∈ X3, x < 256) (hl1 : X1.length ≤ 1048576) (hl2 : X2.length ≤ 1048576) (hn : isNm s = true) :
    Calls Try.prog 4 #[.string s, v1, v2, v3] w fun e w' => e = .returned (.bool true) ∧ Below w.heap.size w w' := by
  have AW := Lib.hid (awake8 w)
  have NMS := Lib.hid (fun y => name17 y s (by omega))
  obtain ⟨ad1, cc1, hv1⟩ := h1.forms
  obtain ⟨ad2, cc2, hv2⟩ := h2.forms
  obtain ⟨l1, e1⟩ : ∃ l, l = X1.length := ⟨_, rfl⟩
  obtain ⟨l2, e2⟩ : ∃ l, l = X2.length := ⟨_, rfl⟩
  have HE1 := Lib.hid e1
  have NF := Lib.hid (new_n w s (X1.length + X2.length) (by omega))
  have C1 : Hid (∀ y : World, Below w.heap.size w y → (convert 29 9 v1).run Try.prog y = .ok (.string (str X1)) y) := Lib.hid fun y b => conv_src (h1.below b (fun k hk => hk))
  have C2 : Hid (∀ y : World, Below w.heap.size w y → (convert 29 9 v2).run Try.prog y = .ok (.string (str X2)) y) := Lib.hid fun y b => conv_src (h2.below b (fun k hk => hk))
  have HAL : Hid ((X1 ++ X2).length = l1 + l2) := Lib.hid (by rw [e1, e2]; exact List.length_append)
  have HEX : Hid (∀ Z, Z ≤ (X1 ++ X2).length → (str X1 ++ str X2).extract 0 Z = str ((X1 ++ X2).take Z)) := Lib.hid fun Z hZ => by
    apply ByteArray.ext
    apply Array.toList_inj.1
    unfold str
    rw [strOfNums_data]
    simp [ByteArray.data_extract, ByteArray.data_append, strOfNums_data, List.map_take]
    rw [List.take_append, show (strOfNums (List.map (fun b : Nat => (b : Int)) X1)).size = X1.length from str_size X1]
    simp
  have hI : ((X1.length + X2.length : Nat) : Int) = (l1 : Int) + (l2 : Int) := by rw [e1, e2]; rfl
  rw [hI] at NF
  have hsz1 : (str X1).size = l1 := by rw [str_size, e1]
  have hsz2 : (str X2).size = l2 := by rw [str_size, e2]
  have hno : l1 + l2 ≤ 9223372036854775807 := by omega
  have KIT := Lib.hid (fun gd => kg w gd s v1 v2 v3 X1 X2 X3 hn h1 h2 h3 hc1 hc2 hb1 hb2 hb3 hl1 hl2)
  rw [hn] at NMS
  rw [hv1, ← e1] at KIT C1
  rw [hv2, ← e2] at KIT C2
  rw [hv1, hv2, ← e1, ← e2]
  rw [← e1] at hl1
  rw [← e2] at hl2
  obtain ⟨T1, hT1⟩ : ∃ T, T = str X1 := ⟨_, rfl⟩
  obtain ⟨T2, hT2⟩ : ∃ T, T = str X2 := ⟨_, rfl⟩
  rw [← hT1] at C1 hsz1 HEX
  rw [← hT2] at C2 hsz2 HEX
  clear h1 h2 h3 hc1 hc2 hb1 hb2 hb3 hn hv1 hv2 e1 e2 hT1 hT2 hs hI
  go_enter Try.func4, Try.ntmps4
  go_wp2_with (go_at_call 8; refine (AW.out).mono ?_; rintro e w1 ⟨rfl, b1⟩; have B1 := Lib.hid b1; clear b1)
  go_at_call 9
  refine (NF.out w1 B1.out).mono ?_
  rintro e w2 ⟨rfl, S2, d2, s2, b2⟩
  have KT := Lib.hid (KIT.out w1.heap.size)
  obtain ⟨gd, hgd⟩ : ∃ gd, gd = w1.heap.size := ⟨_, rfl⟩
  rw [← hgd] at KT d2 ⊢
  have D2 := Lib.hid d2
  have S22 := Lib.hid s2
  have B2 := Lib.hid b2
  clear hgd d2 s2 b2 KIT NF
  go_wp2_with fail
  go_at_call 13
  refine (KT.out.a1 w2 S2 B2.out D2.out S22.out).mono ?_
  rintro e w3 ⟨⟨m3, rfl⟩, S3, d3, s3, b3⟩
  have D3 := Lib.hid d3
  have S33 := Lib.hid s3
  have B3 := Lib.hid b3
  clear d3 s3 b3
  go_wp2_with fail
  go_at_call 14
  refine (KT.out.sy w3 S3 B3.out D3.out S33.out).mono ?_
  rintro e w4 ⟨rfl, S4, d4, s4, b4⟩
  have D4 := Lib.hid d4
  have S44 := Lib.hid s4
  have B4 := Lib.hid b4
  clear d4 s4 b4
  go_wp2_with fail
  go_at_call 13
  refine (KT.out.a2 _ S4 B4.out D4.out S44.out).mono ?_
  rintro e w5 ⟨⟨v5, rfl⟩, S5, d5, s5, b5⟩
  have D5 := Lib.hid d5
  have S55 := Lib.hid s5
  have B5 := Lib.hid b5
  clear d5 s5 b5
  go_wp2_with fail
  go_at_call 15
  refine (KT.out.rs w5 S5 B5.out D5.out S55.out).mono ?_
  rintro e w6 ⟨rfl, S6, Z, cz, z1, z2, d6, _, b6⟩
  have D6 := Lib.hid d6
  have B6 := Lib.hid b6
  have HZ2 := Lib.hid z2
  clear d6 b6
  go_wp2_with fail
  go_at_call 16
  refine (KT.out.rd w6 S6 Z cz D6.out HZ2.out).mono ?_
  rintro e w7 ⟨a7, c7, rfl, cv7, b7⟩
  have B7 := Lib.hid (B6.out.trans (b7.mono B6.out.size))
  have cv71 := cv7 1
  have hex := HEX.out Z HZ2.out
  obtain ⟨TZ, hTZ⟩ : ∃ T, T = str ((X1 ++ X2).take Z) := ⟨_, rfl⟩
  rw [← hTZ] at hex cv71
  clear hTZ
  have hc1 := C1.out w7 B7.out
  have hc2 := C2.out w7 B7.out
  rw [HAL.out] at z2
  rw [← HE1.out] at z1
  have z1i : (Z : Int) ≥ (l1 : Int) := by omega
  have z2i : (Z : Int) ≤ (l1 : Int) + (l2 : Int) := by omega
  have z1d : decide ((Z : Int) ≥ (l1 : Int)) = true := decide_eq_true z1i
  have z2d : decide ((Z : Int) ≤ (l1 : Int) + (l2 : Int)) = true := decide_eq_true z2i
  clear b7 cv7
  go_wp2_with (go_at_call 17; refine (NMS.out w7).mono ?_; rintro e w7 ⟨rfl, rfl⟩)
  go_upto_region 12 with (fail)
  have cvd : (convert 29 9 (.slice a7 Z c7)).run Try.prog w7.drew = .ok (.string TZ) w7.drew := cv71
  go_region_held (fun y : World => (convert 29 9 (.slice a7 Z c7)).run Try.prog y = .ok (.string TZ) y) (exact cvd) (fail)
  go_wp2_with fail
  go_ret
  exact ⟨rfl, B7.out.drew⟩
end J8
end Go.Proofs.Ythejolhpoakheaa
