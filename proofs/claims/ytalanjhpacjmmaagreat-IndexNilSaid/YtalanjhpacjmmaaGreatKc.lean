/- Books: what is told of them. -/
import Derived.Test.YtalanjhpacjmmaaGreatKb
import Derived.Test.YtalanjhpacjmmaaGreatShelf3
import Derived.Test.YtalanjhpacjmmaaGreatSe
namespace Go.Proofs.YtalanjhpacjmmaaGreat
set_option maxRecDepth 100000
open Go.RowKit Go.Maps Go.ChangeMaps Go.MapKept Go.Sort Go.Shelf
namespace Kc
open Jb Ka Kb
/-- The texts as cells. -/
def encs (ns : List (List UInt8)) : List Value := ns.map encStr
theorem sortsK (m : Nat) : AnyZ.SortsIn Tryz.prog Tryz.sorted85_ren Fence.wide m :=
  ⟨fun blk off cap ss W hH hblk hsz => callsIn_wide.2 (AnyM.slices_Sort_string Tryz.sort112 blk off cap ss W hH hblk hsz),
   fun p cap W => callsIn_wide.2 (AnyM.slices_Sort_string_none Tryz.sort112 p cap W)⟩
theorem has_G (w : World) (g N : Nat) (mo : Option Nat) (F : Fun) (h : Bk w g 0 mo N F) (s : ByteArray) (hs : s.size ≤ maxLen) :
    Calls Tryz.prog 69 #[.pointer (some ⟨g, 0, none⟩), .string s] w fun e w' => e = .returned (.bool (F s).isSome) ∧ w' = w := by
  have c0 := h.c0
  have hl := h.look_ok mt_G hs
  obtain ⟨V, hV⟩ : ∃ V, V = (F s).getD (.pointer none) := ⟨_, rfl⟩
  obtain ⟨B, hB⟩ : ∃ B, B = (F s).isSome := ⟨_, rfl⟩
  rw [← hV, ← hB] at hl
  rw [← hB]
  clear h hs hV hB
  go_enter Tryz.func69, Tryz.ntmps69
  go_wp2_with fail
  go_ret
  trivial
theorem get_G (w : World) (g N : Nat) (mo : Option Nat) (F : Fun) (h : Bk w g 0 mo N F) (s : ByteArray) (hs : s.size ≤ maxLen) :
    Calls Tryz.prog 70 #[.pointer (some ⟨g, 0, none⟩), .string s] w fun e w' => e = .returned ((F s).getD (.pointer none)) ∧ w' = w := by
  have c0 := h.c0
  have hl := h.look mt_G hs
  obtain ⟨V, hV⟩ : ∃ V, V = (F s).getD (.pointer none) := ⟨_, rfl⟩
  rw [← hV] at hl
  rw [← hV]
  clear h hs hV
  go_enter Tryz.func70, Tryz.ntmps70
  go_wp2_with fail
  go_ret
  trivial
theorem getn_G (w : World) (s : ByteArray) :
    Calls Tryz.prog 70 #[.pointer none, .string s] w fun e w' => e = .returned (.pointer none) ∧ Below w.heap.size w w' := by
  go_enter Tryz.func70, Tryz.ntmps70
  go_wp2_with fail
  go_ret
  first
    | exact ⟨rfl, Below.refl _ _⟩
    | exact ⟨rfl, (Below.refl _ w).alloc (Nat.le_refl _) _⟩
theorem mkeys_G (mb : Option Nat) (W : World) : CallsIn Fence.wide 5 Tryz.prog 86 #[.map mb] W fun e w' => e = .returned (.func (.func 113) #[] #[.pointer (some ⟨W.heap.size, 0, none⟩)]) ∧ w' = W.alloc (.cells #[.map mb] 57) :=
  AnyZ.keys_in Tryz.keys86 Fence.wide 5 trivial rfl mb W
set_option maxHeartbeats 1000000 in
theorem skeys_G (b nn : Nat) (D0 : DataW Value) (w : World) (hown : w.ownsMap Tryz.prog 9 R b nn D0) (hmax : Maps.size D0 ≤ maxLen) (hbytes : Maps.size D0 * 16 ≤ 140737488355328) :
    CallsIn Fence.wide 5 Tryz.prog 85 #[.func (.func 113) #[] #[.pointer (some ⟨w.heap.size, 0, none⟩)]] (w.alloc (.cells #[.map (some b)] 57)) fun e w' => ∃ (v : Value) (ss : List (List UInt8)), e = .returned v ∧ ss.Perm (strKeys D0) ∧
      w'.ownsRow (w.alloc (.cells #[.map (some b)] 57)).heap.size 9 1 v ss.length ((ss.mergeSort (fun x y => decide (x ≤ y))).map encStr) ∧ (v = .slice none 0 0 ↔ ss = []) ∧ Below (w.alloc (.cells #[.map (some b)] 57)).heap.size (w.alloc (.cells #[.map (some b)] 57)) w' := by
  have hbl := hown.lt
  have hseq : SeqGives Fence.wide 2 Tryz.prog 113 #[.pointer (some ⟨w.heap.size, 0, none⟩)] encStr (fun ss => ss.Perm (strKeys D0)) (Maps.size D0) (w.alloc (.cells #[.map (some b)] 57)) :=
    AnyZ.keys_gives (ρ := Tryz.keys86_ren) { Tryz.keys86 with } Fence.wide _ trivial rfl (by omega) w.heap.size b nn D0 _ (by simp) (by simp) (by
      obtain ⟨es, clock, hb, Ft, hs, hD⟩ := hown
      exact ⟨es, clock, (Below.heap_alloc _ _ b hbl).trans hb, Ft, hs, hD⟩)
  exact AnyZ.sorted_in Tryz.sorted85 Fence.wide 5 trivial trivial trivial trivial rfl (by omega) (sortsK _) (enters_of Tryz.func112 (by kernel_rfl) rfl) 113 #[.pointer (some ⟨w.heap.size, 0, none⟩)] trivial (enters_of Tryz.func113 (by kernel_rfl) rfl) _ _ hmax hbytes _ hseq
set_option maxHeartbeats 1000000 in
theorem skeysn_G (w : World) :
    CallsIn Fence.wide 5 Tryz.prog 85 #[.func (.func 113) #[] #[.pointer (some ⟨w.heap.size, 0, none⟩)]] (w.alloc (.cells #[.map none] 57)) fun e w' => ∃ (v : Value) (ss : List (List UInt8)), e = .returned v ∧ ss = [] ∧
      w'.ownsRow (w.alloc (.cells #[.map none] 57)).heap.size 9 1 v ss.length ((ss.mergeSort (fun x y => decide (x ≤ y))).map encStr) ∧ (v = .slice none 0 0 ↔ ss = []) ∧ Below (w.alloc (.cells #[.map none] 57)).heap.size (w.alloc (.cells #[.map none] 57)) w' := by
  have hseq : SeqGives Fence.wide 2 Tryz.prog 113 #[.pointer (some ⟨w.heap.size, 0, none⟩)] encStr (fun ss : List (List UInt8) => ss = []) 0 (w.alloc (.cells #[.map none] 57)) :=
    AnyZ.keys_gives_nil (ρ := Tryz.keys86_ren) { Tryz.keys86 with } Fence.wide _ trivial rfl w.heap.size _ (by simp) (by simp)
  exact AnyZ.sorted_in Tryz.sorted85 Fence.wide 5 trivial trivial trivial trivial rfl (by omega) (sortsK _) (enters_of Tryz.func112 (by kernel_rfl) rfl) 113 #[.pointer (some ⟨w.heap.size, 0, none⟩)] trivial (enters_of Tryz.func113 (by kernel_rfl) rfl) _ 0 (Nat.zero_le _) (by omega) _ hseq
theorem keys_G (w : World) (g N : Nat) (mo : Option Nat) (F : Fun) (h : Bk w g 0 mo N F) (hN : ∀ ns, Rw F ns → ns.length ≤ 8796093022208) :
    Calls Tryz.prog 47 #[.pointer (some ⟨g, 0, none⟩)] w fun e w' => ∃ ns v, Rw F ns ∧ e = .returned v ∧ w'.ownsRow w.heap.size 9 1 v ns.length (encs ns) ∧ Below w.heap.size w w' := by
  have c0 := h.c0
  cases mo with
  | none =>
    have RR := Lib.hid (Rw.emp (h.mn rfl))
    have HK := Lib.hid (callsIn_wide.1 (mkeys_G none w))
    have HS := Lib.hid (callsIn_wide.1 (skeysn_G w))
    clear h
    go_enter Tryz.func47, Tryz.ntmps47
    go_wp2_with (first | (go_at_call 86; refine (HK.out).mono ?_; rintro e w' ⟨rfl, rfl⟩) | (go_at_call 85; refine (HS.out).mono ?_; rintro e w' ⟨v, ss, rfl, rfl, hrow, hnil, hb⟩))
    go_ret
    exact ⟨[], v, RR.out, rfl, Go.Joins.ownsRow_le (by simpa [encs] using hrow) (Nat.le_succ _), ((Below.refl _ w).alloc (Nat.le_refl _) _).trans (hb.mono (by simp))⟩
  | some m =>
    obtain ⟨D, h1, _, hk, h2⟩ := h.ms m rfl
    have hsz := h1.size_le
    obtain ⟨ns, r1, r2, r3⟩ := sorted_keys h1 hk (fun s q e => ((h2 s).2 q e).1)
    have HK := Lib.hid (callsIn_wide.1 (mkeys_G (some m) w))
    have HS := Lib.hid (callsIn_wide.1 (skeys_G m N D w h1 (by rw [r2]; have := hN ns r1; unfold maxLen; omega) (by rw [r2]; have := hN ns r1; omega)))
    have HR := Lib.hid r3
    have RR := Lib.hid r1
    clear h h1 hk h2 hsz r1 r2 r3 hN
    go_enter Tryz.func47, Tryz.ntmps47
    go_wp2_with (first | (go_at_call 86; refine (HK.out).mono ?_; rintro e w' ⟨rfl, rfl⟩) | (go_at_call 85; refine (HS.out).mono ?_; rintro e w' ⟨v, ss, rfl, hS, hrow, hnil, hb⟩))
    go_ret
    have e := HR.out ss hS
    rw [e] at hrow
    have el : ss.length = ns.length := by rw [← e]; simp
    rw [el] at hrow
    exact ⟨ns, v, RR.out, rfl, Go.Joins.ownsRow_le hrow (by simp), ((Below.refl _ w).alloc (Nat.le_refl _) _).trans (hb.mono (by simp))⟩
theorem keysn_G (w : World) : Calls Tryz.prog 47 #[.pointer none] w fun e w' => e = .returned (.slice none 0 0) ∧ w' = w := by
  go_enter Tryz.func47, Tryz.ntmps47
  go_wp2_with fail
  go_ret
  trivial
theorem has_S (w : World) (g N : Nat) (mo : Option Nat) (F : Fun) (h : Bk w g 0 mo N F) (s : ByteArray) (hs : s.size ≤ maxLen) (nm : ByteArray) (a : Option Addr) (n c : Nat) (hv : (F s).getD (.agg #[.string ⟨#[]⟩, .slice none 0 0]) = .agg #[.string nm, .slice a n c]) :
    Calls Tryz.prog 38 #[.pointer (some ⟨g, 0, none⟩), .string s] w fun e w' => e = .returned (.bool (F s).isSome) ∧ Below w.heap.size w w' := by
  have c0 := h.c0
  have hl := h.look_ok mt_S hs
  obtain ⟨B, hB⟩ : ∃ B, B = (F s).isSome := ⟨_, rfl⟩
  rw [hv, ← hB] at hl
  rw [← hB]
  clear h hs hv hB
  go_enter Tryz.func38, Tryz.ntmps38
  go_wp2_with fail
  go_ret
  exact ⟨rfl, (Below.refl _ w).alloc (Nat.le_refl _) _⟩
theorem get_S (w : World) (g N : Nat) (mo : Option Nat) (F : Fun) (h : Bk w g 0 mo N F) (s : ByteArray) (hs : s.size ≤ maxLen) (nm : ByteArray) (a : Option Addr) (n c : Nat) (hv : (F s).getD (.agg #[.string ⟨#[]⟩, .slice none 0 0]) = .agg #[.string nm, .slice a n c]) :
    Calls Tryz.prog 77 #[.pointer (some ⟨g, 0, none⟩), .string s] w fun e w' => e = .returned (.agg #[.string nm, .slice a n c]) ∧ Below w.heap.size w w' := by
  obtain ⟨r0, hr0⟩ : ∃ r, r = w.heap.size := ⟨_, rfl⟩
  obtain ⟨W, hW⟩ : ∃ W, W = w.alloc (.cells #[.string ⟨#[]⟩, .slice none 0 0] 30) := ⟨_, rfl⟩
  have hz := (show W.heap[r0]? = some (.cells #[.string ⟨#[]⟩, .slice none 0 0] 30 (0, 0)) by rw [hW, hr0]; exact heap_alloc_new _ _)
  have BW := (show Below r0 w W by rw [hW, hr0]; exact (Below.refl _ w).alloc (Nat.le_refl _) _)
  have hW2 := h.below (hr0 ▸ BW)
  have c0 := hW2.c0
  have hl := hW2.look mt_S hs
  rw [hv] at hl
  have u := Go.Joins.block_setCell (i := 1) (Go.Joins.block_setCell (i := 0) hz (.string nm)) (.slice a n c)
  have q0 : W.cell? ⟨r0, 0, none⟩ = some (.string ⟨#[]⟩) := by rw [Lib.cell_of_heap hz]; rfl
  have q1 : W.cell? ⟨r0, 1, none⟩ = some (.slice none 0 0) := by rw [Lib.cell_of_heap hz]; rfl
  have q2 := Lib.frozen_of_heap hz 0
  have q3 := Lib.frozen_of_heap hz 1
  have Q4 := Lib.hid (Go.Joins.cell_of_block u 0)
  have Q5 := Lib.hid (Go.Joins.cell_of_block u 1)
  have BE := Lib.hid ((BW.setCell (p := ⟨r0, 0, none⟩) (Nat.le_refl _) (.string nm)).setCell (p := ⟨r0, 1, none⟩) (Nat.le_refl _) (.slice a n c))
  have HR := Lib.hid hr0
  clear h hs hv BW hW2 hz u
  rw [← hr0]
  go_enter Tryz.func77, Tryz.ntmps77
  go_upto_region 1 with (fail)
  rw [← hW, ← hr0]
  clear hW hr0
  go_wp2_with fail
  refine bodyPost_ret (v := .agg #[.string nm, .slice a n c]) (by simp [results, Tryz.results77, go_sem, Q4.out, Q5.out]) rfl ⟨rfl, BE.out⟩
theorem size_S (w : World) (g N : Nat) (mo : Option Nat) (F : Fun) (h : Bk w g 0 mo N F) :
    Calls Tryz.prog 45 #[.pointer (some ⟨g, 0, none⟩)] w fun e w' => ∃ ns, Rw F ns ∧ e = .returned (.int .i64 (ns.length : Nat)) ∧ w' = w := by
  have c0 := h.c0
  obtain ⟨ns, r, _, hl⟩ := h.len mt_S
  have RR := Lib.hid r
  obtain ⟨n, hn⟩ : ∃ n, n = ns.length := ⟨_, rfl⟩
  rw [← hn] at hl
  have HN := Lib.hid hn
  clear h r hn
  go_enter Tryz.func45, Tryz.ntmps45
  go_wp2_with fail
  go_ret
  exact ⟨ns, RR.out, by rw [HN.out]; rfl, rfl⟩
theorem mkeys_S (mb : Option Nat) (W : World) : CallsIn Fence.wide 5 Tryz.prog 89 #[.map mb] W fun e w' => e = .returned (.func (.func 114) #[] #[.pointer (some ⟨W.heap.size, 0, none⟩)]) ∧ w' = W.alloc (.cells #[.map mb] 74) :=
  AnyZ.keys_in Tryz.keys89 Fence.wide 5 trivial rfl mb W
set_option maxHeartbeats 1000000 in
theorem skeys_S (b nn : Nat) (D0 : DataW Value) (w : World) (hown : w.ownsMap Tryz.prog 9 R b nn D0) (hmax : Maps.size D0 ≤ maxLen) (hbytes : Maps.size D0 * 16 ≤ 140737488355328) :
    CallsIn Fence.wide 5 Tryz.prog 85 #[.func (.func 114) #[] #[.pointer (some ⟨w.heap.size, 0, none⟩)]] (w.alloc (.cells #[.map (some b)] 74)) fun e w' => ∃ (v : Value) (ss : List (List UInt8)), e = .returned v ∧ ss.Perm (strKeys D0) ∧
      w'.ownsRow (w.alloc (.cells #[.map (some b)] 74)).heap.size 9 1 v ss.length ((ss.mergeSort (fun x y => decide (x ≤ y))).map encStr) ∧ (v = .slice none 0 0 ↔ ss = []) ∧ Below (w.alloc (.cells #[.map (some b)] 74)).heap.size (w.alloc (.cells #[.map (some b)] 74)) w' := by
  have hbl := hown.lt
  have hseq : SeqGives Fence.wide 2 Tryz.prog 114 #[.pointer (some ⟨w.heap.size, 0, none⟩)] encStr (fun ss => ss.Perm (strKeys D0)) (Maps.size D0) (w.alloc (.cells #[.map (some b)] 74)) :=
    AnyZ.keys_gives (ρ := Tryz.keys89_ren) { Tryz.keys89 with } Fence.wide _ trivial rfl (by omega) w.heap.size b nn D0 _ (by simp) (by simp) (by
      obtain ⟨es, clock, hb, Ft, hs, hD⟩ := hown
      exact ⟨es, clock, (Below.heap_alloc _ _ b hbl).trans hb, Ft, hs, hD⟩)
  exact AnyZ.sorted_in Tryz.sorted85 Fence.wide 5 trivial trivial trivial trivial rfl (by omega) (sortsK _) (enters_of Tryz.func112 (by kernel_rfl) rfl) 114 #[.pointer (some ⟨w.heap.size, 0, none⟩)] trivial (enters_of Tryz.func114 (by kernel_rfl) rfl) _ _ hmax hbytes _ hseq
set_option maxHeartbeats 1000000 in
theorem skeysn_S (w : World) :
    CallsIn Fence.wide 5 Tryz.prog 85 #[.func (.func 114) #[] #[.pointer (some ⟨w.heap.size, 0, none⟩)]] (w.alloc (.cells #[.map none] 74)) fun e w' => ∃ (v : Value) (ss : List (List UInt8)), e = .returned v ∧ ss = [] ∧
      w'.ownsRow (w.alloc (.cells #[.map none] 74)).heap.size 9 1 v ss.length ((ss.mergeSort (fun x y => decide (x ≤ y))).map encStr) ∧ (v = .slice none 0 0 ↔ ss = []) ∧ Below (w.alloc (.cells #[.map none] 74)).heap.size (w.alloc (.cells #[.map none] 74)) w' := by
  have hseq : SeqGives Fence.wide 2 Tryz.prog 114 #[.pointer (some ⟨w.heap.size, 0, none⟩)] encStr (fun ss : List (List UInt8) => ss = []) 0 (w.alloc (.cells #[.map none] 74)) :=
    AnyZ.keys_gives_nil (ρ := Tryz.keys89_ren) { Tryz.keys89 with } Fence.wide _ trivial rfl w.heap.size _ (by simp) (by simp)
  exact AnyZ.sorted_in Tryz.sorted85 Fence.wide 5 trivial trivial trivial trivial rfl (by omega) (sortsK _) (enters_of Tryz.func112 (by kernel_rfl) rfl) 114 #[.pointer (some ⟨w.heap.size, 0, none⟩)] trivial (enters_of Tryz.func114 (by kernel_rfl) rfl) _ 0 (Nat.zero_le _) (by omega) _ hseq
theorem keys_S (w : World) (g N : Nat) (mo : Option Nat) (F : Fun) (h : Bk w g 0 mo N F) (hN : ∀ ns, Rw F ns → ns.length ≤ 8796093022208) :
    Calls Tryz.prog 52 #[.pointer (some ⟨g, 0, none⟩)] w fun e w' => ∃ ns v, Rw F ns ∧ e = .returned v ∧ w'.ownsRow w.heap.size 9 1 v ns.length (encs ns) ∧ Below w.heap.size w w' := by
  have c0 := h.c0
  cases mo with
  | none =>
    have RR := Lib.hid (Rw.emp (h.mn rfl))
    have HK := Lib.hid (callsIn_wide.1 (mkeys_S none w))
    have HS := Lib.hid (callsIn_wide.1 (skeysn_S w))
    clear h
    go_enter Tryz.func52, Tryz.ntmps52
    go_wp2_with (first | (go_at_call 89; refine (HK.out).mono ?_; rintro e w' ⟨rfl, rfl⟩) | (go_at_call 85; refine (HS.out).mono ?_; rintro e w' ⟨v, ss, rfl, rfl, hrow, hnil, hb⟩))
    go_ret
    exact ⟨[], v, RR.out, rfl, Go.Joins.ownsRow_le (by simpa [encs] using hrow) (Nat.le_succ _), ((Below.refl _ w).alloc (Nat.le_refl _) _).trans (hb.mono (by simp))⟩
  | some m =>
    obtain ⟨D, h1, _, hk, h2⟩ := h.ms m rfl
    have hsz := h1.size_le
    obtain ⟨ns, r1, r2, r3⟩ := sorted_keys h1 hk (fun s q e => ((h2 s).2 q e).1)
    have HK := Lib.hid (callsIn_wide.1 (mkeys_S (some m) w))
    have HS := Lib.hid (callsIn_wide.1 (skeys_S m N D w h1 (by rw [r2]; have := hN ns r1; unfold maxLen; omega) (by rw [r2]; have := hN ns r1; omega)))
    have HR := Lib.hid r3
    have RR := Lib.hid r1
    clear h h1 hk h2 hsz r1 r2 r3 hN
    go_enter Tryz.func52, Tryz.ntmps52
    go_wp2_with (first | (go_at_call 89; refine (HK.out).mono ?_; rintro e w' ⟨rfl, rfl⟩) | (go_at_call 85; refine (HS.out).mono ?_; rintro e w' ⟨v, ss, rfl, hS, hrow, hnil, hb⟩))
    go_ret
    have e := HR.out ss hS
    rw [e] at hrow
    have el : ss.length = ns.length := by rw [← e]; simp
    rw [el] at hrow
    exact ⟨ns, v, RR.out, rfl, Go.Joins.ownsRow_le hrow (by simp), ((Below.refl _ w).alloc (Nat.le_refl _) _).trans (hb.mono (by simp))⟩
theorem keysn_S (w : World) : Calls Tryz.prog 52 #[.pointer none] w fun e w' => e = .returned (.slice none 0 0) ∧ w' = w := by
  go_enter Tryz.func52, Tryz.ntmps52
  go_wp2_with fail
  go_ret
  trivial
theorem sizen_S (w : World) : Calls Tryz.prog 45 #[.pointer none] w fun e w' => e = .returned (.int .i64 0) ∧ w' = w := by
  go_enter Tryz.func45, Tryz.ntmps45
  go_wp2_with fail
  go_ret
  trivial
theorem get_T (w : World) (g N : Nat) (mo : Option Nat) (F : Fun) (h : Bk w g 2 mo N F) (s : ByteArray) (hs : s.size ≤ maxLen) :
    Calls Tryz.prog 54 #[.pointer (some ⟨g, 2, none⟩), .string s] w fun e w' => e = .returned ((F s).getD (.pointer none)) ∧ w' = w := by
  have c0 := h.c0
  have hl := h.look mt_T hs
  obtain ⟨V, hV⟩ : ∃ V, V = (F s).getD (.pointer none) := ⟨_, rfl⟩
  rw [← hV] at hl
  rw [← hV]
  clear h hs hV
  go_enter Tryz.func54, Tryz.ntmps54
  go_wp2_with fail
  go_ret
  trivial
theorem getn_T (w : World) (s : ByteArray) :
    Calls Tryz.prog 54 #[.pointer none, .string s] w fun e w' => e = .returned (.pointer none) ∧ Below w.heap.size w w' := by
  go_enter Tryz.func54, Tryz.ntmps54
  go_wp2_with fail
  go_ret
  first
    | exact ⟨rfl, Below.refl _ _⟩
    | exact ⟨rfl, (Below.refl _ w).alloc (Nat.le_refl _) _⟩
theorem mkeys_T (mb : Option Nat) (W : World) : CallsIn Fence.wide 5 Tryz.prog 90 #[.map mb] W fun e w' => e = .returned (.func (.func 115) #[] #[.pointer (some ⟨W.heap.size, 0, none⟩)]) ∧ w' = W.alloc (.cells #[.map mb] 77) :=
  AnyZ.keys_in Tryz.keys90 Fence.wide 5 trivial rfl mb W
set_option maxHeartbeats 1000000 in
theorem skeys_T (b nn : Nat) (D0 : DataW Value) (w : World) (hown : w.ownsMap Tryz.prog 9 R b nn D0) (hmax : Maps.size D0 ≤ maxLen) (hbytes : Maps.size D0 * 16 ≤ 140737488355328) :
    CallsIn Fence.wide 5 Tryz.prog 85 #[.func (.func 115) #[] #[.pointer (some ⟨w.heap.size, 0, none⟩)]] (w.alloc (.cells #[.map (some b)] 77)) fun e w' => ∃ (v : Value) (ss : List (List UInt8)), e = .returned v ∧ ss.Perm (strKeys D0) ∧
      w'.ownsRow (w.alloc (.cells #[.map (some b)] 77)).heap.size 9 1 v ss.length ((ss.mergeSort (fun x y => decide (x ≤ y))).map encStr) ∧ (v = .slice none 0 0 ↔ ss = []) ∧ Below (w.alloc (.cells #[.map (some b)] 77)).heap.size (w.alloc (.cells #[.map (some b)] 77)) w' := by
  have hbl := hown.lt
  have hseq : SeqGives Fence.wide 2 Tryz.prog 115 #[.pointer (some ⟨w.heap.size, 0, none⟩)] encStr (fun ss => ss.Perm (strKeys D0)) (Maps.size D0) (w.alloc (.cells #[.map (some b)] 77)) :=
    AnyZ.keys_gives (ρ := Tryz.keys90_ren) { Tryz.keys90 with } Fence.wide _ trivial rfl (by omega) w.heap.size b nn D0 _ (by simp) (by simp) (by
      obtain ⟨es, clock, hb, Ft, hs, hD⟩ := hown
      exact ⟨es, clock, (Below.heap_alloc _ _ b hbl).trans hb, Ft, hs, hD⟩)
  exact AnyZ.sorted_in Tryz.sorted85 Fence.wide 5 trivial trivial trivial trivial rfl (by omega) (sortsK _) (enters_of Tryz.func112 (by kernel_rfl) rfl) 115 #[.pointer (some ⟨w.heap.size, 0, none⟩)] trivial (enters_of Tryz.func115 (by kernel_rfl) rfl) _ _ hmax hbytes _ hseq
set_option maxHeartbeats 1000000 in
theorem skeysn_T (w : World) :
    CallsIn Fence.wide 5 Tryz.prog 85 #[.func (.func 115) #[] #[.pointer (some ⟨w.heap.size, 0, none⟩)]] (w.alloc (.cells #[.map none] 77)) fun e w' => ∃ (v : Value) (ss : List (List UInt8)), e = .returned v ∧ ss = [] ∧
      w'.ownsRow (w.alloc (.cells #[.map none] 77)).heap.size 9 1 v ss.length ((ss.mergeSort (fun x y => decide (x ≤ y))).map encStr) ∧ (v = .slice none 0 0 ↔ ss = []) ∧ Below (w.alloc (.cells #[.map none] 77)).heap.size (w.alloc (.cells #[.map none] 77)) w' := by
  have hseq : SeqGives Fence.wide 2 Tryz.prog 115 #[.pointer (some ⟨w.heap.size, 0, none⟩)] encStr (fun ss : List (List UInt8) => ss = []) 0 (w.alloc (.cells #[.map none] 77)) :=
    AnyZ.keys_gives_nil (ρ := Tryz.keys90_ren) { Tryz.keys90 with } Fence.wide _ trivial rfl w.heap.size _ (by simp) (by simp)
  exact AnyZ.sorted_in Tryz.sorted85 Fence.wide 5 trivial trivial trivial trivial rfl (by omega) (sortsK _) (enters_of Tryz.func112 (by kernel_rfl) rfl) 115 #[.pointer (some ⟨w.heap.size, 0, none⟩)] trivial (enters_of Tryz.func115 (by kernel_rfl) rfl) _ 0 (Nat.zero_le _) (by omega) _ hseq
theorem keys_T (w : World) (g N : Nat) (mo : Option Nat) (F : Fun) (h : Bk w g 2 mo N F) (hN : ∀ ns, Rw F ns → ns.length ≤ 8796093022208) :
    Calls Tryz.prog 53 #[.pointer (some ⟨g, 2, none⟩)] w fun e w' => ∃ ns v, Rw F ns ∧ e = .returned v ∧ w'.ownsRow w.heap.size 9 1 v ns.length (encs ns) ∧ Below w.heap.size w w' := by
  have c0 := h.c0
  cases mo with
  | none =>
    have RR := Lib.hid (Rw.emp (h.mn rfl))
    have HK := Lib.hid (callsIn_wide.1 (mkeys_T none w))
    have HS := Lib.hid (callsIn_wide.1 (skeysn_T w))
    clear h
    go_enter Tryz.func53, Tryz.ntmps53
    go_wp2_with (first | (go_at_call 90; refine (HK.out).mono ?_; rintro e w' ⟨rfl, rfl⟩) | (go_at_call 85; refine (HS.out).mono ?_; rintro e w' ⟨v, ss, rfl, rfl, hrow, hnil, hb⟩))
    go_ret
    exact ⟨[], v, RR.out, rfl, Go.Joins.ownsRow_le (by simpa [encs] using hrow) (Nat.le_succ _), ((Below.refl _ w).alloc (Nat.le_refl _) _).trans (hb.mono (by simp))⟩
  | some m =>
    obtain ⟨D, h1, _, hk, h2⟩ := h.ms m rfl
    have hsz := h1.size_le
    obtain ⟨ns, r1, r2, r3⟩ := sorted_keys h1 hk (fun s q e => ((h2 s).2 q e).1)
    have HK := Lib.hid (callsIn_wide.1 (mkeys_T (some m) w))
    have HS := Lib.hid (callsIn_wide.1 (skeys_T m N D w h1 (by rw [r2]; have := hN ns r1; unfold maxLen; omega) (by rw [r2]; have := hN ns r1; omega)))
    have HR := Lib.hid r3
    have RR := Lib.hid r1
    clear h h1 hk h2 hsz r1 r2 r3 hN
    go_enter Tryz.func53, Tryz.ntmps53
    go_wp2_with (first | (go_at_call 90; refine (HK.out).mono ?_; rintro e w' ⟨rfl, rfl⟩) | (go_at_call 85; refine (HS.out).mono ?_; rintro e w' ⟨v, ss, rfl, hS, hrow, hnil, hb⟩))
    go_ret
    have e := HR.out ss hS
    rw [e] at hrow
    have el : ss.length = ns.length := by rw [← e]; simp
    rw [el] at hrow
    exact ⟨ns, v, RR.out, rfl, Go.Joins.ownsRow_le hrow (by simp), ((Below.refl _ w).alloc (Nat.le_refl _) _).trans (hb.mono (by simp))⟩
theorem keysn_T (w : World) : Calls Tryz.prog 53 #[.pointer none] w fun e w' => e = .returned (.slice none 0 0) ∧ w' = w := by
  go_enter Tryz.func53, Tryz.ntmps53
  go_wp2_with fail
  go_ret
  trivial
theorem get_V (w : World) (g N : Nat) (mo : Option Nat) (F : Fun) (h : Bk w g 0 mo N F) (s : ByteArray) (hs : s.size ≤ maxLen) :
    Calls Tryz.prog 57 #[.pointer (some ⟨g, 0, none⟩), .string s] w fun e w' => e = .returned ((F s).getD (.pointer none)) ∧ w' = w := by
  have c0 := h.c0
  have hl := h.look mt_V hs
  obtain ⟨V, hV⟩ : ∃ V, V = (F s).getD (.pointer none) := ⟨_, rfl⟩
  rw [← hV] at hl
  rw [← hV]
  clear h hs hV
  go_enter Tryz.func57, Tryz.ntmps57
  go_wp2_with fail
  go_ret
  trivial
theorem getn_V (w : World) (s : ByteArray) :
    Calls Tryz.prog 57 #[.pointer none, .string s] w fun e w' => e = .returned (.pointer none) ∧ Below w.heap.size w w' := by
  go_enter Tryz.func57, Tryz.ntmps57
  go_wp2_with fail
  go_ret
  first
    | exact ⟨rfl, Below.refl _ _⟩
    | exact ⟨rfl, (Below.refl _ w).alloc (Nat.le_refl _) _⟩
theorem size_V (w : World) (g N : Nat) (mo : Option Nat) (F : Fun) (h : Bk w g 0 mo N F) :
    Calls Tryz.prog 81 #[.pointer (some ⟨g, 0, none⟩)] w fun e w' => ∃ ns, Rw F ns ∧ e = .returned (.int .i64 (ns.length : Nat)) ∧ w' = w := by
  have c0 := h.c0
  obtain ⟨ns, r, _, hl⟩ := h.len mt_V
  have RR := Lib.hid r
  obtain ⟨n, hn⟩ : ∃ n, n = ns.length := ⟨_, rfl⟩
  rw [← hn] at hl
  have HN := Lib.hid hn
  clear h r hn
  go_enter Tryz.func81, Tryz.ntmps81
  go_wp2_with fail
  go_ret
  exact ⟨ns, RR.out, by rw [HN.out]; rfl, rfl⟩
theorem mkeys_V (mb : Option Nat) (W : World) : CallsIn Fence.wide 5 Tryz.prog 91 #[.map mb] W fun e w' => e = .returned (.func (.func 116) #[] #[.pointer (some ⟨W.heap.size, 0, none⟩)]) ∧ w' = W.alloc (.cells #[.map mb] 136) :=
  AnyZ.keys_in Tryz.keys91 Fence.wide 5 trivial rfl mb W
set_option maxHeartbeats 1000000 in
theorem skeys_V (b nn : Nat) (D0 : DataW Value) (w : World) (hown : w.ownsMap Tryz.prog 9 R b nn D0) (hmax : Maps.size D0 ≤ maxLen) (hbytes : Maps.size D0 * 16 ≤ 140737488355328) :
    CallsIn Fence.wide 5 Tryz.prog 85 #[.func (.func 116) #[] #[.pointer (some ⟨w.heap.size, 0, none⟩)]] (w.alloc (.cells #[.map (some b)] 136)) fun e w' => ∃ (v : Value) (ss : List (List UInt8)), e = .returned v ∧ ss.Perm (strKeys D0) ∧
      w'.ownsRow (w.alloc (.cells #[.map (some b)] 136)).heap.size 9 1 v ss.length ((ss.mergeSort (fun x y => decide (x ≤ y))).map encStr) ∧ (v = .slice none 0 0 ↔ ss = []) ∧ Below (w.alloc (.cells #[.map (some b)] 136)).heap.size (w.alloc (.cells #[.map (some b)] 136)) w' := by
  have hbl := hown.lt
  have hseq : SeqGives Fence.wide 2 Tryz.prog 116 #[.pointer (some ⟨w.heap.size, 0, none⟩)] encStr (fun ss => ss.Perm (strKeys D0)) (Maps.size D0) (w.alloc (.cells #[.map (some b)] 136)) :=
    AnyZ.keys_gives (ρ := Tryz.keys91_ren) { Tryz.keys91 with } Fence.wide _ trivial rfl (by omega) w.heap.size b nn D0 _ (by simp) (by simp) (by
      obtain ⟨es, clock, hb, Ft, hs, hD⟩ := hown
      exact ⟨es, clock, (Below.heap_alloc _ _ b hbl).trans hb, Ft, hs, hD⟩)
  exact AnyZ.sorted_in Tryz.sorted85 Fence.wide 5 trivial trivial trivial trivial rfl (by omega) (sortsK _) (enters_of Tryz.func112 (by kernel_rfl) rfl) 116 #[.pointer (some ⟨w.heap.size, 0, none⟩)] trivial (enters_of Tryz.func116 (by kernel_rfl) rfl) _ _ hmax hbytes _ hseq
set_option maxHeartbeats 1000000 in
theorem skeysn_V (w : World) :
    CallsIn Fence.wide 5 Tryz.prog 85 #[.func (.func 116) #[] #[.pointer (some ⟨w.heap.size, 0, none⟩)]] (w.alloc (.cells #[.map none] 136)) fun e w' => ∃ (v : Value) (ss : List (List UInt8)), e = .returned v ∧ ss = [] ∧
      w'.ownsRow (w.alloc (.cells #[.map none] 136)).heap.size 9 1 v ss.length ((ss.mergeSort (fun x y => decide (x ≤ y))).map encStr) ∧ (v = .slice none 0 0 ↔ ss = []) ∧ Below (w.alloc (.cells #[.map none] 136)).heap.size (w.alloc (.cells #[.map none] 136)) w' := by
  have hseq : SeqGives Fence.wide 2 Tryz.prog 116 #[.pointer (some ⟨w.heap.size, 0, none⟩)] encStr (fun ss : List (List UInt8) => ss = []) 0 (w.alloc (.cells #[.map none] 136)) :=
    AnyZ.keys_gives_nil (ρ := Tryz.keys91_ren) { Tryz.keys91 with } Fence.wide _ trivial rfl w.heap.size _ (by simp) (by simp)
  exact AnyZ.sorted_in Tryz.sorted85 Fence.wide 5 trivial trivial trivial trivial rfl (by omega) (sortsK _) (enters_of Tryz.func112 (by kernel_rfl) rfl) 116 #[.pointer (some ⟨w.heap.size, 0, none⟩)] trivial (enters_of Tryz.func116 (by kernel_rfl) rfl) _ 0 (Nat.zero_le _) (by omega) _ hseq
theorem keys_V (w : World) (g N : Nat) (mo : Option Nat) (F : Fun) (h : Bk w g 0 mo N F) (hN : ∀ ns, Rw F ns → ns.length ≤ 8796093022208) :
    Calls Tryz.prog 55 #[.pointer (some ⟨g, 0, none⟩)] w fun e w' => ∃ ns v, Rw F ns ∧ e = .returned v ∧ w'.ownsRow w.heap.size 9 1 v ns.length (encs ns) ∧ Below w.heap.size w w' := by
  have c0 := h.c0
  cases mo with
  | none =>
    have RR := Lib.hid (Rw.emp (h.mn rfl))
    have HK := Lib.hid (callsIn_wide.1 (mkeys_V none w))
    have HS := Lib.hid (callsIn_wide.1 (skeysn_V w))
    clear h
    go_enter Tryz.func55, Tryz.ntmps55
    go_wp2_with (first | (go_at_call 91; refine (HK.out).mono ?_; rintro e w' ⟨rfl, rfl⟩) | (go_at_call 85; refine (HS.out).mono ?_; rintro e w' ⟨v, ss, rfl, rfl, hrow, hnil, hb⟩))
    go_ret
    exact ⟨[], v, RR.out, rfl, Go.Joins.ownsRow_le (by simpa [encs] using hrow) (Nat.le_succ _), ((Below.refl _ w).alloc (Nat.le_refl _) _).trans (hb.mono (by simp))⟩
  | some m =>
    obtain ⟨D, h1, _, hk, h2⟩ := h.ms m rfl
    have hsz := h1.size_le
    obtain ⟨ns, r1, r2, r3⟩ := sorted_keys h1 hk (fun s q e => ((h2 s).2 q e).1)
    have HK := Lib.hid (callsIn_wide.1 (mkeys_V (some m) w))
    have HS := Lib.hid (callsIn_wide.1 (skeys_V m N D w h1 (by rw [r2]; have := hN ns r1; unfold maxLen; omega) (by rw [r2]; have := hN ns r1; omega)))
    have HR := Lib.hid r3
    have RR := Lib.hid r1
    clear h h1 hk h2 hsz r1 r2 r3 hN
    go_enter Tryz.func55, Tryz.ntmps55
    go_wp2_with (first | (go_at_call 91; refine (HK.out).mono ?_; rintro e w' ⟨rfl, rfl⟩) | (go_at_call 85; refine (HS.out).mono ?_; rintro e w' ⟨v, ss, rfl, hS, hrow, hnil, hb⟩))
    go_ret
    have e := HR.out ss hS
    rw [e] at hrow
    have el : ss.length = ns.length := by rw [← e]; simp
    rw [el] at hrow
    exact ⟨ns, v, RR.out, rfl, Go.Joins.ownsRow_le hrow (by simp), ((Below.refl _ w).alloc (Nat.le_refl _) _).trans (hb.mono (by simp))⟩
theorem keysn_V (w : World) : Calls Tryz.prog 55 #[.pointer none] w fun e w' => e = .returned (.slice none 0 0) ∧ w' = w := by
  go_enter Tryz.func55, Tryz.ntmps55
  go_wp2_with fail
  go_ret
  trivial
theorem sizen_V (w : World) : Calls Tryz.prog 81 #[.pointer none] w fun e w' => e = .returned (.int .i64 0) ∧ w' = w := by
  go_enter Tryz.func81, Tryz.ntmps81
  go_wp2_with fail
  go_ret
  trivial
theorem size_X (w : World) (g N : Nat) (mo : Option Nat) (F : Fun) (h : Bk w g 0 mo N F) :
    Calls Tryz.prog 79 #[.pointer (some ⟨g, 0, none⟩)] w fun e w' => ∃ ns, Rw F ns ∧ e = .returned (.int .i64 (ns.length : Nat)) ∧ w' = w := by
  have c0 := h.c0
  obtain ⟨ns, r, _, hl⟩ := h.len mt_X
  have RR := Lib.hid r
  obtain ⟨n, hn⟩ : ∃ n, n = ns.length := ⟨_, rfl⟩
  rw [← hn] at hl
  have HN := Lib.hid hn
  clear h r hn
  go_enter Tryz.func79, Tryz.ntmps79
  go_wp2_with fail
  go_ret
  exact ⟨ns, RR.out, by rw [HN.out]; rfl, rfl⟩
theorem mkeys_X (mb : Option Nat) (W : World) : CallsIn Fence.wide 5 Tryz.prog 95 #[.map mb] W fun e w' => e = .returned (.func (.func 118) #[] #[.pointer (some ⟨W.heap.size, 0, none⟩)]) ∧ w' = W.alloc (.cells #[.map mb] 141) :=
  AnyZ.keys_in Tryz.keys95 Fence.wide 5 trivial rfl mb W
set_option maxHeartbeats 1000000 in
theorem skeys_X (b nn : Nat) (D0 : DataW Value) (w : World) (hown : w.ownsMap Tryz.prog 9 R b nn D0) (hmax : Maps.size D0 ≤ maxLen) (hbytes : Maps.size D0 * 16 ≤ 140737488355328) :
    CallsIn Fence.wide 5 Tryz.prog 85 #[.func (.func 118) #[] #[.pointer (some ⟨w.heap.size, 0, none⟩)]] (w.alloc (.cells #[.map (some b)] 141)) fun e w' => ∃ (v : Value) (ss : List (List UInt8)), e = .returned v ∧ ss.Perm (strKeys D0) ∧
      w'.ownsRow (w.alloc (.cells #[.map (some b)] 141)).heap.size 9 1 v ss.length ((ss.mergeSort (fun x y => decide (x ≤ y))).map encStr) ∧ (v = .slice none 0 0 ↔ ss = []) ∧ Below (w.alloc (.cells #[.map (some b)] 141)).heap.size (w.alloc (.cells #[.map (some b)] 141)) w' := by
  have hbl := hown.lt
  have hseq : SeqGives Fence.wide 2 Tryz.prog 118 #[.pointer (some ⟨w.heap.size, 0, none⟩)] encStr (fun ss => ss.Perm (strKeys D0)) (Maps.size D0) (w.alloc (.cells #[.map (some b)] 141)) :=
    AnyZ.keys_gives (ρ := Tryz.keys95_ren) { Tryz.keys95 with } Fence.wide _ trivial rfl (by omega) w.heap.size b nn D0 _ (by simp) (by simp) (by
      obtain ⟨es, clock, hb, Ft, hs, hD⟩ := hown
      exact ⟨es, clock, (Below.heap_alloc _ _ b hbl).trans hb, Ft, hs, hD⟩)
  exact AnyZ.sorted_in Tryz.sorted85 Fence.wide 5 trivial trivial trivial trivial rfl (by omega) (sortsK _) (enters_of Tryz.func112 (by kernel_rfl) rfl) 118 #[.pointer (some ⟨w.heap.size, 0, none⟩)] trivial (enters_of Tryz.func118 (by kernel_rfl) rfl) _ _ hmax hbytes _ hseq
set_option maxHeartbeats 1000000 in
theorem skeysn_X (w : World) :
    CallsIn Fence.wide 5 Tryz.prog 85 #[.func (.func 118) #[] #[.pointer (some ⟨w.heap.size, 0, none⟩)]] (w.alloc (.cells #[.map none] 141)) fun e w' => ∃ (v : Value) (ss : List (List UInt8)), e = .returned v ∧ ss = [] ∧
      w'.ownsRow (w.alloc (.cells #[.map none] 141)).heap.size 9 1 v ss.length ((ss.mergeSort (fun x y => decide (x ≤ y))).map encStr) ∧ (v = .slice none 0 0 ↔ ss = []) ∧ Below (w.alloc (.cells #[.map none] 141)).heap.size (w.alloc (.cells #[.map none] 141)) w' := by
  have hseq : SeqGives Fence.wide 2 Tryz.prog 118 #[.pointer (some ⟨w.heap.size, 0, none⟩)] encStr (fun ss : List (List UInt8) => ss = []) 0 (w.alloc (.cells #[.map none] 141)) :=
    AnyZ.keys_gives_nil (ρ := Tryz.keys95_ren) { Tryz.keys95 with } Fence.wide _ trivial rfl w.heap.size _ (by simp) (by simp)
  exact AnyZ.sorted_in Tryz.sorted85 Fence.wide 5 trivial trivial trivial trivial rfl (by omega) (sortsK _) (enters_of Tryz.func112 (by kernel_rfl) rfl) 118 #[.pointer (some ⟨w.heap.size, 0, none⟩)] trivial (enters_of Tryz.func118 (by kernel_rfl) rfl) _ 0 (Nat.zero_le _) (by omega) _ hseq
theorem keys_X (w : World) (g N : Nat) (mo : Option Nat) (F : Fun) (h : Bk w g 0 mo N F) (hN : ∀ ns, Rw F ns → ns.length ≤ 8796093022208) :
    Calls Tryz.prog 58 #[.pointer (some ⟨g, 0, none⟩)] w fun e w' => ∃ ns v, Rw F ns ∧ e = .returned v ∧ w'.ownsRow w.heap.size 9 1 v ns.length (encs ns) ∧ Below w.heap.size w w' := by
  have c0 := h.c0
  cases mo with
  | none =>
    have RR := Lib.hid (Rw.emp (h.mn rfl))
    have HK := Lib.hid (callsIn_wide.1 (mkeys_X none w))
    have HS := Lib.hid (callsIn_wide.1 (skeysn_X w))
    clear h
    go_enter Tryz.func58, Tryz.ntmps58
    go_wp2_with (first | (go_at_call 95; refine (HK.out).mono ?_; rintro e w' ⟨rfl, rfl⟩) | (go_at_call 85; refine (HS.out).mono ?_; rintro e w' ⟨v, ss, rfl, rfl, hrow, hnil, hb⟩))
    go_ret
    exact ⟨[], v, RR.out, rfl, Go.Joins.ownsRow_le (by simpa [encs] using hrow) (Nat.le_succ _), ((Below.refl _ w).alloc (Nat.le_refl _) _).trans (hb.mono (by simp))⟩
  | some m =>
    obtain ⟨D, h1, _, hk, h2⟩ := h.ms m rfl
    have hsz := h1.size_le
    obtain ⟨ns, r1, r2, r3⟩ := sorted_keys h1 hk (fun s q e => ((h2 s).2 q e).1)
    have HK := Lib.hid (callsIn_wide.1 (mkeys_X (some m) w))
    have HS := Lib.hid (callsIn_wide.1 (skeys_X m N D w h1 (by rw [r2]; have := hN ns r1; unfold maxLen; omega) (by rw [r2]; have := hN ns r1; omega)))
    have HR := Lib.hid r3
    have RR := Lib.hid r1
    clear h h1 hk h2 hsz r1 r2 r3 hN
    go_enter Tryz.func58, Tryz.ntmps58
    go_wp2_with (first | (go_at_call 95; refine (HK.out).mono ?_; rintro e w' ⟨rfl, rfl⟩) | (go_at_call 85; refine (HS.out).mono ?_; rintro e w' ⟨v, ss, rfl, hS, hrow, hnil, hb⟩))
    go_ret
    have e := HR.out ss hS
    rw [e] at hrow
    have el : ss.length = ns.length := by rw [← e]; simp
    rw [el] at hrow
    exact ⟨ns, v, RR.out, rfl, Go.Joins.ownsRow_le hrow (by simp), ((Below.refl _ w).alloc (Nat.le_refl _) _).trans (hb.mono (by simp))⟩
theorem keysn_X (w : World) : Calls Tryz.prog 58 #[.pointer none] w fun e w' => e = .returned (.slice none 0 0) ∧ w' = w := by
  go_enter Tryz.func58, Tryz.ntmps58
  go_wp2_with fail
  go_ret
  trivial
theorem sizen_X (w : World) : Calls Tryz.prog 79 #[.pointer none] w fun e w' => e = .returned (.int .i64 0) ∧ w' = w := by
  go_enter Tryz.func79, Tryz.ntmps79
  go_wp2_with fail
  go_ret
  trivial
theorem get_K (w : World) (g N : Nat) (mo : Option Nat) (F : Fun) (h : Bk w g 2 mo N F) (s : ByteArray) (hs : s.size ≤ maxLen) :
    Calls Tryz.prog 87 #[.pointer (some ⟨g, 2, none⟩), .string s] w fun e w' => e = .returned ((F s).getD (.pointer none)) ∧ w' = w := by
  have c0 := h.c0
  have hl := h.look mt_K hs
  obtain ⟨V, hV⟩ : ∃ V, V = (F s).getD (.pointer none) := ⟨_, rfl⟩
  rw [← hV] at hl
  rw [← hV]
  clear h hs hV
  go_enter Tryz.func87, Tryz.ntmps87
  go_wp2_with fail
  go_ret
  trivial
theorem getn_K (w : World) (s : ByteArray) :
    Calls Tryz.prog 87 #[.pointer none, .string s] w fun e w' => e = .returned (.pointer none) ∧ Below w.heap.size w w' := by
  go_enter Tryz.func87, Tryz.ntmps87
  go_wp2_with fail
  go_ret
  first
    | exact ⟨rfl, Below.refl _ _⟩
    | exact ⟨rfl, (Below.refl _ w).alloc (Nat.le_refl _) _⟩
theorem get_F (w : World) (g N : Nat) (mo : Option Nat) (F : Fun) (h : Bk w g 0 mo N F) (s : ByteArray) (hs : s.size ≤ maxLen) :
    Calls Tryz.prog 50 #[.pointer (some ⟨g, 0, none⟩), .string s] w fun e w' => e = .returned ((F s).getD (.int .i64 0)) ∧ w' = w := by
  have c0 := h.c0
  have hl := h.look mt_F hs
  obtain ⟨V, hV⟩ : ∃ V, V = (F s).getD (.int .i64 0) := ⟨_, rfl⟩
  rw [← hV] at hl
  rw [← hV]
  clear h hs hV
  go_enter Tryz.func50, Tryz.ntmps50
  go_wp2_with fail
  go_ret
  trivial
theorem getn_F (w : World) (s : ByteArray) :
    Calls Tryz.prog 50 #[.pointer none, .string s] w fun e w' => e = .returned (.int .i64 0) ∧ Below w.heap.size w w' := by
  go_enter Tryz.func50, Tryz.ntmps50
  go_wp2_with fail
  go_ret
  first
    | exact ⟨rfl, Below.refl _ _⟩
    | exact ⟨rfl, (Below.refl _ w).alloc (Nat.le_refl _) _⟩
theorem mkeys_F (mb : Option Nat) (W : World) : CallsIn Fence.wide 5 Tryz.prog 98 #[.map mb] W fun e w' => e = .returned (.func (.func 119) #[] #[.pointer (some ⟨W.heap.size, 0, none⟩)]) ∧ w' = W.alloc (.cells #[.map mb] 129) :=
  AnyZ.keys_in Tryz.keys98 Fence.wide 5 trivial rfl mb W
set_option maxHeartbeats 1000000 in
theorem skeys_F (b nn : Nat) (D0 : DataW Value) (w : World) (hown : w.ownsMap Tryz.prog 9 R b nn D0) (hmax : Maps.size D0 ≤ maxLen) (hbytes : Maps.size D0 * 16 ≤ 140737488355328) :
    CallsIn Fence.wide 5 Tryz.prog 85 #[.func (.func 119) #[] #[.pointer (some ⟨w.heap.size, 0, none⟩)]] (w.alloc (.cells #[.map (some b)] 129)) fun e w' => ∃ (v : Value) (ss : List (List UInt8)), e = .returned v ∧ ss.Perm (strKeys D0) ∧
      w'.ownsRow (w.alloc (.cells #[.map (some b)] 129)).heap.size 9 1 v ss.length ((ss.mergeSort (fun x y => decide (x ≤ y))).map encStr) ∧ (v = .slice none 0 0 ↔ ss = []) ∧ Below (w.alloc (.cells #[.map (some b)] 129)).heap.size (w.alloc (.cells #[.map (some b)] 129)) w' := by
  have hbl := hown.lt
  have hseq : SeqGives Fence.wide 2 Tryz.prog 119 #[.pointer (some ⟨w.heap.size, 0, none⟩)] encStr (fun ss => ss.Perm (strKeys D0)) (Maps.size D0) (w.alloc (.cells #[.map (some b)] 129)) :=
    AnyZ.keys_gives (ρ := Tryz.keys98_ren) { Tryz.keys98 with } Fence.wide _ trivial rfl (by omega) w.heap.size b nn D0 _ (by simp) (by simp) (by
      obtain ⟨es, clock, hb, Ft, hs, hD⟩ := hown
      exact ⟨es, clock, (Below.heap_alloc _ _ b hbl).trans hb, Ft, hs, hD⟩)
  exact AnyZ.sorted_in Tryz.sorted85 Fence.wide 5 trivial trivial trivial trivial rfl (by omega) (sortsK _) (enters_of Tryz.func112 (by kernel_rfl) rfl) 119 #[.pointer (some ⟨w.heap.size, 0, none⟩)] trivial (enters_of Tryz.func119 (by kernel_rfl) rfl) _ _ hmax hbytes _ hseq
set_option maxHeartbeats 1000000 in
theorem skeysn_F (w : World) :
    CallsIn Fence.wide 5 Tryz.prog 85 #[.func (.func 119) #[] #[.pointer (some ⟨w.heap.size, 0, none⟩)]] (w.alloc (.cells #[.map none] 129)) fun e w' => ∃ (v : Value) (ss : List (List UInt8)), e = .returned v ∧ ss = [] ∧
      w'.ownsRow (w.alloc (.cells #[.map none] 129)).heap.size 9 1 v ss.length ((ss.mergeSort (fun x y => decide (x ≤ y))).map encStr) ∧ (v = .slice none 0 0 ↔ ss = []) ∧ Below (w.alloc (.cells #[.map none] 129)).heap.size (w.alloc (.cells #[.map none] 129)) w' := by
  have hseq : SeqGives Fence.wide 2 Tryz.prog 119 #[.pointer (some ⟨w.heap.size, 0, none⟩)] encStr (fun ss : List (List UInt8) => ss = []) 0 (w.alloc (.cells #[.map none] 129)) :=
    AnyZ.keys_gives_nil (ρ := Tryz.keys98_ren) { Tryz.keys98 with } Fence.wide _ trivial rfl w.heap.size _ (by simp) (by simp)
  exact AnyZ.sorted_in Tryz.sorted85 Fence.wide 5 trivial trivial trivial trivial rfl (by omega) (sortsK _) (enters_of Tryz.func112 (by kernel_rfl) rfl) 119 #[.pointer (some ⟨w.heap.size, 0, none⟩)] trivial (enters_of Tryz.func119 (by kernel_rfl) rfl) _ 0 (Nat.zero_le _) (by omega) _ hseq
theorem keys_F (w : World) (g N : Nat) (mo : Option Nat) (F : Fun) (h : Bk w g 0 mo N F) (hN : ∀ ns, Rw F ns → ns.length ≤ 8796093022208) :
    Calls Tryz.prog 62 #[.pointer (some ⟨g, 0, none⟩)] w fun e w' => ∃ ns v, Rw F ns ∧ e = .returned v ∧ w'.ownsRow w.heap.size 9 1 v ns.length (encs ns) ∧ Below w.heap.size w w' := by
  have c0 := h.c0
  cases mo with
  | none =>
    have RR := Lib.hid (Rw.emp (h.mn rfl))
    have HK := Lib.hid (callsIn_wide.1 (mkeys_F none w))
    have HS := Lib.hid (callsIn_wide.1 (skeysn_F w))
    clear h
    go_enter Tryz.func62, Tryz.ntmps62
    go_wp2_with (first | (go_at_call 98; refine (HK.out).mono ?_; rintro e w' ⟨rfl, rfl⟩) | (go_at_call 85; refine (HS.out).mono ?_; rintro e w' ⟨v, ss, rfl, rfl, hrow, hnil, hb⟩))
    go_ret
    exact ⟨[], v, RR.out, rfl, Go.Joins.ownsRow_le (by simpa [encs] using hrow) (Nat.le_succ _), ((Below.refl _ w).alloc (Nat.le_refl _) _).trans (hb.mono (by simp))⟩
  | some m =>
    obtain ⟨D, h1, _, hk, h2⟩ := h.ms m rfl
    have hsz := h1.size_le
    obtain ⟨ns, r1, r2, r3⟩ := sorted_keys h1 hk (fun s q e => ((h2 s).2 q e).1)
    have HK := Lib.hid (callsIn_wide.1 (mkeys_F (some m) w))
    have HS := Lib.hid (callsIn_wide.1 (skeys_F m N D w h1 (by rw [r2]; have := hN ns r1; unfold maxLen; omega) (by rw [r2]; have := hN ns r1; omega)))
    have HR := Lib.hid r3
    have RR := Lib.hid r1
    clear h h1 hk h2 hsz r1 r2 r3 hN
    go_enter Tryz.func62, Tryz.ntmps62
    go_wp2_with (first | (go_at_call 98; refine (HK.out).mono ?_; rintro e w' ⟨rfl, rfl⟩) | (go_at_call 85; refine (HS.out).mono ?_; rintro e w' ⟨v, ss, rfl, hS, hrow, hnil, hb⟩))
    go_ret
    have e := HR.out ss hS
    rw [e] at hrow
    have el : ss.length = ns.length := by rw [← e]; simp
    rw [el] at hrow
    exact ⟨ns, v, RR.out, rfl, Go.Joins.ownsRow_le hrow (by simp), ((Below.refl _ w).alloc (Nat.le_refl _) _).trans (hb.mono (by simp))⟩
theorem keysn_F (w : World) : Calls Tryz.prog 62 #[.pointer none] w fun e w' => e = .returned (.slice none 0 0) ∧ w' = w := by
  go_enter Tryz.func62, Tryz.ntmps62
  go_wp2_with fail
  go_ret
  trivial
end Kc
end Go.Proofs.YtalanjhpacjmmaaGreat
