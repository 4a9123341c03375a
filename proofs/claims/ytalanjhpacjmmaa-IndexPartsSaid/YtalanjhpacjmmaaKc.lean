/- Books: what is told of them. -/
import Derived.Test.YtalanjhpacjmmaaKb
import Derived.Test.YtalanjhpacjmmaaShelf3
import Derived.Test.YtalanjhpacjmmaaSe
namespace Go.Proofs.Ytalanjhpacjmmaa
set_option maxRecDepth 100000
open Go.RowKit Go.Maps Go.ChangeMaps Go.MapKept Go.Sort Go.Shelf
namespace Kc
open Jb Ka Kb
/-- The texts as cells. -/
def encs (ns : List (List UInt8)) : List Value := ns.map encStr
theorem sortsK (m : Nat) : AnyZ.SortsIn Try.prog Try.sorted37_ren Fence.wide m :=
  ⟨fun blk off cap ss W hH hblk hsz => callsIn_wide.2 (AnyM.slices_Sort_string Try.sort54 blk off cap ss W hH hblk hsz),
   fun p cap W => callsIn_wide.2 (AnyM.slices_Sort_string_none Try.sort54 p cap W)⟩
theorem has_G (w : World) (g N : Nat) (mo : Option Nat) (F : Fun) (h : Bk w g 0 mo N F) (s : ByteArray) (hs : s.size ≤ maxLen) :
    Calls Try.prog 30 #[.pointer (some ⟨g, 0, none⟩), .string s] w fun e w' => e = .returned (.bool (F s).isSome) ∧ w' = w := by
  have c0 := h.c0
  have hl := h.look_ok mt_G hs
  obtain ⟨V, hV⟩ : ∃ V, V = (F s).getD (.pointer none) := ⟨_, rfl⟩
  obtain ⟨B, hB⟩ : ∃ B, B = (F s).isSome := ⟨_, rfl⟩
  rw [← hV, ← hB] at hl
  rw [← hB]
  clear h hs hV hB
  go_enter Try.func30, Try.ntmps30
  go_wp2_with fail
  go_ret
  trivial
theorem get_G (w : World) (g N : Nat) (mo : Option Nat) (F : Fun) (h : Bk w g 0 mo N F) (s : ByteArray) (hs : s.size ≤ maxLen) :
    Calls Try.prog 31 #[.pointer (some ⟨g, 0, none⟩), .string s] w fun e w' => e = .returned ((F s).getD (.pointer none)) ∧ w' = w := by
  have c0 := h.c0
  have hl := h.look mt_G hs
  obtain ⟨V, hV⟩ : ∃ V, V = (F s).getD (.pointer none) := ⟨_, rfl⟩
  rw [← hV] at hl
  rw [← hV]
  clear h hs hV
  go_enter Try.func31, Try.ntmps31
  go_wp2_with fail
  go_ret
  trivial
theorem getn_G (w : World) (s : ByteArray) :
    Calls Try.prog 31 #[.pointer none, .string s] w fun e w' => e = .returned (.pointer none) ∧ Below w.heap.size w w' := by
  go_enter Try.func31, Try.ntmps31
  go_wp2_with fail
  go_ret
  first
    | exact ⟨rfl, Below.refl _ _⟩
    | exact ⟨rfl, (Below.refl _ w).alloc (Nat.le_refl _) _⟩
theorem mkeys_G (mb : Option Nat) (W : World) : CallsIn Fence.wide 5 Try.prog 38 #[.map mb] W fun e w' => e = .returned (.func (.func 55) #[] #[.pointer (some ⟨W.heap.size, 0, none⟩)]) ∧ w' = W.alloc (.cells #[.map mb] 40) :=
  AnyZ.keys_in Try.keys38 Fence.wide 5 trivial rfl mb W
set_option maxHeartbeats 1000000 in
theorem skeys_G (b nn : Nat) (D0 : DataW Value) (w : World) (hown : w.ownsMap Try.prog 9 R b nn D0) (hmax : Maps.size D0 ≤ maxLen) (hbytes : Maps.size D0 * 16 ≤ 140737488355328) :
    CallsIn Fence.wide 5 Try.prog 37 #[.func (.func 55) #[] #[.pointer (some ⟨w.heap.size, 0, none⟩)]] (w.alloc (.cells #[.map (some b)] 40)) fun e w' => ∃ (v : Value) (ss : List (List UInt8)), e = .returned v ∧ ss.Perm (strKeys D0) ∧
      w'.ownsRow (w.alloc (.cells #[.map (some b)] 40)).heap.size 9 1 v ss.length ((ss.mergeSort (fun x y => decide (x ≤ y))).map encStr) ∧ (v = .slice none 0 0 ↔ ss = []) ∧ Below (w.alloc (.cells #[.map (some b)] 40)).heap.size (w.alloc (.cells #[.map (some b)] 40)) w' := by
  have hbl := hown.lt
  have hseq : SeqGives Fence.wide 2 Try.prog 55 #[.pointer (some ⟨w.heap.size, 0, none⟩)] encStr (fun ss => ss.Perm (strKeys D0)) (Maps.size D0) (w.alloc (.cells #[.map (some b)] 40)) :=
    AnyZ.keys_gives (ρ := Try.keys38_ren) { Try.keys38 with } Fence.wide _ trivial rfl (by omega) w.heap.size b nn D0 _ (by simp) (by simp) (by
      obtain ⟨es, clock, hb, Ft, hs, hD⟩ := hown
      exact ⟨es, clock, (Below.heap_alloc _ _ b hbl).trans hb, Ft, hs, hD⟩)
  exact AnyZ.sorted_in Try.sorted37 Fence.wide 5 trivial trivial trivial trivial rfl (by omega) (sortsK _) (enters_of Try.func54 (by kernel_rfl) rfl) 55 #[.pointer (some ⟨w.heap.size, 0, none⟩)] trivial (enters_of Try.func55 (by kernel_rfl) rfl) _ _ hmax hbytes _ hseq
set_option maxHeartbeats 1000000 in
theorem skeysn_G (w : World) :
    CallsIn Fence.wide 5 Try.prog 37 #[.func (.func 55) #[] #[.pointer (some ⟨w.heap.size, 0, none⟩)]] (w.alloc (.cells #[.map none] 40)) fun e w' => ∃ (v : Value) (ss : List (List UInt8)), e = .returned v ∧ ss = [] ∧
      w'.ownsRow (w.alloc (.cells #[.map none] 40)).heap.size 9 1 v ss.length ((ss.mergeSort (fun x y => decide (x ≤ y))).map encStr) ∧ (v = .slice none 0 0 ↔ ss = []) ∧ Below (w.alloc (.cells #[.map none] 40)).heap.size (w.alloc (.cells #[.map none] 40)) w' := by
  have hseq : SeqGives Fence.wide 2 Try.prog 55 #[.pointer (some ⟨w.heap.size, 0, none⟩)] encStr (fun ss : List (List UInt8) => ss = []) 0 (w.alloc (.cells #[.map none] 40)) :=
    AnyZ.keys_gives_nil (ρ := Try.keys38_ren) { Try.keys38 with } Fence.wide _ trivial rfl w.heap.size _ (by simp) (by simp)
  exact AnyZ.sorted_in Try.sorted37 Fence.wide 5 trivial trivial trivial trivial rfl (by omega) (sortsK _) (enters_of Try.func54 (by kernel_rfl) rfl) 55 #[.pointer (some ⟨w.heap.size, 0, none⟩)] trivial (enters_of Try.func55 (by kernel_rfl) rfl) _ 0 (Nat.zero_le _) (by omega) _ hseq
theorem keys_G (w : World) (g N : Nat) (mo : Option Nat) (F : Fun) (h : Bk w g 0 mo N F) (hN : ∀ ns, Rw F ns → ns.length ≤ 8796093022208) :
    Calls Try.prog 18 #[.pointer (some ⟨g, 0, none⟩)] w fun e w' => ∃ ns v, Rw F ns ∧ e = .returned v ∧ w'.ownsRow w.heap.size 9 1 v ns.length (encs ns) ∧ Below w.heap.size w w' := by
  have c0 := h.c0
  cases mo with
  | none =>
    have RR := Lib.hid (Rw.emp (h.mn rfl))
    have HK := Lib.hid (callsIn_wide.1 (mkeys_G none w))
    have HS := Lib.hid (callsIn_wide.1 (skeysn_G w))
    clear h
    go_enter Try.func18, Try.ntmps18
    go_wp2_with (first | (go_at_call 38; refine (HK.out).mono ?_; rintro e w' ⟨rfl, rfl⟩) | (go_at_call 37; refine (HS.out).mono ?_; rintro e w' ⟨v, ss, rfl, rfl, hrow, hnil, hb⟩))
    go_ret
    exact ⟨[], v, RR.out, rfl, Go.Joins.ownsRow_le (by simpa [encs] using hrow) (Nat.le_succ _), ((Below.refl _ w).alloc (Nat.le_refl _) _).trans (hb.mono (by simp))⟩
  | some m =>
    obtain ⟨D, h1, _, hk, h2⟩ := h.ms m rfl
    have hsz := h1.size_le
    obtain ⟨ns, r1, r2, r3⟩ := sorted_keys h1 hk (fun s q e => ((h2 s).2 q e).1)
    have HK := Lib.hid (callsIn_wide.1 (mkeys_G (some m) w))
    have HS := Lib.hid (callsIn_wide.1 (skeys_G m N D w h1 (by rw [r2]; have := hN ns r1; unfold maxLen; omega) (by rw [r2]; have := hN ns r1; omega)))
    have HR := Lib.hid r3
    have RR := Lib.hid r1
    clear h h1 hk h2 hsz r1 r2 r3 hN
    go_enter Try.func18, Try.ntmps18
    go_wp2_with (first | (go_at_call 38; refine (HK.out).mono ?_; rintro e w' ⟨rfl, rfl⟩) | (go_at_call 37; refine (HS.out).mono ?_; rintro e w' ⟨v, ss, rfl, hS, hrow, hnil, hb⟩))
    go_ret
    have e := HR.out ss hS
    rw [e] at hrow
    have el : ss.length = ns.length := by rw [← e]; simp
    rw [el] at hrow
    exact ⟨ns, v, RR.out, rfl, Go.Joins.ownsRow_le hrow (by simp), ((Below.refl _ w).alloc (Nat.le_refl _) _).trans (hb.mono (by simp))⟩
theorem keysn_G (w : World) : Calls Try.prog 18 #[.pointer none] w fun e w' => e = .returned (.slice none 0 0) ∧ w' = w := by
  go_enter Try.func18, Try.ntmps18
  go_wp2_with fail
  go_ret
  trivial
theorem has_S (w : World) (g N : Nat) (mo : Option Nat) (F : Fun) (h : Bk w g 0 mo N F) (s : ByteArray) (hs : s.size ≤ maxLen) (nm : ByteArray) (a : Option Addr) (n c : Nat) (hv : (F s).getD (.agg #[.string ⟨#[]⟩, .slice none 0 0]) = .agg #[.string nm, .slice a n c]) :
    Calls Try.prog 14 #[.pointer (some ⟨g, 0, none⟩), .string s] w fun e w' => e = .returned (.bool (F s).isSome) ∧ Below w.heap.size w w' := by
  have c0 := h.c0
  have hl := h.look_ok mt_S hs
  obtain ⟨B, hB⟩ : ∃ B, B = (F s).isSome := ⟨_, rfl⟩
  rw [hv, ← hB] at hl
  rw [← hB]
  clear h hs hv hB
  go_enter Try.func14, Try.ntmps14
  go_wp2_with fail
  go_ret
  exact ⟨rfl, (Below.refl _ w).alloc (Nat.le_refl _) _⟩
theorem get_S (w : World) (g N : Nat) (mo : Option Nat) (F : Fun) (h : Bk w g 0 mo N F) (s : ByteArray) (hs : s.size ≤ maxLen) (nm : ByteArray) (a : Option Addr) (n c : Nat) (hv : (F s).getD (.agg #[.string ⟨#[]⟩, .slice none 0 0]) = .agg #[.string nm, .slice a n c]) :
    Calls Try.prog 39 #[.pointer (some ⟨g, 0, none⟩), .string s] w fun e w' => e = .returned (.agg #[.string nm, .slice a n c]) ∧ Below w.heap.size w w' := by
  obtain ⟨r0, hr0⟩ : ∃ r, r = w.heap.size := ⟨_, rfl⟩
  obtain ⟨W, hW⟩ : ∃ W, W = w.alloc (.cells #[.string ⟨#[]⟩, .slice none 0 0] 31) := ⟨_, rfl⟩
  have hz := (show W.heap[r0]? = some (.cells #[.string ⟨#[]⟩, .slice none 0 0] 31 (0, 0)) by rw [hW, hr0]; exact heap_alloc_new _ _)
  have BW := (show Below r0 w W by rw [hW, hr0]; exact (Below.refl _ w).alloc (Nat.le_refl _) _)
  have hW2 := h.below (hr0 ▸ BW)
  have c0 := hW2.c0
  have hl := hW2.look mt_S hs
  rw [hv] at hl
  have u := Go.Joins.block_setCell (i := 1) (Go.Joins.block_setCell (i := 0) hz (.string nm)) (.slice a n c)
  have q0 : W.cell? ⟨r0, 0, none⟩ = some (.string ⟨#[]⟩) := by rw [Lib.cell_of_heap hz]; rfl
  have q1 : W.cell? ⟨r0, 1, none⟩ = some (.slice none 0 0) := by rw [Lib.cell_of_heap hz]; rfl
  have q2 := Lib.frozen_of_heap hz 0
  have q3 := Lib.frozen_of_heap hz 1
  have Q4 := Lib.hid (Go.Joins.cell_of_block u 0)
  have Q5 := Lib.hid (Go.Joins.cell_of_block u 1)
  have BE := Lib.hid ((BW.setCell (p := ⟨r0, 0, none⟩) (Nat.le_refl _) (.string nm)).setCell (p := ⟨r0, 1, none⟩) (Nat.le_refl _) (.slice a n c))
  have HR := Lib.hid hr0
  clear h hs hv BW hW2 hz u
  rw [← hr0]
  go_enter Try.func39, Try.ntmps39
  go_upto_region 1 with (fail)
  rw [← hW, ← hr0]
  clear hW hr0
  go_wp2_with fail
  refine bodyPost_ret (v := .agg #[.string nm, .slice a n c]) (by simp [results, Try.results39, go_sem, Q4.out, Q5.out]) rfl ⟨rfl, BE.out⟩
theorem mkeys_S (mb : Option Nat) (W : World) : CallsIn Fence.wide 5 Try.prog 46 #[.map mb] W fun e w' => e = .returned (.func (.func 59) #[] #[.pointer (some ⟨W.heap.size, 0, none⟩)]) ∧ w' = W.alloc (.cells #[.map mb] 52) :=
  AnyZ.keys_in Try.keys46 Fence.wide 5 trivial rfl mb W
set_option maxHeartbeats 1000000 in
theorem skeys_S (b nn : Nat) (D0 : DataW Value) (w : World) (hown : w.ownsMap Try.prog 9 R b nn D0) (hmax : Maps.size D0 ≤ maxLen) (hbytes : Maps.size D0 * 16 ≤ 140737488355328) :
    CallsIn Fence.wide 5 Try.prog 37 #[.func (.func 59) #[] #[.pointer (some ⟨w.heap.size, 0, none⟩)]] (w.alloc (.cells #[.map (some b)] 52)) fun e w' => ∃ (v : Value) (ss : List (List UInt8)), e = .returned v ∧ ss.Perm (strKeys D0) ∧
      w'.ownsRow (w.alloc (.cells #[.map (some b)] 52)).heap.size 9 1 v ss.length ((ss.mergeSort (fun x y => decide (x ≤ y))).map encStr) ∧ (v = .slice none 0 0 ↔ ss = []) ∧ Below (w.alloc (.cells #[.map (some b)] 52)).heap.size (w.alloc (.cells #[.map (some b)] 52)) w' := by
  have hbl := hown.lt
  have hseq : SeqGives Fence.wide 2 Try.prog 59 #[.pointer (some ⟨w.heap.size, 0, none⟩)] encStr (fun ss => ss.Perm (strKeys D0)) (Maps.size D0) (w.alloc (.cells #[.map (some b)] 52)) :=
    AnyZ.keys_gives (ρ := Try.keys46_ren) { Try.keys46 with } Fence.wide _ trivial rfl (by omega) w.heap.size b nn D0 _ (by simp) (by simp) (by
      obtain ⟨es, clock, hb, Ft, hs, hD⟩ := hown
      exact ⟨es, clock, (Below.heap_alloc _ _ b hbl).trans hb, Ft, hs, hD⟩)
  exact AnyZ.sorted_in Try.sorted37 Fence.wide 5 trivial trivial trivial trivial rfl (by omega) (sortsK _) (enters_of Try.func54 (by kernel_rfl) rfl) 59 #[.pointer (some ⟨w.heap.size, 0, none⟩)] trivial (enters_of Try.func59 (by kernel_rfl) rfl) _ _ hmax hbytes _ hseq
set_option maxHeartbeats 1000000 in
theorem skeysn_S (w : World) :
    CallsIn Fence.wide 5 Try.prog 37 #[.func (.func 59) #[] #[.pointer (some ⟨w.heap.size, 0, none⟩)]] (w.alloc (.cells #[.map none] 52)) fun e w' => ∃ (v : Value) (ss : List (List UInt8)), e = .returned v ∧ ss = [] ∧
      w'.ownsRow (w.alloc (.cells #[.map none] 52)).heap.size 9 1 v ss.length ((ss.mergeSort (fun x y => decide (x ≤ y))).map encStr) ∧ (v = .slice none 0 0 ↔ ss = []) ∧ Below (w.alloc (.cells #[.map none] 52)).heap.size (w.alloc (.cells #[.map none] 52)) w' := by
  have hseq : SeqGives Fence.wide 2 Try.prog 59 #[.pointer (some ⟨w.heap.size, 0, none⟩)] encStr (fun ss : List (List UInt8) => ss = []) 0 (w.alloc (.cells #[.map none] 52)) :=
    AnyZ.keys_gives_nil (ρ := Try.keys46_ren) { Try.keys46 with } Fence.wide _ trivial rfl w.heap.size _ (by simp) (by simp)
  exact AnyZ.sorted_in Try.sorted37 Fence.wide 5 trivial trivial trivial trivial rfl (by omega) (sortsK _) (enters_of Try.func54 (by kernel_rfl) rfl) 59 #[.pointer (some ⟨w.heap.size, 0, none⟩)] trivial (enters_of Try.func59 (by kernel_rfl) rfl) _ 0 (Nat.zero_le _) (by omega) _ hseq
theorem keys_S (w : World) (g N : Nat) (mo : Option Nat) (F : Fun) (h : Bk w g 0 mo N F) (hN : ∀ ns, Rw F ns → ns.length ≤ 8796093022208) :
    Calls Try.prog 25 #[.pointer (some ⟨g, 0, none⟩)] w fun e w' => ∃ ns v, Rw F ns ∧ e = .returned v ∧ w'.ownsRow w.heap.size 9 1 v ns.length (encs ns) ∧ Below w.heap.size w w' := by
  have c0 := h.c0
  cases mo with
  | none =>
    have RR := Lib.hid (Rw.emp (h.mn rfl))
    have HK := Lib.hid (callsIn_wide.1 (mkeys_S none w))
    have HS := Lib.hid (callsIn_wide.1 (skeysn_S w))
    clear h
    go_enter Try.func25, Try.ntmps25
    go_wp2_with (first | (go_at_call 46; refine (HK.out).mono ?_; rintro e w' ⟨rfl, rfl⟩) | (go_at_call 37; refine (HS.out).mono ?_; rintro e w' ⟨v, ss, rfl, rfl, hrow, hnil, hb⟩))
    go_ret
    exact ⟨[], v, RR.out, rfl, Go.Joins.ownsRow_le (by simpa [encs] using hrow) (Nat.le_succ _), ((Below.refl _ w).alloc (Nat.le_refl _) _).trans (hb.mono (by simp))⟩
  | some m =>
    obtain ⟨D, h1, _, hk, h2⟩ := h.ms m rfl
    have hsz := h1.size_le
    obtain ⟨ns, r1, r2, r3⟩ := sorted_keys h1 hk (fun s q e => ((h2 s).2 q e).1)
    have HK := Lib.hid (callsIn_wide.1 (mkeys_S (some m) w))
    have HS := Lib.hid (callsIn_wide.1 (skeys_S m N D w h1 (by rw [r2]; have := hN ns r1; unfold maxLen; omega) (by rw [r2]; have := hN ns r1; omega)))
    have HR := Lib.hid r3
    have RR := Lib.hid r1
    clear h h1 hk h2 hsz r1 r2 r3 hN
    go_enter Try.func25, Try.ntmps25
    go_wp2_with (first | (go_at_call 46; refine (HK.out).mono ?_; rintro e w' ⟨rfl, rfl⟩) | (go_at_call 37; refine (HS.out).mono ?_; rintro e w' ⟨v, ss, rfl, hS, hrow, hnil, hb⟩))
    go_ret
    have e := HR.out ss hS
    rw [e] at hrow
    have el : ss.length = ns.length := by rw [← e]; simp
    rw [el] at hrow
    exact ⟨ns, v, RR.out, rfl, Go.Joins.ownsRow_le hrow (by simp), ((Below.refl _ w).alloc (Nat.le_refl _) _).trans (hb.mono (by simp))⟩
theorem keysn_S (w : World) : Calls Try.prog 25 #[.pointer none] w fun e w' => e = .returned (.slice none 0 0) ∧ w' = w := by
  go_enter Try.func25, Try.ntmps25
  go_wp2_with fail
  go_ret
  trivial
theorem get_T (w : World) (g N : Nat) (mo : Option Nat) (F : Fun) (h : Bk w g 2 mo N F) (s : ByteArray) (hs : s.size ≤ maxLen) :
    Calls Try.prog 21 #[.pointer (some ⟨g, 2, none⟩), .string s] w fun e w' => e = .returned ((F s).getD (.pointer none)) ∧ w' = w := by
  have c0 := h.c0
  have hl := h.look mt_T hs
  obtain ⟨V, hV⟩ : ∃ V, V = (F s).getD (.pointer none) := ⟨_, rfl⟩
  rw [← hV] at hl
  rw [← hV]
  clear h hs hV
  go_enter Try.func21, Try.ntmps21
  go_wp2_with fail
  go_ret
  trivial
theorem getn_T (w : World) (s : ByteArray) :
    Calls Try.prog 21 #[.pointer none, .string s] w fun e w' => e = .returned (.pointer none) ∧ Below w.heap.size w w' := by
  go_enter Try.func21, Try.ntmps21
  go_wp2_with fail
  go_ret
  first
    | exact ⟨rfl, Below.refl _ _⟩
    | exact ⟨rfl, (Below.refl _ w).alloc (Nat.le_refl _) _⟩
theorem get_V (w : World) (g N : Nat) (mo : Option Nat) (F : Fun) (h : Bk w g 0 mo N F) (s : ByteArray) (hs : s.size ≤ maxLen) :
    Calls Try.prog 22 #[.pointer (some ⟨g, 0, none⟩), .string s] w fun e w' => e = .returned ((F s).getD (.pointer none)) ∧ w' = w := by
  have c0 := h.c0
  have hl := h.look mt_V hs
  obtain ⟨V, hV⟩ : ∃ V, V = (F s).getD (.pointer none) := ⟨_, rfl⟩
  rw [← hV] at hl
  rw [← hV]
  clear h hs hV
  go_enter Try.func22, Try.ntmps22
  go_wp2_with fail
  go_ret
  trivial
theorem getn_V (w : World) (s : ByteArray) :
    Calls Try.prog 22 #[.pointer none, .string s] w fun e w' => e = .returned (.pointer none) ∧ Below w.heap.size w w' := by
  go_enter Try.func22, Try.ntmps22
  go_wp2_with fail
  go_ret
  first
    | exact ⟨rfl, Below.refl _ _⟩
    | exact ⟨rfl, (Below.refl _ w).alloc (Nat.le_refl _) _⟩
theorem mkeys_V (mb : Option Nat) (W : World) : CallsIn Fence.wide 5 Try.prog 45 #[.map mb] W fun e w' => e = .returned (.func (.func 58) #[] #[.pointer (some ⟨W.heap.size, 0, none⟩)]) ∧ w' = W.alloc (.cells #[.map mb] 98) :=
  AnyZ.keys_in Try.keys45 Fence.wide 5 trivial rfl mb W
set_option maxHeartbeats 1000000 in
theorem skeys_V (b nn : Nat) (D0 : DataW Value) (w : World) (hown : w.ownsMap Try.prog 9 R b nn D0) (hmax : Maps.size D0 ≤ maxLen) (hbytes : Maps.size D0 * 16 ≤ 140737488355328) :
    CallsIn Fence.wide 5 Try.prog 37 #[.func (.func 58) #[] #[.pointer (some ⟨w.heap.size, 0, none⟩)]] (w.alloc (.cells #[.map (some b)] 98)) fun e w' => ∃ (v : Value) (ss : List (List UInt8)), e = .returned v ∧ ss.Perm (strKeys D0) ∧
      w'.ownsRow (w.alloc (.cells #[.map (some b)] 98)).heap.size 9 1 v ss.length ((ss.mergeSort (fun x y => decide (x ≤ y))).map encStr) ∧ (v = .slice none 0 0 ↔ ss = []) ∧ Below (w.alloc (.cells #[.map (some b)] 98)).heap.size (w.alloc (.cells #[.map (some b)] 98)) w' := by
  have hbl := hown.lt
  have hseq : SeqGives Fence.wide 2 Try.prog 58 #[.pointer (some ⟨w.heap.size, 0, none⟩)] encStr (fun ss => ss.Perm (strKeys D0)) (Maps.size D0) (w.alloc (.cells #[.map (some b)] 98)) :=
    AnyZ.keys_gives (ρ := Try.keys45_ren) { Try.keys45 with } Fence.wide _ trivial rfl (by omega) w.heap.size b nn D0 _ (by simp) (by simp) (by
      obtain ⟨es, clock, hb, Ft, hs, hD⟩ := hown
      exact ⟨es, clock, (Below.heap_alloc _ _ b hbl).trans hb, Ft, hs, hD⟩)
  exact AnyZ.sorted_in Try.sorted37 Fence.wide 5 trivial trivial trivial trivial rfl (by omega) (sortsK _) (enters_of Try.func54 (by kernel_rfl) rfl) 58 #[.pointer (some ⟨w.heap.size, 0, none⟩)] trivial (enters_of Try.func58 (by kernel_rfl) rfl) _ _ hmax hbytes _ hseq
set_option maxHeartbeats 1000000 in
theorem skeysn_V (w : World) :
    CallsIn Fence.wide 5 Try.prog 37 #[.func (.func 58) #[] #[.pointer (some ⟨w.heap.size, 0, none⟩)]] (w.alloc (.cells #[.map none] 98)) fun e w' => ∃ (v : Value) (ss : List (List UInt8)), e = .returned v ∧ ss = [] ∧
      w'.ownsRow (w.alloc (.cells #[.map none] 98)).heap.size 9 1 v ss.length ((ss.mergeSort (fun x y => decide (x ≤ y))).map encStr) ∧ (v = .slice none 0 0 ↔ ss = []) ∧ Below (w.alloc (.cells #[.map none] 98)).heap.size (w.alloc (.cells #[.map none] 98)) w' := by
  have hseq : SeqGives Fence.wide 2 Try.prog 58 #[.pointer (some ⟨w.heap.size, 0, none⟩)] encStr (fun ss : List (List UInt8) => ss = []) 0 (w.alloc (.cells #[.map none] 98)) :=
    AnyZ.keys_gives_nil (ρ := Try.keys45_ren) { Try.keys45 with } Fence.wide _ trivial rfl w.heap.size _ (by simp) (by simp)
  exact AnyZ.sorted_in Try.sorted37 Fence.wide 5 trivial trivial trivial trivial rfl (by omega) (sortsK _) (enters_of Try.func54 (by kernel_rfl) rfl) 58 #[.pointer (some ⟨w.heap.size, 0, none⟩)] trivial (enters_of Try.func58 (by kernel_rfl) rfl) _ 0 (Nat.zero_le _) (by omega) _ hseq
theorem keys_V (w : World) (g N : Nat) (mo : Option Nat) (F : Fun) (h : Bk w g 0 mo N F) (hN : ∀ ns, Rw F ns → ns.length ≤ 8796093022208) :
    Calls Try.prog 24 #[.pointer (some ⟨g, 0, none⟩)] w fun e w' => ∃ ns v, Rw F ns ∧ e = .returned v ∧ w'.ownsRow w.heap.size 9 1 v ns.length (encs ns) ∧ Below w.heap.size w w' := by
  have c0 := h.c0
  cases mo with
  | none =>
    have RR := Lib.hid (Rw.emp (h.mn rfl))
    have HK := Lib.hid (callsIn_wide.1 (mkeys_V none w))
    have HS := Lib.hid (callsIn_wide.1 (skeysn_V w))
    clear h
    go_enter Try.func24, Try.ntmps24
    go_wp2_with (first | (go_at_call 45; refine (HK.out).mono ?_; rintro e w' ⟨rfl, rfl⟩) | (go_at_call 37; refine (HS.out).mono ?_; rintro e w' ⟨v, ss, rfl, rfl, hrow, hnil, hb⟩))
    go_ret
    exact ⟨[], v, RR.out, rfl, Go.Joins.ownsRow_le (by simpa [encs] using hrow) (Nat.le_succ _), ((Below.refl _ w).alloc (Nat.le_refl _) _).trans (hb.mono (by simp))⟩
  | some m =>
    obtain ⟨D, h1, _, hk, h2⟩ := h.ms m rfl
    have hsz := h1.size_le
    obtain ⟨ns, r1, r2, r3⟩ := sorted_keys h1 hk (fun s q e => ((h2 s).2 q e).1)
    have HK := Lib.hid (callsIn_wide.1 (mkeys_V (some m) w))
    have HS := Lib.hid (callsIn_wide.1 (skeys_V m N D w h1 (by rw [r2]; have := hN ns r1; unfold maxLen; omega) (by rw [r2]; have := hN ns r1; omega)))
    have HR := Lib.hid r3
    have RR := Lib.hid r1
    clear h h1 hk h2 hsz r1 r2 r3 hN
    go_enter Try.func24, Try.ntmps24
    go_wp2_with (first | (go_at_call 45; refine (HK.out).mono ?_; rintro e w' ⟨rfl, rfl⟩) | (go_at_call 37; refine (HS.out).mono ?_; rintro e w' ⟨v, ss, rfl, hS, hrow, hnil, hb⟩))
    go_ret
    have e := HR.out ss hS
    rw [e] at hrow
    have el : ss.length = ns.length := by rw [← e]; simp
    rw [el] at hrow
    exact ⟨ns, v, RR.out, rfl, Go.Joins.ownsRow_le hrow (by simp), ((Below.refl _ w).alloc (Nat.le_refl _) _).trans (hb.mono (by simp))⟩
theorem keysn_V (w : World) : Calls Try.prog 24 #[.pointer none] w fun e w' => e = .returned (.slice none 0 0) ∧ w' = w := by
  go_enter Try.func24, Try.ntmps24
  go_wp2_with fail
  go_ret
  trivial
theorem mkeys_X (mb : Option Nat) (W : World) : CallsIn Fence.wide 5 Try.prog 44 #[.map mb] W fun e w' => e = .returned (.func (.func 57) #[] #[.pointer (some ⟨W.heap.size, 0, none⟩)]) ∧ w' = W.alloc (.cells #[.map mb] 102) :=
  AnyZ.keys_in Try.keys44 Fence.wide 5 trivial rfl mb W
set_option maxHeartbeats 1000000 in
theorem skeys_X (b nn : Nat) (D0 : DataW Value) (w : World) (hown : w.ownsMap Try.prog 9 R b nn D0) (hmax : Maps.size D0 ≤ maxLen) (hbytes : Maps.size D0 * 16 ≤ 140737488355328) :
    CallsIn Fence.wide 5 Try.prog 37 #[.func (.func 57) #[] #[.pointer (some ⟨w.heap.size, 0, none⟩)]] (w.alloc (.cells #[.map (some b)] 102)) fun e w' => ∃ (v : Value) (ss : List (List UInt8)), e = .returned v ∧ ss.Perm (strKeys D0) ∧
      w'.ownsRow (w.alloc (.cells #[.map (some b)] 102)).heap.size 9 1 v ss.length ((ss.mergeSort (fun x y => decide (x ≤ y))).map encStr) ∧ (v = .slice none 0 0 ↔ ss = []) ∧ Below (w.alloc (.cells #[.map (some b)] 102)).heap.size (w.alloc (.cells #[.map (some b)] 102)) w' := by
  have hbl := hown.lt
  have hseq : SeqGives Fence.wide 2 Try.prog 57 #[.pointer (some ⟨w.heap.size, 0, none⟩)] encStr (fun ss => ss.Perm (strKeys D0)) (Maps.size D0) (w.alloc (.cells #[.map (some b)] 102)) :=
    AnyZ.keys_gives (ρ := Try.keys44_ren) { Try.keys44 with } Fence.wide _ trivial rfl (by omega) w.heap.size b nn D0 _ (by simp) (by simp) (by
      obtain ⟨es, clock, hb, Ft, hs, hD⟩ := hown
      exact ⟨es, clock, (Below.heap_alloc _ _ b hbl).trans hb, Ft, hs, hD⟩)
  exact AnyZ.sorted_in Try.sorted37 Fence.wide 5 trivial trivial trivial trivial rfl (by omega) (sortsK _) (enters_of Try.func54 (by kernel_rfl) rfl) 57 #[.pointer (some ⟨w.heap.size, 0, none⟩)] trivial (enters_of Try.func57 (by kernel_rfl) rfl) _ _ hmax hbytes _ hseq
set_option maxHeartbeats 1000000 in
theorem skeysn_X (w : World) :
    CallsIn Fence.wide 5 Try.prog 37 #[.func (.func 57) #[] #[.pointer (some ⟨w.heap.size, 0, none⟩)]] (w.alloc (.cells #[.map none] 102)) fun e w' => ∃ (v : Value) (ss : List (List UInt8)), e = .returned v ∧ ss = [] ∧
      w'.ownsRow (w.alloc (.cells #[.map none] 102)).heap.size 9 1 v ss.length ((ss.mergeSort (fun x y => decide (x ≤ y))).map encStr) ∧ (v = .slice none 0 0 ↔ ss = []) ∧ Below (w.alloc (.cells #[.map none] 102)).heap.size (w.alloc (.cells #[.map none] 102)) w' := by
  have hseq : SeqGives Fence.wide 2 Try.prog 57 #[.pointer (some ⟨w.heap.size, 0, none⟩)] encStr (fun ss : List (List UInt8) => ss = []) 0 (w.alloc (.cells #[.map none] 102)) :=
    AnyZ.keys_gives_nil (ρ := Try.keys44_ren) { Try.keys44 with } Fence.wide _ trivial rfl w.heap.size _ (by simp) (by simp)
  exact AnyZ.sorted_in Try.sorted37 Fence.wide 5 trivial trivial trivial trivial rfl (by omega) (sortsK _) (enters_of Try.func54 (by kernel_rfl) rfl) 57 #[.pointer (some ⟨w.heap.size, 0, none⟩)] trivial (enters_of Try.func57 (by kernel_rfl) rfl) _ 0 (Nat.zero_le _) (by omega) _ hseq
theorem keys_X (w : World) (g N : Nat) (mo : Option Nat) (F : Fun) (h : Bk w g 0 mo N F) (hN : ∀ ns, Rw F ns → ns.length ≤ 8796093022208) :
    Calls Try.prog 23 #[.pointer (some ⟨g, 0, none⟩)] w fun e w' => ∃ ns v, Rw F ns ∧ e = .returned v ∧ w'.ownsRow w.heap.size 9 1 v ns.length (encs ns) ∧ Below w.heap.size w w' := by
  have c0 := h.c0
  cases mo with
  | none =>
    have RR := Lib.hid (Rw.emp (h.mn rfl))
    have HK := Lib.hid (callsIn_wide.1 (mkeys_X none w))
    have HS := Lib.hid (callsIn_wide.1 (skeysn_X w))
    clear h
    go_enter Try.func23, Try.ntmps23
    go_wp2_with (first | (go_at_call 44; refine (HK.out).mono ?_; rintro e w' ⟨rfl, rfl⟩) | (go_at_call 37; refine (HS.out).mono ?_; rintro e w' ⟨v, ss, rfl, rfl, hrow, hnil, hb⟩))
    go_ret
    exact ⟨[], v, RR.out, rfl, Go.Joins.ownsRow_le (by simpa [encs] using hrow) (Nat.le_succ _), ((Below.refl _ w).alloc (Nat.le_refl _) _).trans (hb.mono (by simp))⟩
  | some m =>
    obtain ⟨D, h1, _, hk, h2⟩ := h.ms m rfl
    have hsz := h1.size_le
    obtain ⟨ns, r1, r2, r3⟩ := sorted_keys h1 hk (fun s q e => ((h2 s).2 q e).1)
    have HK := Lib.hid (callsIn_wide.1 (mkeys_X (some m) w))
    have HS := Lib.hid (callsIn_wide.1 (skeys_X m N D w h1 (by rw [r2]; have := hN ns r1; unfold maxLen; omega) (by rw [r2]; have := hN ns r1; omega)))
    have HR := Lib.hid r3
    have RR := Lib.hid r1
    clear h h1 hk h2 hsz r1 r2 r3 hN
    go_enter Try.func23, Try.ntmps23
    go_wp2_with (first | (go_at_call 44; refine (HK.out).mono ?_; rintro e w' ⟨rfl, rfl⟩) | (go_at_call 37; refine (HS.out).mono ?_; rintro e w' ⟨v, ss, rfl, hS, hrow, hnil, hb⟩))
    go_ret
    have e := HR.out ss hS
    rw [e] at hrow
    have el : ss.length = ns.length := by rw [← e]; simp
    rw [el] at hrow
    exact ⟨ns, v, RR.out, rfl, Go.Joins.ownsRow_le hrow (by simp), ((Below.refl _ w).alloc (Nat.le_refl _) _).trans (hb.mono (by simp))⟩
theorem keysn_X (w : World) : Calls Try.prog 23 #[.pointer none] w fun e w' => e = .returned (.slice none 0 0) ∧ w' = w := by
  go_enter Try.func23, Try.ntmps23
  go_wp2_with fail
  go_ret
  trivial
end Kc
end Go.Proofs.Ytalanjhpacjmmaa
