/- All places of a map, rising. -/
import Derived.Test.YtloiclmngmnbdaaSd
import Derived.Test.YtloiclmngmnbdaaShelf2
import Derived.Shelf.SlSortCmp.NoneTotal
namespace Go.Proofs.Ytloiclmngmnbdaa
open Go.RowKit Go.Sort Go.Shelf
namespace Se
open Jb Ca Ck Ct Ce Tb Li Sk Sl Sc Sd

theorem isAgg65 : ∀ w, (isAgg 65).run Try.prog w = .ok true w := Try.isAgg65
theorem sizeOf65 : ∀ w, (Go.sizeOf 65).run Try.prog w = .ok 2 w := Try.sizeOf65
theorem sort46 (w : World) (base : Nat) (v : Value) (xs : List Ky) (hn : xs.Nodup) (ho : w.ownsRow base 65 2 v xs.length (kcs xs)) (hb : base ≤ w.heap.size) (hlen : xs.length < 4611686018427387904) :
    Calls Try.prog 46 #[v, .func (.func 30) #[] #[]] w fun e w' => e = .returned (.tuple #[]) ∧ ∃ ys, ys.Perm xs ∧ ys.Pairwise (fun a b => klt a b = true) ∧ w'.ownsRow base 65 2 v ys.length (kcs ys) ∧ Below base w w' := by
  rcases ho.2 with ⟨rfl, h0⟩ | ⟨g, cap, cur, rfl, hbg, hg, h1, h2, h3, h4⟩
  · obtain rfl : xs = [] := List.eq_nil_of_length_eq_zero h0
    refine (AnyF.slices_SortFunc_none { Try.sortPl with } none 0 (.func (.func 30) #[] #[]) w).mono ?_
    rintro e w' ⟨rfl, rfl⟩
    exact ⟨rfl, [], List.Perm.nil, List.Pairwise.nil, ho, Below.refl _ _⟩
  · have eg : ∀ args w, (callFunc 30 args).run Try.prog w = .ok (.enter 30 args) w := enters_of Try.func30 (by kernel_rfl) rfl
    have hcon := AnyQ.slices_SortFunc Try.sortPl 2 isAgg65 sizeOf65 kc (fun _ => rfl) (fun x v hv => by simp [kc] at hv; rcases hv with rfl | rfl <;> rfl) cf swo 30 #[] g 0 cap xs.toArray w eg
      (fun m os dk _ x y => compare30 _ x y) (holds_of_blockK hg h4) (Array.getElem?_eq_some_iff.1 hg).1 (by simpa using hlen)
    change Calls Try.prog 46 _ _ _ at hcon
    simp only [List.size_toArray] at hcon
    refine hcon.mono ?_
    rintro e w' ⟨rfl, d', n, os, hp, hs, rfl⟩
    obtain ⟨q1, q2⟩ := sorted_of hn (by simpa using hp) (by simpa using hs)
    have hl : d'.toList.length = xs.length := q1.length_eq
    refine ⟨rfl, d'.toList, q1, q2, ?_, ?_⟩
    · have := ownsRow_sortedK (w := w) (n := n) (os := os) (ts := d'.toList) hl hbg hg h1 h2 h3
      rw [Array.toArray_toList] at this
      rw [hl]; exact this
    · exact (Below.refl base w).grown (grownBy_sortedK d') hb (fun k e => by cases e; exact hbg)
/-- The places of a map, each once, rising: what SortedFunc answers. -/
def Rk (G : Ky → Option Nat) (ys : List Ky) : Prop := ys.Pairwise (fun a b => klt a b = true) ∧ ∀ x, x ∈ ys ↔ G x ≠ none
set_option maxRecDepth 100000 in
theorem sorted28 (w : World) (Bm : Nat) (mb : Option Nat) (nn : Nat) (G : Ky → Option Nat) (hnn : nn ≤ 140737488355) (hBm : Bm < w.heap.size) (hm : w.cell? ⟨Bm, 0, none⟩ = some (.map mb)) (hown : Mv w mb nn G) :
    Calls Try.prog 28 #[.func (.func 47) #[] #[.pointer (some ⟨Bm, 0, none⟩)], .func (.func 30) #[] #[]] w fun e W' => ∃ v ys, e = .returned v ∧ Rk G ys ∧ ys.length ≤ nn ∧ W'.ownsRow w.heap.size 65 2 v ys.length (kcs ys) ∧ Below w.heap.size w W' := by
  have C := Lib.hid (keys_all w Bm mb nn G hnn hBm hm hown)
  have S := Lib.hid (fun (W : World) v xs h1 h2 h3 h4 => sort46 W w.heap.size v xs h1 h2 h3 h4)
  clear hm hown
  go_enter Try.func28, Try.ntmps28
  go_wp2_with fail
  refine C.out.mono ?_
  rintro e w1 ⟨v, xs, rfl, ha, ho, hb⟩
  have hlen : xs.length < 4611686018427387904 := by have := ha.2.2; omega
  have HLE := Lib.hid ha.2.2
  have S1 := Lib.hid (S.out w1 v xs ha.1 ho hb.size hlen)
  have HA := Lib.hid ha.2.1
  have HB := Lib.hid hb
  clear ha ho hb hlen
  go_wp2_with fail
  refine S1.out.mono ?_
  rintro e w2 ⟨rfl, ys, p1, p2, o2, b2⟩
  go_wp2_with fail
  go_ret
  exact ⟨v, ys, rfl, ⟨p2, fun x => by rw [p1.mem_iff]; exact HA.out x⟩, by rw [p1.length_eq]; exact HLE.out, o2, HB.out.trans b2⟩
end Se
end Go.Proofs.Ytloiclmngmnbdaa
