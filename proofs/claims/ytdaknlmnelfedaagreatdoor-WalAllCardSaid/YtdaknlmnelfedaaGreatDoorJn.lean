/- The names of a disk's files, rising; copies of strings and of bytes. -/
import Derived.Test.YtdaknlmnelfedaaGreatDoorJi
namespace Go.Proofs.YtdaknlmnelfedaaGreatDoor
open Go.RowKit Go.Maps Go.ChangeMaps Go.MapKept
namespace Jn
open Jb Jm Jd Jw Jx

theorem keys_row {_ : List (Lit × DataW Unit)} : True := trivial
/-- The map's keys, sorted. -/
theorem sorted_keys {w : World} {m n : Nat} {F : ByteArray → Option Nat} {D : DataW Unit} (h1 : w.ownsMap Tryz.prog 9 R m n D) (hk : ∀ l, Maps.has D l = true → ∃ s, F s ≠ none ∧ l = key s) (h2 : ∀ s q, F s = some q → Maps.has D (key s) = true)
    {ns ss : List (List UInt8)} (hp : ns.Pairwise (· < ·)) (hm : ∀ x, x ∈ ns ↔ ∃ s, F s ≠ none ∧ s.data.toList = x) (hS : ss.Perm (strKeys D)) : ss.mergeSort (fun x y => decide (x ≤ y)) = ns := by
  obtain ⟨es, rfl, hne⟩ := h1.tidy law
  have hns : ns.Perm (strKeys (.map es)) := by
    refine perm_strKeys hne (fun p hp' => ?_) (hp.imp fun {a b} hab e => ?_) (fun x => ?_)
    · obtain ⟨es', e', hk'⟩ := h1.keysOf
      cases e'
      obtain ⟨v, hv⟩ := hk' p hp'
      obtain ⟨s, _, e⟩ := hk p.1 (by rw [has_eq]; exact List.any_eq_true.2 ⟨p, hp', WideAt.sameKey_self (law.key hv)⟩)
      exact ⟨_, e⟩
    · subst e; exact List.lt_irrefl a hab
    · rw [hm x]
      constructor
      · rintro ⟨s, hs, rfl⟩
        obtain ⟨q, hq⟩ := Option.ne_none_iff_exists'.1 hs
        exact h2 s q hq
      · intro hx
        obtain ⟨s, hs, e⟩ := hk _ hx
        unfold key at e
        injection e with e
        exact ⟨s, hs, e.symm⟩
  have e1 := mergeSort_of_perm (hS.trans hns.symm)
  have e2 : ns.mergeSort leB = ns := List.mergeSort_of_pairwise (hp.imp fun {a b} hab => by simpa [leB] using List.le_of_lt hab)
  exact e1.trans e2
theorem names43 (w : World) (S : Nat → Prop) (g N : Nat) (d : St) (h : Dk w S g N d) (hN : N ≤ 8796093022208) (ns : List (List UInt8)) (hp : ns.Pairwise (· < ·)) (hm : ∀ x, x ∈ ns ↔ ∃ s f, d.F s = some f ∧ s.data.toList = x) :
    Calls Tryz.prog 24 #[.pointer (some ⟨g, 0, none⟩)] w fun e w' => ∃ v, e = .returned v ∧ w'.ownsRow w.heap.size 9 1 v ns.length (ns.map encStr) ∧ Below w.heap.size w w' := by
  have c0 := h.cs.c0
  rcases h.fv with ⟨a, b⟩ | ⟨m, a, _, _, i⟩
  · have e0 : ns = [] := by
      cases ns with
      | nil => rfl
      | cons x r => obtain ⟨s, f, hf, _⟩ := (hm x).1 (by simp); rw [b s] at hf; cases hf
    subst e0
    rw [a] at c0
    have HK := Lib.hid (callsIn_wide.1 (Ji.maps_Keys_54 none w))
    have HS := Lib.hid (callsIn_wide.1 (Ji.slices_Sorted_keys_nil_53_54 w))
    clear h a b hm hp
    go_enter Tryz.func24, Tryz.ntmps24
    go_wp2_with (first | (go_at_call 41; refine (HK.out).mono ?_; rintro e w' ⟨rfl, rfl⟩) | (go_at_call 40; refine (HS.out).mono ?_; rintro e w' ⟨v, ss, rfl, rfl, hrow, hnil, hb⟩))
    go_ret
    exact ⟨v, rfl, Go.Joins.ownsRow_le (by simpa using hrow) (Nat.le_succ _), ((Below.refl _ w).alloc (Nat.le_refl _) _).trans (hb.mono (by simp))⟩
  · obtain ⟨D, h1, h64, hk, h2⟩ := i
    rw [a] at c0
    have hsz := h1.size_le
    have HK := Lib.hid (callsIn_wide.1 (Ji.maps_Keys_54 (some m) w))
    have HS := Lib.hid (callsIn_wide.1 (Ji.slices_Sorted_keys_53_54 m N D R w h1 (by unfold maxLen; omega) (by omega)))
    have HR := Lib.hid (fun ss => sorted_keys (ss := ss) h1 hk (fun s q e => ((h2 s).2 q e).1) hp (fun x => by
      rw [hm x]
      constructor
      · rintro ⟨s, f, hf, e⟩; exact ⟨s, by simp [hf], e⟩
      · rintro ⟨s, hf, e⟩
        obtain ⟨q, hq⟩ := Option.ne_none_iff_exists'.1 hf
        cases hfs : d.F s with
        | none => rw [hfs] at hq; cases hq
        | some f => exact ⟨s, f, hfs, e⟩))
    clear h a h1 h64 hk h2 hm hp hsz
    go_enter Tryz.func24, Tryz.ntmps24
    go_wp2_with (first | (go_at_call 41; refine (HK.out).mono ?_; rintro e w' ⟨rfl, rfl⟩) | (go_at_call 40; refine (HS.out).mono ?_; rintro e w' ⟨v, ss, rfl, hS, hrow, hnil, hb⟩))
    go_ret
    have e := HR.out ss hS
    rw [e] at hrow
    have el : ss.length = ns.length := by rw [← e]; simp
    rw [el] at hrow
    exact ⟨v, rfl, Go.Joins.ownsRow_le hrow (by simp), ((Below.refl _ w).alloc (Nat.le_refl _) _).trans (hb.mono (by simp))⟩
/-- strings.Clone. -/
theorem clone47 (w : World) (s : ByteArray) (hs : s.size ≤ 140737488355328) : Calls Tryz.prog 66 #[.string s] w fun e w' => e = .returned (.string s) ∧ Below w.heap.size w w' := by
  have HC := Lib.hid (Tryz.stringslite_Clone s w (by omega))
  clear hs
  go_enter Tryz.func66, Tryz.ntmps66
  go_wp2_with (go_at_call 74; refine (HC.out).mono ?_; rintro e w' ⟨rfl, hb⟩)
  go_ret
  exact ⟨rfl, hb⟩
/-- bytes.Clone. -/
theorem clone45 (w : World) (R : Nat → Prop) (v : Value) (bs : List Nat) (h : Src w R v bs) (hb : bs.length ≤ 140737488355328) :
    Calls Tryz.prog 37 #[v] w fun e w' => ∃ v', e = .returned v' ∧ w'.ownsRow w.heap.size 5 1 v' bs.length (u8s bs) ∧ Below w.heap.size w w' := by
  have key : ∀ (a : Addr) (n c : Nat), n = bs.length → (∀ i, i < n → w.cell? (a.add i) = some (.int .u8 ((bs.map fun b : Nat => (b : Int)).getD i 0))) →
      Calls Tryz.prog 37 #[.slice (some a) n c] w fun e w' => ∃ v', e = .returned v' ∧ w'.ownsRow w.heap.size 5 1 v' bs.length (u8s bs) ∧ Below w.heap.size w w' := by
    intro a n c hn hc
    refine (Tryz.bytes_Clone_at a n c (bs.map fun b : Nat => (b : Int)) w (by simp [hn]) (by omega) hc).mono ?_
    rintro e w' ⟨v', rfl, hrow, _, hbl⟩
    refine ⟨v', rfl, ?_, hbl⟩
    rw [← hn]
    simpa [u8s, Function.comp_def] using hrow
  rcases h with ⟨rfl, a, c, rfl⟩ | ⟨h0, b, off, c, rfl, hl, hR, hcell⟩
  · cases a with
    | none =>
      refine (Tryz.bytes_Clone_nil 0 c w).mono ?_
      rintro e w' ⟨rfl, rfl⟩
      exact ⟨_, rfl, World.ownsRow_nil _ _ _ _, Below.refl _ _⟩
    | some a => exact key a 0 c rfl (fun i hi => by omega)
  · refine key ⟨b, off, none⟩ _ c rfl (fun i hi => ?_)
    have := hcell i hi
    rw [show (Addr.add ⟨b, off, none⟩ i) = ⟨b, off + i, none⟩ by by_cases hi0 : i = 0 <;> simp [Addr.add, hi0], this]
    simp [g, List.getD_eq_getElem?_getD, hi]
end Jn
end Go.Proofs.YtdaknlmnelfedaaGreatDoor
