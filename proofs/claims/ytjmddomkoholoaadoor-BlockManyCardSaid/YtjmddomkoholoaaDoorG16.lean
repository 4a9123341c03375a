import Derived.Test.YtjmddomkoholoaaDoorG15
import Derived.Test.YtjmddomkoholoaaDoorG12

/- The document's side: Unpack. -/
namespace Go.Proofs.YtjmddomkoholoaaDoor
open Go.RowKit
namespace Uy
open Mt Wr Bm Pk Rp Cv Rd Rx Ry Ux

theorem wrong {bs : List Nat} {n : Int} (h : bs.length % 8 ≠ 0 ∨ n < 0 ∨ 60 * (bs.length : Int) < n) : unpacks bs n = none := by
  unfold unpacks
  by_cases h8 : bs.length % 8 = 0 ∧ 0 ≤ n
  · rw [if_pos h8]
    cases hr : reads n.toNat [] (wordsOf bs (bs.length / 8)) with
    | none => rfl
    | some b =>
      have hl := reads_len hr
      rw [wordsOf_len, List.length_nil] at hl
      simp only [Option.bind_some]
      exact if_neg fun h' => by omega
  · exact if_neg h8

end Uy
end Go.Proofs.YtjmddomkoholoaaDoor

namespace Go.Proofs.YtjmddomkoholoaaDoor
open Go.RowKit
namespace Uz
open Mt Wr Bm Pk Rp Cv Rd Rx Ry Ux La
end Uz
end Go.Proofs.YtjmddomkoholoaaDoor

namespace Go.Proofs.YtjmddomkoholoaaDoor
open Go.RowKit
namespace Lu
open Mt Wr Bm Pk Rp Cv Rd Rx Ry Ux Uy Uz La
theorem Unpacked.ok {w w' : World} {bs : List Nat} {n : Int} {e : Ending} {l : List Nat} (h : Unpacked w bs n e w') (hu : unpacks bs n = some l) : Small l ∧ (l.length : Int) = n ∧ ∃ r, e = .returned (.tuple #[r, .int .i64 0]) ∧ w'.ownsRow w.heap.size 38 1 r l.length (u64s l) ∧ Below w.heap.size w w' := by
  obtain ⟨h | h, bl⟩ := h
  · obtain ⟨l', r, h1, he, ho, hS, hn⟩ := h
    rw [hu] at h1
    cases h1
    exact ⟨hS, hn, r, he, ho, bl⟩
  · rw [hu] at h; cases h.1
theorem Unpacked.bad {w w' : World} {bs : List Nat} {n : Int} {e : Ending} (h : Unpacked w bs n e w') (hu : unpacks bs n = none) : e = .returned (.tuple #[.slice none 0 0, .int .i64 2]) ∧ Below w.heap.size w w' := by
  obtain ⟨h | h, bl⟩ := h
  · obtain ⟨l', r, h1, _⟩ := h
    rw [hu] at h1
    cases h1
  · exact ⟨h.2, bl⟩

/-- What both Unpacks answer for a list. -/
def Good (f : Nat) (w : World) (v : Value) (n : Int) (l : List Nat) : Prop :=
  ∀ x, Below w.heap.size w x → Calls Tryd.prog f #[v, .int .i64 n] x fun e w' => ∃ r, e = .returned (.tuple #[r, .int .i64 0]) ∧ w'.ownsRow x.heap.size 38 1 r l.length (u64s l) ∧ Below x.heap.size x w'
def Evil (f : Nat) (w : World) (v : Value) (n : Int) : Prop :=
  ∀ x, Below w.heap.size w x → Calls Tryd.prog f #[v, .int .i64 n] x fun e w' => e = .returned (.tuple #[.slice none 0 0, .int .i64 2]) ∧ Below x.heap.size x w'
end Lu
end Go.Proofs.YtjmddomkoholoaaDoor

/- readSteps. -/
namespace Go.Proofs.YtjmddomkoholoaaDoor
open Go.RowKit
namespace Rw
open Cm Wr Bm Rd Cv Vs Pk Rx Sz

/-- Bytes that came in, or are its own. -/
def By (w : World) (v : Value) (bs : List Nat) : Prop := Is w v bs ∧ Pl w v bs
theorem Is.below' {w w' : World} {s : Value} {bs : List Nat} (h : Is w s bs) (b : Below w.heap.size w w') : Is w' s bs := by
  rcases h with h | ⟨ad, c, h1, h2⟩
  · exact .inl h
  · exact .inr ⟨ad, c, h1, fun j u hj => (b.cell (cell_lt (h2 j u hj))).trans (h2 j u hj)⟩
theorem By.below {w w' : World} {v : Value} {bs : List Nat} (h : By w v bs) (b : Below w.heap.size w w') : By w' v bs := ⟨Is.below' h.1 b, h.2.below b⟩
theorem by_own {w : World} {B : Nat} {v : Value} {bs : List Nat} (h : w.ownsRow B 5 1 v bs.length (u8s bs)) : By w v bs := by
  refine ⟨is_own h, ?_⟩
  by_cases h0 : 0 < bs.length
  · exact pl_own h h0
  · obtain rfl := List.length_eq_zero_iff.1 (show bs.length = 0 by omega)
    rcases Go.Joins.ownsRow_forms h with ⟨rfl, _⟩ | ⟨g, c, rfl⟩
    · exact .inl ⟨rfl, _, _, rfl⟩
    · exact .inl ⟨rfl, _, _, rfl⟩
theorem By.forms {w : World} {v : Value} {bs : List Nat} (h : By w v bs) : ∃ a c, v = .slice a bs.length c := by
  rcases h.2 with ⟨rfl, a, c, rfl⟩ | ⟨_, b, off, c, rfl, _⟩
  · exact ⟨a, c, rfl⟩
  · exact ⟨_, _, rfl⟩

def asum : Nat → List Nat → Nat
  | p, [] => p
  | p, s :: r => asum (((p : Int) + zag (s : Nat)) % 18446744073709551616).toNat r
theorem asum_snoc (l : List Nat) (s : Nat) : ∀ p, asum p (l ++ [s]) = ((((asum p l : Nat) : Int) + zag (s : Nat)) % 18446744073709551616).toNat := by
  induction l with
  | nil => intro p; rfl
  | cons a r ih => intro p; simp only [List.cons_append, asum]; exact ih _
theorem acs_snoc (l : List Nat) (s : Nat) : ∀ p, acs p (l ++ [s]) = acs p l ++ [asum p (l ++ [s])] := by
  induction l with
  | nil => intro p; rfl
  | cons a r ih => intro p; simp only [List.cons_append, acs, asum]; rw [ih]
theorem asum_lt (l : List Nat) : ∀ p, p < 18446744073709551616 → asum p l < 18446744073709551616 := by
  induction l with
  | nil => intro p h; exact h
  | cons a r ih => intro p h; exact ih _ (by omega)
theorem take_snoc {l : List Nat} {k : Nat} (h : k < l.length) : l.take (k + 1) = l.take k ++ [l.getD k 0] := by
  rw [List.take_add_one, List.getElem?_eq_getElem h, List.getD_eq_getElem?_getD, List.getElem?_eq_getElem h]; rfl

set_option maxRecDepth 100000 in
set_option maxHeartbeats 4000000 in
theorem steps79 (w : World) (v : Value) (bs : List Nat) (n : Nat) (hB : By w v bs) (hX : ∀ b ∈ bs, b < 256) (hb : bs.length ≤ 140737488353272) (hT : Tab w) (hn1 : 1 ≤ n) (hn9 : n ≤ 1000) :
    Calls Tryd.prog 107 #[.int .i64 (n : Nat), v] w fun e w' => Rres w 2 n (1 :: bs) e w' := by
  obtain ⟨i0, hi, hz0, hz1, hz2⟩ := info_parts info35
  have F92 := Ux.unpack11 w v bs (n : Nat) hB.2 hB.1 hX hT hb (by omega) (by omega) (by omega)
  cases hu : Mt.unpacks bs (n : Int) with
  | none =>
    have FK := Lib.hid (F92.mono fun e w' hp => Lu.Unpacked.bad hp hu)
    have HN := Lib.hid (Rdk.steps_none hu)
    clear F92 hu hB hX hb hT
    go_enter Tryd.func107, Tryd.ntmps107
    go_wp2_with (go_at_call 103; refine FK.out.mono ?_; rintro e w2 ⟨rfl, b2⟩)
    go_ret
    exact ⟨_, [], rfl, World.ownsRow_nil _ _ _ _, HN.out, .inl rfl, b2⟩
  | some l =>
    have FK := Lib.hid (F92.mono fun e w' hp => Lu.Unpacked.ok hp hu)
    have HR := Lib.hid (Rdk.steps hu)
    have hln := unpacks_len hu
    clear F92 hu hB hX hb hT
    go_enter Tryd.func107, Tryd.ntmps107
    go_wp2_with fail
    refine FK.out.mono ?_
    rintro e w1 ⟨hS, _, r, rfl, o1, b1⟩
    rw [hln] at o1
    obtain ⟨gr, cr, rfl⟩ := Go.Joins.ownsRow_form o1 (by omega)
    have hgr := (o1.lt gr rfl).2
    have HC := Lib.hid (fun k (hk : k < n) => (show w1.cell? ⟨gr, k, none⟩ = some (.int .u64 (l.getD k 0 : Nat)) from by rw [o1.cellAt k (by omega)]; exact u64s_get _ _ (by omega)))
    have HSM := Lib.hid hS
    have B1 := Lib.hid b1
    have HLN := Lib.hid hln
    clear o1 b1 hS hln
    go_wp2_with fail
    go_loopw [7, 8, 21] (fun x a i wr => ∃ k, k ≤ n ∧ i = .int .i64 (k : Nat) ∧ a = .int .u64 (asum 0 (l.take k) : Nat) ∧ wr.ownsRow w1.heap.size 40 3 x k (vcs (mk 2 (acs 0 (l.take k)))) ∧ Below w1.heap.size w1 wr) (fun _ _ i _ => n - (intOf i).toNat)
    case atStart => exact ⟨0, Nat.zero_le _, rfl, rfl, World.ownsRow_nil _ _ _ _, Below.refl _ _⟩
    case round =>
      obtain ⟨k, hk, rfl, rfl, ho, hbl⟩ := hrel
      by_cases hkn : k < n
      · have e24 : wr.cell? ⟨gr, k, none⟩ = some (.int .u64 (l.getD k 0 : Nat)) := (hbl.cell (p := ⟨gr, k, none⟩) hgr).trans (HC.out k hkn)
        have hs60 := HSM.out.get k
        have F93 := Lib.hid (fun y => zag24 (l.getD k 0 : Nat) (by omega) (by omega) y)
        have hA := asum_lt (l.take k) 0 (by decide)
        have hsn := asum_snoc (l.take k) (l.getD k 0) 0
        have hac := acs_snoc (l.take k) (l.getD k 0) 0
        rw [← take_snoc (by rw [HLN.out]; exact hkn)] at hsn hac
        obtain ⟨A, hAe⟩ : ∃ A, A = asum 0 (l.take k) := ⟨_, rfl⟩
        obtain ⟨Z, hZe⟩ : ∃ Z, Z = asum 0 (l.take (k + 1)) := ⟨_, rfl⟩
        obtain ⟨D, hDe⟩ : ∃ D, D = l.getD k 0 := ⟨_, rfl⟩
        rw [← hAe] at hA hsn ⊢
        rw [← hZe] at hsn hac
        rw [← hDe] at e24 F93 hsn hs60
        have hzin := zag_in (D : Nat) (by omega) (by omega)
        obtain ⟨G, hG⟩ : ∃ G, G = zag (D : Nat) := ⟨_, rfl⟩
        rw [← hG] at F93 hsn hzin
        have hadd : IntKind.u64.wrap ((A : Int) + IntKind.u64.wrap G) = (Z : Int) := by
          rw [hsn, IntKind.wrap_u64, IntKind.wrap_u64]
          omega
        have HO := Lib.hid ho
        have HBL := Lib.hid hbl
        have HAC := Lib.hid hac
        have HZE := Lib.hid hZe
        clear ho hbl hac hZe hAe hDe hG hsn
        go_wp2_with fail
        refine (F93.out _).mono ?_
        rintro e w5 ⟨rfl, rfl⟩
        go_wp2_with (at_builtin; refine wpList_append_own _ rfl (.tmp 30) (.tmp 33) 45 rfl w1.heap.size 40 i0 (.agg #[.int .i64 0, .int .u64 0, .string ⟨#[]⟩]) 3 32 Tryd.underlying45 hi hz0 hz1 hz2 rfl (by decide) _ _ _ rfl (HO.out.alloc _) ⟨w5.heap.size, 0, none⟩ 1 1 [.int .i64 2, .int .u64 (Z : Nat), .string ⟨#[]⟩] rfl rfl (cells3_new _ _ _ _ _) ?c2 ?c3 ?c4 ?c5 ?_)
        case c2 => intro u hu; simp at hu; rcases hu with rfl | rfl | rfl <;> rfl
        case c3 => unfold maxLen; omega
        case c4 => omega
        case c5 => have := HBL.out.size; simp; omega
        intro v6 w6 h6 g6 _
        have HE := Lib.hid (show w6.ownsRow w1.heap.size 40 3 v6 (k + 1) (vcs (mk 2 (acs 0 (l.take (k + 1))))) ∧ Below w1.heap.size w1 w6 from ⟨by rw [HAC.out, mk_snoc, vcs_snoc, vcs_one_cell]; exact h6,
          (HBL.out.alloc HBL.out.size _).grown g6 (by have := HBL.out.size; simp; omega) (fun r hr => (HO.out.lt r hr).1)⟩)
        clear h6 g6
        go_wp2_with fail
        go_roundw
        case rel => exact ⟨k + 1, by omega, by go_num, by rw [HZE.out], HE.out.1, HE.out.2⟩
        case measure => simp [intOf]; omega
      · obtain rfl : k = n := by omega
        have HO := Lib.hid ho
        have HBL := Lib.hid hbl
        clear ho hbl
        go_wp2_with fail
        go_ret
        have hl : l.take k = l := List.take_of_length_le (by rw [HLN.out]; exact Nat.le_refl _)
        have h2 := HO.out
        rw [hl] at h2
        have h3 : (mk 2 (acs 0 l)).length = k := by rw [mk_len, acs_len, HLN.out]
        refine ⟨_, mk 2 (acs 0 l), rfl, by rw [h3]; exact Go.Joins.ownsRow_le h2 B1.out.size, HR.out, .inr h3, B1.out.trans (HBL.out.mono B1.out.size)⟩
end Rw
end Go.Proofs.YtjmddomkoholoaaDoor
