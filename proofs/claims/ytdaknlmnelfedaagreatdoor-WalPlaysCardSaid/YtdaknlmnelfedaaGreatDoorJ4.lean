/- The disk's other calls by what is seen of it; the states of the law DiskFuses. -/
import Derived.Test.YtdaknlmnelfedaaGreatDoorJ3
namespace Go.Proofs.YtdaknlmnelfedaaGreatDoor
open Go.RowKit Go.Maps Go.ChangeMaps Go.MapKept
namespace J4
open Jb Jm Jd Jw Jx Jn Je Jf Jg Jh Jk Jc Jl Jo Jq J1 J2 J3

theorem SetFuse_c (w : World) (S : Nat → Prop) (g N : Nat) (V : Vw) (h : DV w S g N V) (n : Int) (hn : -9223372036854775808 ≤ n ∧ n ≤ 9223372036854775807) :
    Calls Tryz.prog 10 #[.pointer (some ⟨g, 0, none⟩), .int .i64 n] w fun e w' => e = .returned (.tuple #[]) ∧ DV w' S g N { V with fused := decide (0 ≤ n), fuse := n.toNat } ∧ Chg w w' S := by
  obtain ⟨d, h, rfl⟩ := h
  refine (setFuse21 w g d n hn h.cs).mono ?_
  rintro e w' ⟨rfl, k1, k2⟩
  exact ⟨rfl, ⟨_, h.nums k2 k1 rfl rfl, rfl⟩, k2.imp fun k hk _ => hk ▸ h.sg⟩
theorem SetRoom_c (w : World) (S : Nat → Prop) (g N : Nat) (V : Vw) (h : DV w S g N V) (n : Int) (hn : -9223372036854775808 ≤ n ∧ n ≤ 9223372036854775807) :
    Calls Tryz.prog 13 #[.pointer (some ⟨g, 0, none⟩), .int .i64 n] w fun e w' => e = .returned (.tuple #[]) ∧ DV w' S g N { V with room := n.toNat } ∧ Chg w w' S := by
  obtain ⟨d, h, rfl⟩ := h
  refine (setRoom20 w g d n hn h.cs).mono ?_
  rintro e w' ⟨rfl, k1, k2⟩
  exact ⟨rfl, ⟨_, h.nums k2 k1 rfl rfl, rfl⟩, k2.imp fun k hk _ => hk ▸ h.sg⟩
theorem List_any (w : World) (S : Nat → Prop) (g N : Nat) (V : Vw) (h : DV w S g N V) (hN : N ≤ 8796093022208) (ns : List (List UInt8)) (hn : Names V.F ns) :
    Calls Tryz.prog 31 #[.pointer (some ⟨g, 0, none⟩)] w fun e w' => (∃ v, e = .returned v) ∧ Below w.heap.size w w' := by
  cases hd : V.down
  · refine (list_up w S g N V h hd hN ns hn).mono ?_
    rintro e w' ⟨v, rfl, _, hb⟩
    exact ⟨⟨v, rfl⟩, hb⟩
  · refine (list_down w S g N V h hd).mono ?_
    rintro e w' ⟨rfl, rfl⟩
    exact ⟨⟨_, rfl⟩, Below.refl _ _⟩
theorem Read_any (w : World) (S : Nat → Prop) (g N : Nat) (V : Vw) (h : DV w S g N V) (s : ByteArray) (hs : s.size ≤ 140737488355328) (hb : ∀ b, V.F s = some b → b.1.length ≤ 140737488355328) :
    Calls Tryz.prog 43 #[.pointer (some ⟨g, 0, none⟩), .string s] w fun e w' => (∃ v, e = .returned (.tuple #[v, .int .i64 (finE V s : Nat)])) ∧ Below w.heap.size w w' := by
  by_cases hE : finE V s = 0
  · have h0 := hE
    unfold finE at h0
    split at h0
    · cases h0
    · rename_i hd
      split at h0
      · cases h0
      · rename_i hF
        cases hf : V.F s with
        | none => rw [hf] at hF; simp at hF
        | some b =>
          rw [hE]
          refine (Read_c w S g N V h s hs b.1 b.2 (by simpa using hd) hf (hb b hf)).mono ?_
          rintro e w' ⟨v, rfl, _, hbl⟩
          exact ⟨⟨v, rfl⟩, hbl⟩
  · refine (Read_bad w S g N V h s hs hE).mono ?_
    rintro e w' ⟨rfl, rfl⟩
    exact ⟨⟨_, rfl⟩, Below.refl _ _⟩
theorem Restart_c (w : World) (S : Nat → Prop) (g N : Nat) (V : Vw) (h : DV w S g N V) (hN : N ≤ 8796093022208) (R : Nat → Prop) (hR : ∀ k, R k → ¬ S k ∧ k < w.heap.size) (v : Value) (ch : List Nat) (hv : Src w R v ch) (hby : ∀ x ∈ ch, x < 256)
    (ns : List (List UInt8)) (hns : Names V.F ns) (hu : V.used = tot V.F ns) (hul : V.used ≤ 140737488355328) (hsz : ∀ x ∈ ns, x.length ≤ 64) (hml : ns.length ≤ 8796093022208) :
    Calls Tryz.prog 11 #[.pointer (some ⟨g, 0, none⟩), v] w fun e w' => e = .returned (.tuple #[]) ∧ DV w' (New S w w') g N (rsV V (rs ⟨V.F, V.used, ch⟩ ns)) ∧ Chg w w' S := by
  obtain ⟨d, h, rfl⟩ := h
  refine (restart15 w S g N d h hN R hR v ch hv hby ns hns hu hul hsz hml).mono ?_
  rintro e w' ⟨rfl, d', h1, h2, h3⟩
  exact ⟨rfl, ⟨d', h2, h1⟩, h3⟩
theorem rs_used_le : ∀ (l : List (List UInt8)) (q : Rs), (rs q l).used ≤ q.used := by
  intro l
  induction l with
  | nil => intro q; exact Nat.le_refl _
  | cons y l ih =>
    intro q
    refine Nat.le_trans (ih (stp q y)) ?_
    unfold stp
    split
    · exact Nat.le_refl _
    · split
      · exact Nat.le_refl _
      · exact Nat.sub_le _ _
/-- A disk with at most the file a. -/
def F1 (o : Option (List Nat × Nat)) : FT := fun x => if x = sa then o else none
def ns1 (o : Option (List Nat × Nat)) : List (List UInt8) := if o.isSome then [[97]] else []
theorem nm97 : nm [97] = sa := rfl
theorem names1 (o : Option (List Nat × Nat)) : Names (F1 o) (ns1 o) := by
  cases o with
  | none => exact ⟨by simp [ns1], fun x => by simp [ns1, F1]⟩
  | some b =>
    refine ⟨by simp [ns1], fun x => ?_⟩
    simp only [ns1, F1, Option.isSome_some, if_true, List.mem_singleton]
    constructor
    · rintro rfl; rw [nm97, if_pos rfl]; simp
    · intro h
      by_cases e : nm x = sa
      · exact nm_inj (e.trans nm97.symm)
      · rw [if_neg e] at h; exact absurd rfl h
theorem tot1 (o : Option (List Nat × Nat)) : tot (F1 o) (ns1 o) = (o.getD ([], 0)).1.length := by
  cases o with
  | none => rfl
  | some b =>
    show (List.map _ [[97]]).sum = _
    simp only [List.map_cons, List.map_nil, List.sum_cons, List.sum_nil, lenAt, nm97]
    rfl
theorem ns1_len (o : Option (List Nat × Nat)) : (ns1 o).length ≤ 1 := by cases o <;> simp [ns1]
theorem ns1_sz (o : Option (List Nat × Nat)) : ∀ x ∈ ns1 o, x.length ≤ 64 := by
  intro x hx
  cases o with
  | none => simp [ns1] at hx
  | some b => simp [ns1] at hx; subst hx; decide
/-- The disk of DiskFuses. -/
def VX (n i : Nat) (bs : List Nat) (down : Bool) : Vw :=
  ⟨F1 (if i = 0 then none else some ((List.replicate i bs).flatten, 0)), i * bs.length, 1048576, true, n - i, down⟩
theorem cont_len (i : Nat) (bs : List Nat) : ((List.replicate i bs).flatten).length = i * bs.length := by simp
theorem VX_tot (n i : Nat) (bs : List Nat) (down : Bool) : (VX n i bs down).used = tot (VX n i bs down).F (ns1 (if i = 0 then none else some ((List.replicate i bs).flatten, 0))) := by
  show i * bs.length = tot (F1 _) _
  rw [tot1]
  by_cases h : i = 0
  · rw [if_pos h, h]; simp
  · rw [if_neg h]; simp
theorem VX_old (n i : Nat) (bs : List Nat) (down : Bool) : old (VX n i bs down) sa = ((List.replicate i bs).flatten, 0) := by
  unfold old VX F1
  by_cases h : i = 0
  · simp [h]
  · simp [h]
theorem VX_free {n i : Nat} {bs : List Nat} (hn : n ≤ 255) (hi : i ≤ n) (hl : bs.length ≤ 100) (down : Bool) : bs.length ≤ Vw.free (VX n i bs down) ∧ i * bs.length ≤ 25500 := by
  have : i * bs.length ≤ 255 * 100 := Nat.mul_le_mul (by omega) hl
  refine ⟨?_, by omega⟩
  show bs.length ≤ 1048576 - i * bs.length
  omega
theorem VX_lost {n i : Nat} {bs : List Nat} {down : Bool} : (VX n i bs down).lost = decide (n - i = 0) := by
  unfold Vw.lost VX
  by_cases h : n - i = 0 <;> simp [h]
theorem VX_step {n i : Nat} {bs : List Nat} (hn : n ≤ 255) (hi : i < n) (hl : bs.length ≤ 100) : appV (VX n i bs false) sa bs = VX n (i + 1) bs false ∧ appE (VX n i bs false) sa bs.length = 0 := by
  have hlost : (VX n i bs false).lost = false := by rw [VX_lost]; exact decide_eq_false (by omega)
  have hf := VX_free hn (Nat.le_of_lt hi) hl false
  constructor
  · unfold appV
    rw [if_neg (by simp [VX]), if_pos nm_sa, if_neg (by rw [hlost]; simp), VX_old]
    have e2 : min bs.length (Vw.free (VX n i bs false)) = bs.length := Nat.min_eq_left hf.1
    rw [e2, List.take_length]
    have e3 : (VX n i bs false).op = { VX n i bs false with fuse := n - i - 1 } := by
      unfold Vw.op
      rw [hlost]
      rfl
    rw [e3]
    refine vw_ext (fun x => ?_) ?_ rfl rfl ?_ rfl
    · show (if x = sa then _ else F1 _ x) = F1 _ x
      unfold F1
      by_cases e : x = sa
      · rw [if_pos e, if_pos e, if_neg (by omega)]
        simp [List.replicate_succ']
      · rw [if_neg e, if_neg e, if_neg e]
    · show i * bs.length + bs.length = (i + 1) * bs.length
      rw [Nat.succ_mul]
    · show n - i - 1 = n - (i + 1)
      omega
  · unfold appE
    rw [if_neg (by simp [VX]), if_pos nm_sa, if_neg (by rw [hlost]; simp), if_neg (by omega)]
theorem VX_end {n : Nat} {bs : List Nat} : appV (VX n n bs false) sa bs = VX n n bs true ∧ appE (VX n n bs false) sa bs.length = 8 := by
  have hlost : (VX n n bs false).lost = true := by rw [VX_lost]; exact decide_eq_true (by omega)
  constructor
  · unfold appV
    rw [if_neg (by simp [VX]), if_pos nm_sa, if_pos hlost]
    unfold Vw.op
    rw [if_pos hlost]
    rfl
  · unfold appE
    rw [if_neg (by simp [VX]), if_pos nm_sa, if_pos hlost]
theorem VX_down {n i : Nat} {bs : List Nat} {s : ByteArray} {cs : List Nat} : appV (VX n i bs true) s cs = VX n i bs true ∧ ∀ l, appE (VX n i bs true) s l = 8 :=
  ⟨by unfold appV; rw [if_pos (by simp [VX])], fun l => by unfold appE; rw [if_pos (by simp [VX])]⟩
def s0 : ByteArray := ⟨#[]⟩
theorem nm_s0 : isNm s0 = false := by kernel_rfl
theorem app_s0 (V : Vw) (cs : List Nat) : appV V s0 cs = V := by
  unfold appV
  split
  · rfl
  · rw [if_neg (by rw [nm_s0]; simp)]
end J4
end Go.Proofs.YtdaknlmnelfedaaGreatDoor
