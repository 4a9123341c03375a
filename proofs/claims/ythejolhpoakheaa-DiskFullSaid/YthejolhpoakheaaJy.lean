/- The law DiskFull. -/
import Derived.Test.YthejolhpoakheaaJu
namespace Go.Proofs.Ythejolhpoakheaa
open Go.RowKit Go.Maps Go.ChangeMaps Go.MapKept
namespace Jy
open Jb Jm Jd Jw Jx Jn Je Jf Jg Jh Jk Jc Jl Jo Jq Jt Ju

/-- The file a alone, of U bytes, in a room. -/
def VF (room : Nat) (o : Option (List Nat)) : Vw := ⟨fun x => if x = sa then o.map (fun b => (b, 0)) else none, (o.getD []).length, room, false, 0, false⟩
theorem VF_lost (room : Nat) (o : Option (List Nat)) : (VF room o).lost = false := rfl
theorem VF_op (room : Nat) (o : Option (List Nat)) : (VF room o).op = VF room o := rfl
theorem VF_old (room : Nat) (o : Option (List Nat)) : old (VF room o) sa = (o.getD [], 0) := by cases o <;> rfl
theorem VF_app (room : Nat) (o : Option (List Nat)) (bs : List Nat) : appV (VF room o) sa bs = VF room (some (o.getD [] ++ bs.take (min bs.length (room - (o.getD []).length)))) := by
  unfold appV
  rw [if_neg (by simp [VF]), if_pos nm_sa, if_neg (by simp [VF_lost]), VF_old]
  refine vw_ext (fun x => ?_) ?_ rfl rfl rfl rfl
  · show (if x = sa then _ else if x = sa then _ else none) = if x = sa then _ else none
    by_cases e : x = sa
    · rw [if_pos e, if_pos e]; rfl
    · rw [if_neg e, if_neg e, if_neg e]
  · show (o.getD []).length + min bs.length (room - (o.getD []).length) = _
    simp [VF]
theorem VF_n (room : Nat) (o : Option (List Nat)) (l : Nat) : appN (VF room o) sa l = min l (room - (o.getD []).length) := by
  unfold appN
  rw [if_neg (by simp [VF]), if_pos nm_sa, if_neg (by simp [VF_lost])]
  rfl
theorem VF_e (room : Nat) (o : Option (List Nat)) (l : Nat) : appE (VF room o) sa l = if room - (o.getD []).length < l then 7 else 0 := by
  unfold appE
  rw [if_neg (by simp [VF]), if_pos nm_sa, if_neg (by simp [VF_lost])]
  rfl
theorem Cut_c (w : World) (S : Nat → Prop) (g N : Nat) (V : Vw) (h : DV w S g N V) (s : ByteArray) (n : Nat) (hs : s.size ≤ 140737488355328) (bs : List Nat) (k : Nat) (hd : V.down = false) (hF : V.F s = some (bs, k)) (hn : n ≤ bs.length) (hl : V.lost = false) (hu : bs.length ≤ V.used) (hb : bs.length ≤ 140737488355328) :
    Calls Try.prog 18 #[.pointer (some ⟨g, 0, none⟩), .string s, .int .i64 (n : Nat)] w fun e w' => e = .returned (.int .i64 0) ∧ DV w' (New S w w') g N { V.op with F := fun x => if x = s then some (bs.take n, min k n) else V.F x, used := V.used - (bs.length - n) } ∧ Chg w w' S := by
  obtain ⟨d, h, rfl⟩ := h
  cases hf : d.F s with
  | none => simp [vw, hf] at hF
  | some f =>
    have e : ab f = (bs, k) := by simpa [vw, hf] using hF
    have e1 : f.bs = bs := congrArg Prod.fst e
    have e2 : f.syn = k := congrArg Prod.snd e
    rw [← e1, ← e2]
    rw [← e1] at hn hu hb
    refine (cut_on w S g N d h s n hs f hd hf hn hl hu hb).mono ?_
    rintro e w' ⟨rfl, d', h1, h2, h3⟩
    exact ⟨rfl, ⟨d', h2, h1⟩, h3⟩
theorem VF_cut (room : Nat) (bs : List Nat) (n : Nat) (hn : n ≤ bs.length) : { (VF room (some bs)).op with F := fun x => if x = sa then some (bs.take n, min 0 n) else (VF room (some bs)).F x, used := (VF room (some bs)).used - (bs.length - n) } = VF room (some (bs.take n)) := by
  refine vw_ext (fun x => ?_) ?_ rfl rfl rfl rfl
  · show (if x = sa then _ else if x = sa then _ else none) = if x = sa then _ else none
    by_cases e : x = sa
    · rw [if_pos e, if_pos e, Nat.zero_min]; rfl
    · rw [if_neg e, if_neg e, if_neg e]
  · simp [VF]
    omega
end Jy
end Go.Proofs.Ythejolhpoakheaa
