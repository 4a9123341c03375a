/- The document's test of names; a disk with at most one file of a name. -/
import Derived.Test.YthejolhpoakheaaJ4
import Derived.Test.YthejolhpoakheaaJt
namespace Go.Proofs.Ythejolhpoakheaa
open Go.RowKit Go.Maps Go.ChangeMaps Go.MapKept
namespace J6
open Jb Jm Jd Jw Jx Jn Je Jf Jg Jh Jk Jc Jl Jo Jq J1 J2 J3 J4

set_option maxRecDepth 100000 in
theorem name17 (w : World) (s : ByteArray) (hs : s.size ≤ 140737488355328) : Calls Try.prog 17 #[.string s] w fun e w' => e = .returned (.bool (isNm s)) ∧ w' = w := by
  obtain ⟨A, hA⟩ : ∃ A, A = isNm s := ⟨_, rfl⟩
  rw [← hA]
  have hq := fun (y : World) (k : Nat) (hk : k < s.size) => idx y s k hk
  have HQ := Lib.hid hq
  have HA := Lib.hid hA
  obtain ⟨n, hn⟩ : ∃ n, n = s.size := ⟨_, rfl⟩
  have hlen : ∀ (ty : TypeId) (y : World), (Builtin.len_ #[9] ty #[.string s]).run Try.prog y = .ok (.int .i64 (n : Nat)) y := fun ty y => by rw [hn]; exact run_len_string y 9 ty s Try.underlying9
  rw [← hn] at hs
  have HN := Lib.hid hn
  clear hA hq hn
  go_enter Try.func17, Try.ntmps17
  go_wp2_with fail
  go_loopw [3] (fun i wr => ∃ k, k ≤ n ∧ i = .int .i64 (k : Nat) ∧ (∀ j, j < k → good s j = true) ∧ wr = w) (fun i _ => n - (intOf i).toNat)
  case atStart => exact ⟨0, Nat.zero_le _, rfl, fun j hj => by omega, by first | rfl | trivial⟩
  case round =>
    obtain ⟨k, hk, rfl, hall, rfl⟩ := hrel
    have HALL := Lib.hid hall
    clear hall
    by_cases hkn : k < n
    · have hi := fun (y : World) => HQ.out y k (by rw [← HN.out]; exact hkn)
      obtain ⟨b, hb⟩ : ∃ b, b = by8 s k := ⟨_, rfl⟩
      have hbl := by8_lt s k
      rw [← hb] at hi hbl
      have HB := Lib.hid hb
      clear hb
      by_cases hf : 32 ≤ b ∧ b ≠ 127
      · obtain ⟨f1, f2⟩ := hf
        have HG : good s k = true := by unfold good; rw [← HB.out, decide_eq_true f1, decide_eq_true f2]; rfl
        have q1 : decide ((b : Int) < 32) = false := decide_eq_false (by omega)
        have q2 : ((b : Int) == 127) = false := by simp; omega
        go_wp2_with fail
        go_roundw
        case rel =>
          refine ⟨k + 1, by omega, by go_num, fun j hj => ?_, by first | rfl | trivial⟩
          by_cases e : j = k
          · rw [e]; exact HG
          · exact HALL.out j (by omega)
        case measure => simp [intOf]; omega
      · have e1 : A = false := by
          rw [HA.out, isNm]
          apply decide_eq_false
          rintro ⟨-, -, a⟩
          have := a k (by rw [← HN.out]; exact hkn)
          unfold good at this
          rw [← HB.out] at this
          simp at this
          exact hf this
        by_cases f1 : b < 32
        · have q1 : decide ((b : Int) < 32) = true := decide_eq_true (by omega)
          clear hf f1
          subst e1
          go_wp2_with fail
          go_ret
          trivial
        · have q1 : decide ((b : Int) < 32) = false := decide_eq_false (by omega)
          have q2 : ((b : Int) == 127) = true := by simp; omega
          clear hf f1
          subst e1
          go_wp2_with fail
          go_ret
          trivial
    · have ek : n = k := by omega
      subst ek
      have e1 : A = decide (1 ≤ n ∧ n ≤ 64) := by
        rw [HA.out, isNm]
        have b := HN.out
        by_cases h : 1 ≤ n ∧ n ≤ 64
        · rw [decide_eq_true h]
          exact decide_eq_true ⟨by omega, by omega, fun j hj => HALL.out j (by omega)⟩
        · rw [decide_eq_false h]
          exact decide_eq_false fun h' => h ⟨by omega, by omega⟩
      clear hkn
      by_cases h1 : 1 ≤ n
      · by_cases h2 : n ≤ 64
        · rw [decide_eq_true ⟨h1, h2⟩] at e1
          subst e1
          go_wp2_with fail
          go_ret
          first | trivial | exact ⟨rfl, rfl⟩ | (simp; omega) | (simp; omega)
        · rw [decide_eq_false (fun h => h2 h.2)] at e1
          subst e1
          go_wp2_with fail
          go_ret
          first | trivial | exact ⟨rfl, rfl⟩ | (simp; omega) | (simp; omega)
      · have h0 : n = 0 := by omega
        rw [decide_eq_false (fun h => h1 h.1)] at e1
        subst e1 h0
        go_wp2_with fail
        go_ret
        first | trivial | exact ⟨rfl, rfl⟩
/-- A disk with at most the file s. -/
def FnS (s : ByteArray) (o : Option (List Nat × Nat)) : FT := fun x => if x = s then o else none
def nsn (s : ByteArray) (o : Option (List Nat × Nat)) : List (List UInt8) := if o.isSome then [s.data.toList] else []
theorem nms (s : ByteArray) : nm s.data.toList = s := by unfold nm; simp
theorem namesn (s : ByteArray) (o : Option (List Nat × Nat)) : Names (FnS s o) (nsn s o) := by
  cases o with
  | none => exact ⟨by simp [nsn], fun x => by simp [nsn, FnS]⟩
  | some b =>
    refine ⟨by simp [nsn], fun x => ?_⟩
    simp only [nsn, FnS, Option.isSome_some, if_true, List.mem_singleton]
    constructor
    · rintro rfl; rw [nms, if_pos rfl]; simp
    · intro h
      by_cases e : nm x = s
      · exact nm_inj (e.trans (nms s).symm)
      · rw [if_neg e] at h; exact absurd rfl h
theorem totn (s : ByteArray) (o : Option (List Nat × Nat)) : tot (FnS s o) (nsn s o) = (o.getD ([], 0)).1.length := by
  cases o with
  | none => rfl
  | some b =>
    show (List.map _ [s.data.toList]).sum = _
    simp only [List.map_cons, List.map_nil, List.sum_cons, List.sum_nil, lenAt, nms]
    simp [FnS]
theorem nsn_sz {s : ByteArray} (hs : s.size ≤ 64) (o : Option (List Nat × Nat)) : (∀ x ∈ nsn s o, x.length ≤ 64) ∧ (nsn s o).length ≤ 1 := by
  cases o with
  | none => simp [nsn]
  | some b => simp [nsn]; exact hs
def Vn (s : ByteArray) (o : Option (List Nat × Nat)) (room : Nat) : Vw := ⟨FnS s o, (o.getD ([], 0)).1.length, room, false, 0, false⟩
theorem Vn_old (s : ByteArray) (o : Option (List Nat × Nat)) (room : Nat) : old (Vn s o room) s = o.getD ([], 0) := by unfold old Vn FnS; simp
theorem Vn_app {s : ByteArray} (hn : isNm s = true) (o : Option (List Nat × Nat)) (room : Nat) (bs : List Nat) (h : (o.getD ([], 0)).1.length + bs.length ≤ room) :
    appV (Vn s o room) s bs = Vn s (some ((o.getD ([], 0)).1 ++ bs, (o.getD ([], 0)).2)) room ∧ appE (Vn s o room) s bs.length = 0 := by
  have hl : (Vn s o room).lost = false := rfl
  have hf : bs.length ≤ Vw.free (Vn s o room) := by show bs.length ≤ room - (o.getD ([], 0)).1.length; omega
  constructor
  · unfold appV
    rw [if_neg (by simp [Vn]), if_pos hn, if_neg (by rw [hl]; simp), Vn_old, Nat.min_eq_left hf, List.take_length]
    refine vw_ext (fun x => ?_) ?_ rfl rfl rfl rfl
    · show (if x = s then _ else FnS s o x) = FnS s _ x
      unfold FnS
      by_cases e : x = s
      · rw [if_pos e, if_pos e]
      · rw [if_neg e, if_neg e, if_neg e]
    · show (o.getD ([], 0)).1.length + bs.length = _
      simp [Vn]
  · unfold appE
    rw [if_neg (by simp [Vn]), if_pos hn, if_neg (by rw [hl]; simp), if_neg (by omega)]
theorem Vn_bad {s : ByteArray} (hn : isNm s = false) (room : Nat) (bs : List Nat) : appV (Vn s none room) s bs = Vn s none room ∧ appE (Vn s none room) s bs.length = 1 := by
  constructor
  · unfold appV
    rw [if_neg (by simp [Vn]), if_neg (by rw [hn]; simp)]
  · unfold appE
    rw [if_neg (by simp [Vn]), if_neg (by rw [hn]; simp)]
theorem Sync_c (w : World) (S : Nat → Prop) (g N : Nat) (V : Vw) (h : DV w S g N V) (s : ByteArray) (hs : s.size ≤ 140737488355328) (bs : List Nat) (k : Nat) (hd : V.down = false) (hF : V.F s = some (bs, k)) (hl : V.lost = false) :
    Calls Try.prog 14 #[.pointer (some ⟨g, 0, none⟩), .string s] w fun e w' => e = .returned (.int .i64 0) ∧ DV w' (New S w w') g N { V.op with F := fun x => if x = s then some (bs, bs.length) else V.F x } ∧ Chg w w' S := by
  obtain ⟨d, h, rfl⟩ := h
  cases hf : d.F s with
  | none => simp [vw, hf] at hF
  | some f =>
    have e : ab f = (bs, k) := by simpa [vw, hf] using hF
    have e1 : f.bs = bs := congrArg Prod.fst e
    rw [← e1]
    refine (sync_on w S g N d h s hs f hd hf hl).mono ?_
    rintro e w' ⟨rfl, d', h1, h2, h3⟩
    exact ⟨rfl, ⟨d', h2, h1⟩, h3⟩
theorem Vn_sync (s : ByteArray) (bs : List Nat) (k room : Nat) : { (Vn s (some (bs, k)) room).op with F := fun x => if x = s then some (bs, bs.length) else (Vn s (some (bs, k)) room).F x } = Vn s (some (bs, bs.length)) room := by
  refine vw_ext (fun x => ?_) rfl rfl rfl rfl rfl
  show (if x = s then _ else FnS s _ x) = FnS s _ x
  unfold FnS
  by_cases e : x = s
  · rw [if_pos e, if_pos e]
  · rw [if_neg e, if_neg e, if_neg e]
/-- Behind the restart: of the loose bytes some have stayed. -/
theorem Vn_rest (s : ByteArray) (all : List Nat) (k room : Nat) (ch : List Nat) (hk : k ≤ all.length) :
    ∃ Z c, k ≤ Z ∧ Z ≤ all.length ∧ rsV (Vn s (some (all, k)) room) (rs ⟨FnS s (some (all, k)), all.length, ch⟩ (nsn s (some (all, k)))) = ⟨FnS s (some (all.take Z, c)), Z, room, false, 0, false⟩ := by
  have e0 : nsn s (some (all, k)) = [s.data.toList] := rfl
  rw [e0]
  have hF : FnS s (some (all, k)) (nm s.data.toList) = some (all, k) := by rw [nms]; simp [FnS]
  show ∃ Z c, k ≤ Z ∧ Z ≤ all.length ∧ rsV _ (stp ⟨FnS s (some (all, k)), all.length, ch⟩ s.data.toList) = _
  by_cases e : all.length = k
  · rw [stp_same (b := (all, k)) hF e]
    refine ⟨all.length, k, hk, Nat.le_refl _, ?_⟩
    rw [List.take_length]
    rfl
  · rw [stp_cut (b := (all, k)) hF e]
    have hl := stays_le (all, k) ch hk
    refine ⟨stays (all, k) ch, stays (all, k) ch, by unfold stays; exact Nat.le_add_right _ _, hl, ?_⟩
    refine vw_ext (fun x => ?_) ?_ rfl rfl rfl rfl
    · show upd _ _ _ x = FnS s _ x
      rw [nms]
      unfold upd FnS
      dsimp only
      by_cases e : x = s
      · rw [if_pos e, if_pos e]
      · rw [if_neg e, if_neg e, if_neg e]
    · show all.length - (all.length - stays (all, k) ch) = stays (all, k) ch
      have : stays (all, k) ch ≤ all.length := hl
      omega
end J6
end Go.Proofs.Ythejolhpoakheaa
