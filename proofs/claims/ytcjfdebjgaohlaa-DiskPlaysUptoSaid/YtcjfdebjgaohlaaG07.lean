import Derived.Test.YtcjfdebjgaohlaaG00
import Derived.WalkKit
import Derived.ProofKit
import Derived.OpenShut
import Derived.ShutString
import Derived.ChangeOld
import Derived.Below
import Derived.SizedLaws
import Derived.Test.YtcjfdebjgaohlaaG06

/- What opens the laws' arguments. -/
namespace Go.Proofs.Ytcjfdebjgaohlaa
open Go.ChangeShapes Go.WideShapes Go.ChangeAt Go.RowKit
namespace Jt
open Jb

theorem own : ownKnob Try.prog.godebug = none := by kernel_rfl
theorem laidOut : laidOutB Try.prog = true := by kernel_rfl
theorem bnd_u8 {n : Int} (h : (Lit.int .u8 n).wf = true) : 0 ≤ n ∧ n < 256 := by
  simp only [Lit.wf, Bool.and_eq_true, decide_eq_true_eq] at h
  have h1 : IntKind.u8.min = 0 := by decide
  have h2 : IntKind.u8.max = 255 := by decide
  omega
theorem bnd_u16 {n : Int} (h : (Lit.int .u16 n).wf = true) : 0 ≤ n ∧ n < 65536 := by
  simp only [Lit.wf, Bool.and_eq_true, decide_eq_true_eq] at h
  have h1 : IntKind.u16.min = 0 := by decide
  have h2 : IntKind.u16.max = 65535 := by decide
  omega
theorem bytes5 : Try.prog.bytesOf 5 = 1 := by kernel_rfl

/-- A slice of bytes that came in. -/
theorem open_bytes {H : Type} {enc : TypeId × Value → H} {W : World} {v : Value} {d : DataW H} {ps : List MemPlace} (hv : ∃ a len cap, v = .slice a len cap) (h : DataW.Trod enc Try.prog W 0 (fun _ => true) true 29 v d ps) :
    ∃ bs : List Nat, Src W (fun _ => True) v bs ∧ (∀ c, v = .slice none bs.length c → c = 0) ∧ (∀ x ∈ bs, x < 256) ∧ (bs = [] ∨ ∃ es sp, d = .slice es sp ∧ bs.length = es.length) := by
  obtain ⟨a0, len0, cap0, rfl⟩ := hv
  obtain ⟨fuel, hf⟩ := h
  rcases open_ints Try.underlying29 Try.underlying5 (by kernel_rfl) hf with ⟨hcs, _⟩ | ⟨x, l, c, zs, hcs, _, hl, hm, hz, hx, hcell, hwz⟩
  · simp [Value.cells] at hcs
    obtain ⟨rfl, rfl, rfl⟩ := hcs
    exact ⟨[], .inl ⟨rfl, _, _, rfl⟩, (fun c e => by cases e; rfl), by simp, .inl rfl⟩
  · simp [Value.cells] at hcs
    obtain ⟨rfl, rfl, rfl⟩ := hcs
    have hzl : zs.length = cap0 := by simpa using hz
    obtain ⟨rfl, -⟩ := by simpa using hx
    have hwf : ∀ n ∈ zs, 0 ≤ n ∧ n < 256 := fun n hn => bnd_u8 (hwz n hn)
    have hlen : ((zs.take len0).map Int.toNat).length = len0 := by simp; omega
    have hget : ∀ i, i < len0 → (g ((zs.take len0).map Int.toNat) i : Int) = zs.getD i 0 := by
      intro i hi
      have hz' : i < zs.length := by omega
      have h0 := hwf zs[i] (List.getElem_mem hz')
      simp [g, List.getD_eq_getElem?_getD, hi, hz']
      omega
    refine ⟨(zs.take len0).map Int.toNat, ?_, (fun c e => by cases e), ?_, ?_⟩
    · by_cases h0 : len0 = 0
      · subst h0; exact .inl ⟨by simp, _, _, rfl⟩
      · obtain ⟨b, off, spot⟩ := x
        have hc0 := hcell 0 (by omega)
        have hspot : spot = none := by simpa [Addr.add] using World.cell?_spot hc0
        subst hspot
        refine .inr ⟨by rw [hlen]; omega, b, off, cap0, by rw [hlen], by rw [hlen]; exact hl, trivial, fun i hi => ?_⟩
        rw [hlen] at hi
        have g := hcell i (by omega)
        rw [hget i hi]
        by_cases hi0 : i = 0
        · subst hi0; simpa [Addr.add] using g
        · simpa [Addr.add, hi0] using g
    · intro y hy
      simp only [List.mem_map] at hy
      obtain ⟨n, hn, rfl⟩ := hy
      have := hwf n (List.mem_of_mem_take hn)
      omega
    · exact .inr ⟨_, _, rfl, by rw [hlen]; simp [lits]; omega⟩

/-- What came in takes fewer than 2^47 bytes. -/
theorem reach_bytes {H : Type} {ts : List TypeId} {ds : List (DataW H)} {d : DataW H} {L : List Nat} (j : Nat) (hsz : (DataW.weightsEach Try.prog ts ds).all (· ≤ reachBytes) = true) (ht : ts[j]? = some 29) (hd : ds[j]? = some d)
    (h : L = [] ∨ ∃ es sp, d = .slice es sp ∧ L.length = es.length) : L.length ≤ 140737488351232 := by
  rcases h with rfl | ⟨es, sp, rfl, he⟩
  · simp
  · have := sized_slice hsz (j := j) ht hd Try.underlying29
    rw [bytes5] at this
    simp only [reachBytes] at this
    omega
theorem reach_str {H : Type} {ts : List TypeId} {ds : List (DataW H)} {s : ByteArray} (j : Nat) (hsz : (DataW.weightsEach Try.prog ts ds).all (· ≤ reachBytes) = true) (ht : ts[j]? = some 9) (hd : ds[j]? = some (.lit (.string s.data.toList))) : s.size ≤ 140737488351232 := by
  have := sized_string hsz (j := j) ht hd
  simp only [reachBytes, Array.length_toList] at this
  exact this
theorem src_lt {w : World} {v : Value} {bs : List Nat} (h : Src w (fun _ => True) v bs) : Src w (fun k => k < w.heap.size) v bs := by
  rcases h with h | ⟨h0, b, off, c, h1, h2, h3, h4⟩
  · exact .inl h
  · exact .inr ⟨h0, b, off, c, h1, h2, by have := cell_lt (h4 0 h0); exact this, h4⟩
end Jt
end Go.Proofs.Ytcjfdebjgaohlaa

/- The document's test of names; a disk with at most one file of a name. -/
namespace Go.Proofs.Ytcjfdebjgaohlaa
open Go.RowKit Go.Maps Go.ChangeMaps Go.MapKept
namespace J6
open Jb Jm Jd Jw Jx Jn Je Jf Jg Jh Jk Jc Jl Jo Jq J1 J2 J3 J4

set_option maxRecDepth 100000 in
theorem name17 (w : World) (s : ByteArray) (hs : s.size ≤ 140737488355328) : Calls Try.prog 38 #[.string s] w fun e w' => e = .returned (.bool (isNm s)) ∧ w' = w := by
  obtain ⟨A, hA⟩ : ∃ A, A = isNm s := ⟨_, rfl⟩
  rw [← hA]
  have hq := fun (y : World) (k : Nat) (hk : k < s.size) => idx y s k hk
  have HQ := Lib.hid hq
  have HA := Lib.hid hA
  obtain ⟨n, hn⟩ : ∃ n, n = s.size := ⟨_, rfl⟩
  have hlen : ∀ (ty : TypeId) (y : World), (Builtin.len_ #[9] ty #[.string s]).run Try.prog y = .ok (.int .i64 (n : Nat)) y := fun ty y => by rw [hn]; exact run_len_string y 9 ty s Try.underlying9
  rw [← hn] at hs
  have HN := Lib.hid hn
  clear hA hq hn
  go_enter Try.func38, Try.ntmps38
  go_wp2_with fail
  go_loopw [3] (fun i wr => ∃ k, k ≤ n ∧ i = .int .i64 (k : Nat) ∧ (∀ j, j < k → good s j = true) ∧ wr = w) (fun i _ => n - (intOf i).toNat)
  case atStart => exact ⟨0, Nat.zero_le _, rfl, fun j hj => by omega, by first | rfl | trivial⟩
  case round =>
    obtain ⟨k, hk, rfl, hall, rfl⟩ := hrel
    have HALL := Lib.hid hall
    clear hall
    by_cases hkn : k < n
    · have hi := fun (y : World) => HQ.out y k (by rw [← HN.out]; exact hkn)
      obtain ⟨b, hb⟩ : ∃ b, b = by8 s k := ⟨_, rfl⟩
      have hbl := by8_lt s k
      rw [← hb] at hi hbl
      have HB := Lib.hid hb
      clear hb
      by_cases hf : 32 ≤ b ∧ b ≠ 127
      · obtain ⟨f1, f2⟩ := hf
        have HG : good s k = true := by unfold good; rw [← HB.out, decide_eq_true f1, decide_eq_true f2]; rfl
        have q1 : decide ((b : Int) < 32) = false := decide_eq_false (by omega)
        have q2 : ((b : Int) == 127) = false := by simp; omega
        go_wp2_with fail
        go_roundw
        case rel =>
          refine ⟨k + 1, by omega, by go_num, fun j hj => ?_, by first | rfl | trivial⟩
          by_cases e : j = k
          · rw [e]; exact HG
          · exact HALL.out j (by omega)
        case measure => simp [intOf]; omega
      · have e1 : A = false := by
          rw [HA.out, isNm]
          apply decide_eq_false
          rintro ⟨-, -, a⟩
          have := a k (by rw [← HN.out]; exact hkn)
          unfold good at this
          rw [← HB.out] at this
          simp at this
          exact hf this
        by_cases f1 : b < 32
        · have q1 : decide ((b : Int) < 32) = true := decide_eq_true (by omega)
          clear hf f1
          subst e1
          go_wp2_with fail
          go_ret
          trivial
        · have q1 : decide ((b : Int) < 32) = false := decide_eq_false (by omega)
          have q2 : ((b : Int) == 127) = true := by simp; omega
          clear hf f1
          subst e1
          go_wp2_with fail
          go_ret
          trivial
    · have ek : n = k := by omega
      subst ek
      have e1 : A = decide (1 ≤ n ∧ n ≤ 64) := by
        rw [HA.out, isNm]
        have b := HN.out
        by_cases h : 1 ≤ n ∧ n ≤ 64
        · rw [decide_eq_true h]
          exact decide_eq_true ⟨by omega, by omega, fun j hj => HALL.out j (by omega)⟩
        · rw [decide_eq_false h]
          exact decide_eq_false fun h' => h ⟨by omega, by omega⟩
      clear hkn
      by_cases h1 : 1 ≤ n
      · by_cases h2 : n ≤ 64
        · rw [decide_eq_true ⟨h1, h2⟩] at e1
          subst e1
          go_wp2_with fail
          go_ret
          first | trivial | exact ⟨rfl, rfl⟩ | (simp; omega) | (simp; omega)
        · rw [decide_eq_false (fun h => h2 h.2)] at e1
          subst e1
          go_wp2_with fail
          go_ret
          first | trivial | exact ⟨rfl, rfl⟩ | (simp; omega) | (simp; omega)
      · have h0 : n = 0 := by omega
        rw [decide_eq_false (fun h => h1 h.1)] at e1
        subst e1 h0
        go_wp2_with fail
        go_ret
        first | trivial | exact ⟨rfl, rfl⟩
/-- A disk with at most the file s. -/
def FnS (s : ByteArray) (o : Option (List Nat × Nat)) : FT := fun x => if x = s then o else none
def nsn (s : ByteArray) (o : Option (List Nat × Nat)) : List (List UInt8) := if o.isSome then [s.data.toList] else []
theorem nms (s : ByteArray) : nm s.data.toList = s := by unfold nm; simp
theorem namesn (s : ByteArray) (o : Option (List Nat × Nat)) : Names (FnS s o) (nsn s o) := by
  cases o with
  | none => exact ⟨by simp [nsn], fun x => by simp [nsn, FnS]⟩
  | some b =>
    refine ⟨by simp [nsn], fun x => ?_⟩
    simp only [nsn, FnS, Option.isSome_some, if_true, List.mem_singleton]
    constructor
    · rintro rfl; rw [nms, if_pos rfl]; simp
    · intro h
      by_cases e : nm x = s
      · exact nm_inj (e.trans (nms s).symm)
      · rw [if_neg e] at h; exact absurd rfl h
theorem totn (s : ByteArray) (o : Option (List Nat × Nat)) : tot (FnS s o) (nsn s o) = (o.getD ([], 0)).1.length := by
  cases o with
  | none => rfl
  | some b =>
    show (List.map _ [s.data.toList]).sum = _
    simp only [List.map_cons, List.map_nil, List.sum_cons, List.sum_nil, lenAt, nms]
    simp [FnS]
theorem nsn_sz {s : ByteArray} (hs : s.size ≤ 64) (o : Option (List Nat × Nat)) : (∀ x ∈ nsn s o, x.length ≤ 64) ∧ (nsn s o).length ≤ 1 := by
  cases o with
  | none => simp [nsn]
  | some b => simp [nsn]; exact hs
def Vn (s : ByteArray) (o : Option (List Nat × Nat)) (room : Nat) : Vw := ⟨FnS s o, (o.getD ([], 0)).1.length, room, false, 0, false⟩
theorem Vn_old (s : ByteArray) (o : Option (List Nat × Nat)) (room : Nat) : old (Vn s o room) s = o.getD ([], 0) := by unfold old Vn FnS; simp
theorem Vn_app {s : ByteArray} (hn : isNm s = true) (o : Option (List Nat × Nat)) (room : Nat) (bs : List Nat) (h : (o.getD ([], 0)).1.length + bs.length ≤ room) :
    appV (Vn s o room) s bs = Vn s (some ((o.getD ([], 0)).1 ++ bs, (o.getD ([], 0)).2)) room ∧ appE (Vn s o room) s bs.length = 0 := by
  have hl : (Vn s o room).lost = false := rfl
  have hf : bs.length ≤ Vw.free (Vn s o room) := by show bs.length ≤ room - (o.getD ([], 0)).1.length; omega
  constructor
  · unfold appV
    rw [if_neg (by simp [Vn]), if_pos hn, if_neg (by rw [hl]; simp), Vn_old, Nat.min_eq_left hf, List.take_length]
    refine vw_ext (fun x => ?_) ?_ rfl rfl rfl rfl
    · show (if x = s then _ else FnS s o x) = FnS s _ x
      unfold FnS
      by_cases e : x = s
      · rw [if_pos e, if_pos e]
      · rw [if_neg e, if_neg e, if_neg e]
    · show (o.getD ([], 0)).1.length + bs.length = _
      simp [Vn]
  · unfold appE
    rw [if_neg (by simp [Vn]), if_pos hn, if_neg (by rw [hl]; simp), if_neg (by omega)]
theorem Vn_bad {s : ByteArray} (hn : isNm s = false) (room : Nat) (bs : List Nat) : appV (Vn s none room) s bs = Vn s none room ∧ appE (Vn s none room) s bs.length = 1 := by
  constructor
  · unfold appV
    rw [if_neg (by simp [Vn]), if_neg (by rw [hn]; simp)]
  · unfold appE
    rw [if_neg (by simp [Vn]), if_neg (by rw [hn]; simp)]
theorem Sync_c (w : World) (S : Nat → Prop) (g N : Nat) (V : Vw) (h : DV w S g N V) (s : ByteArray) (hs : s.size ≤ 140737488355328) (bs : List Nat) (k : Nat) (hd : V.down = false) (hF : V.F s = some (bs, k)) (hl : V.lost = false) :
    Calls Try.prog 11 #[.pointer (some ⟨g, 0, none⟩), .string s] w fun e w' => e = .returned (.int .i64 0) ∧ DV w' (New S w w') g N { V.op with F := fun x => if x = s then some (bs, bs.length) else V.F x } ∧ Chg w w' S := by
  obtain ⟨d, h, rfl⟩ := h
  cases hf : d.F s with
  | none => simp [vw, hf] at hF
  | some f =>
    have e : ab f = (bs, k) := by simpa [vw, hf] using hF
    have e1 : f.bs = bs := congrArg Prod.fst e
    rw [← e1]
    refine (sync_on w S g N d h s hs f hd hf hl).mono ?_
    rintro e w' ⟨rfl, d', h1, h2, h3⟩
    exact ⟨rfl, ⟨d', h2, h1⟩, h3⟩
theorem Vn_sync (s : ByteArray) (bs : List Nat) (k room : Nat) : { (Vn s (some (bs, k)) room).op with F := fun x => if x = s then some (bs, bs.length) else (Vn s (some (bs, k)) room).F x } = Vn s (some (bs, bs.length)) room := by
  refine vw_ext (fun x => ?_) rfl rfl rfl rfl rfl
  show (if x = s then _ else FnS s _ x) = FnS s _ x
  unfold FnS
  by_cases e : x = s
  · rw [if_pos e, if_pos e]
  · rw [if_neg e, if_neg e, if_neg e]
/-- Behind the restart: of the loose bytes some have stayed. -/
theorem Vn_rest (s : ByteArray) (all : List Nat) (k room : Nat) (ch : List Nat) (hk : k ≤ all.length) :
    ∃ Z c, k ≤ Z ∧ Z ≤ all.length ∧ rsV (Vn s (some (all, k)) room) (rs ⟨FnS s (some (all, k)), all.length, ch⟩ (nsn s (some (all, k)))) = ⟨FnS s (some (all.take Z, c)), Z, room, false, 0, false⟩ := by
  have e0 : nsn s (some (all, k)) = [s.data.toList] := rfl
  rw [e0]
  have hF : FnS s (some (all, k)) (nm s.data.toList) = some (all, k) := by rw [nms]; simp [FnS]
  show ∃ Z c, k ≤ Z ∧ Z ≤ all.length ∧ rsV _ (stp ⟨FnS s (some (all, k)), all.length, ch⟩ s.data.toList) = _
  by_cases e : all.length = k
  · rw [stp_same (b := (all, k)) hF e]
    refine ⟨all.length, k, hk, Nat.le_refl _, ?_⟩
    rw [List.take_length]
    rfl
  · rw [stp_cut (b := (all, k)) hF e]
    have hl := stays_le (all, k) ch hk
    refine ⟨stays (all, k) ch, stays (all, k) ch, by unfold stays; exact Nat.le_add_right _ _, hl, ?_⟩
    refine vw_ext (fun x => ?_) ?_ rfl rfl rfl rfl
    · show upd _ _ _ x = FnS s _ x
      rw [nms]
      unfold upd FnS
      dsimp only
      by_cases e : x = s
      · rw [if_pos e, if_pos e]
      · rw [if_neg e, if_neg e, if_neg e]
    · show all.length - (all.length - stays (all, k) ch) = stays (all, k) ch
      have : stays (all, k) ch ≤ all.length := hl
      omega
end J6
end Go.Proofs.Ytcjfdebjgaohlaa

/- The document's disk in memory. -/
namespace Go.Proofs.Ytcjfdebjgaohlaa
open Go.RowKit Go.Maps Go.ChangeMaps Go.MapKept
namespace J9
open Jb Jm Jd Jw Jx Jn J1

/-- A file: its name, its bytes' slice; what they are; how many are synced. -/
structure En where
  name : ByteArray
  bv : Value
  bs : List Nat
  syn : Nat
def e0 : En := ⟨⟨#[]⟩, .slice none 0 0, [], 0⟩
def ec (e : En) : List Value := [.string e.name, e.bv, .int .i64 (e.syn : Nat)]
def ecs (L : List En) : List Value := L.flatMap ec
theorem ecs_app (L M : List En) : ecs (L ++ M) = ecs L ++ ecs M := by simp [ecs]
theorem ecs_len (L : List En) : (ecs L).length = L.length * 3 := by
  induction L with
  | nil => rfl
  | cons v r ih => simp only [ecs, List.flatMap_cons, List.length_append, List.length_cons] at *; rw [ih]; simp [ec]; omega
theorem ecs_get (L : List En) (i j : Nat) (hi : i < L.length) (hj : j < 3) : (ecs L)[i * 3 + j]? = (ec (L.getD i e0))[j]? := by
  induction L generalizing i with
  | nil => simp at hi
  | cons v r ih =>
    have e : ecs (v :: r) = ec v ++ ecs r := rfl
    have hl : (ec v).length = 3 := rfl
    rw [e]
    cases i with
    | zero => rw [List.getElem?_append_left (by omega)]; simp
    | succ i =>
      rw [List.getElem?_append_right (by omega), hl, show (i + 1) * 3 + j - 3 = i * 3 + j from by omega, ih i (by simpa using hi)]
      simp [List.getD_eq_getElem?_getD]
/-- The three cells of the file at the place o. -/
def EAt (w : World) (b o : Nat) (e : En) : Prop := w.cell? ⟨b, o, none⟩ = some (.string e.name) ∧ w.cell? ⟨b, o + 1, none⟩ = some e.bv ∧ w.cell? ⟨b, o + 2, none⟩ = some (.int .i64 (e.syn : Nat))
theorem EAt.of_block {w w' : World} {b o : Nat} {e : En} (h : EAt w b o e) (x : w'.heap[b]? = w.heap[b]?) : EAt w' b o e :=
  ⟨(World.cell?_of_block x).trans h.1, (World.cell?_of_block x).trans h.2.1, (World.cell?_of_block x).trans h.2.2⟩
theorem row_at {w : World} {B : Nat} {v : Value} {L : List En} (h : w.ownsRow B 65 3 v L.length (ecs L)) :
    (L = [] ∧ ∃ a c, v = .slice a 0 c) ∨ (∃ q c, v = .slice (some ⟨q, 0, none⟩) L.length c ∧ L.length ≤ c ∧ q < w.heap.size ∧ B ≤ q ∧ (∀ j, w.frozen? ⟨q, j, none⟩ = false) ∧ ∀ i, i < L.length → EAt w q (i * 3) (L.getD i e0)) := by
  obtain ⟨hl, ⟨rfl, h0⟩ | ⟨g, c, cur, rfl, hg, hh, hnc, hcm, hsz, htk⟩⟩ := h
  · exact .inl ⟨List.length_eq_zero_iff.1 h0, _, _, rfl⟩
  · have hgl : g < w.heap.size := by rw [Array.getElem?_eq_some_iff] at hh; exact hh.1
    have ho : w.ownsRow B 65 3 (.slice (some ⟨g, 0, none⟩) L.length c) L.length (ecs L) := ⟨hl, .inr ⟨g, c, cur, rfl, hg, hh, hnc, hcm, hsz, htk⟩⟩
    have key : ∀ i j u, i < L.length → j < 3 → (ec (L.getD i e0))[j]? = some u → w.cell? ⟨g, i * 3 + j, none⟩ = some u := by
      intro i j u hi hj hu
      have := ho.cells rfl (i * 3 + j) u (by rw [ecs_get L i j hi hj]; exact hu)
      unfold Addr.add at this
      split at this
      · rename_i e; rw [e] at *; exact this
      · simpa using this
    exact .inr ⟨g, c, rfl, hnc, hgl, hg, fun j => ho.frozenAt j, fun i hi => ⟨key i 0 _ hi (by decide) rfl, key i 1 _ hi (by decide) rfl, key i 2 _ hi (by decide) rfl⟩⟩
theorem row_of_block {w w' : World} {B n : Nat} {v : Value} {xs : List Value} (h : w.ownsRow B 65 3 v n xs) (f : ∀ k, v.ownBlock = some k → w'.heap[k]? = w.heap[k]?) : w'.ownsRow B 65 3 v n xs := by
  obtain ⟨a, ⟨b, e⟩ | ⟨g, c, cur, rfl, hg, hh, r⟩⟩ := h
  · exact ⟨a, .inl ⟨b, e⟩⟩
  · exact ⟨a, .inr ⟨g, c, cur, rfl, hg, (f g rfl).trans hh, r⟩⟩
/-- The document's disk: its row, its files, its numbers. -/
structure Dt where
  fvv : Value
  L : List En
  room : Nat
  lit : Bool
  fuse : Int
  down : Bool
structure Wc (w : World) (g : Nat) (t : Dt) : Prop where
  c0 : w.cell? ⟨g, 0, none⟩ = some t.fvv
  c1 : w.cell? ⟨g, 1, none⟩ = some (.int .i64 (t.room : Nat))
  c2 : w.cell? ⟨g, 2, none⟩ = some (.bool t.lit)
  c3 : w.cell? ⟨g, 3, none⟩ = some (.int .i64 t.fuse)
  c4 : w.cell? ⟨g, 4, none⟩ = some (.bool t.down)
  z : ∀ i, w.frozen? ⟨g, i, none⟩ = false
  br : t.room ≤ 9223372036854775807
  bf : -9223372036854775808 ≤ t.fuse ∧ t.fuse ≤ 9223372036854775807
  fz : t.lit = true → 0 ≤ t.fuse
theorem Wc.of_block {w w' : World} {g : Nat} {t : Dt} (h : Wc w g t) (e : w'.heap[g]? = w.heap[g]?) : Wc w' g t :=
  ⟨(World.cell?_of_block e).trans h.c0, (World.cell?_of_block e).trans h.c1, (World.cell?_of_block e).trans h.c2, (World.cell?_of_block e).trans h.c3, (World.cell?_of_block e).trans h.c4, fun i => (World.frozen?_of_block e).trans (h.z i), h.br, h.bf, h.fz⟩
theorem Wc.set0 {w : World} {g : Nat} {t : Dt} (h : Wc w g t) (x : Value) : Wc (w.setCell ⟨g, 0, none⟩ x) g { t with fvv := x } :=
  ⟨cell_same h.c0, (cell_other (by simp)).trans h.c1, (cell_other (by simp)).trans h.c2, (cell_other (by simp)).trans h.c3, (cell_other (by simp)).trans h.c4, fun i => by simpa using h.z i, h.br, h.bf, h.fz⟩
theorem Wc.set1 {w : World} {g : Nat} {t : Dt} (h : Wc w g t) (x : Nat) (hx : x ≤ 9223372036854775807) : Wc (w.setCell ⟨g, 1, none⟩ (.int .i64 (x : Nat))) g { t with room := x } :=
  ⟨(cell_other (by simp)).trans h.c0, cell_same h.c1, (cell_other (by simp)).trans h.c2, (cell_other (by simp)).trans h.c3, (cell_other (by simp)).trans h.c4, fun i => by simpa using h.z i, hx, h.bf, h.fz⟩
theorem Wc.set23 {w : World} {g : Nat} {t : Dt} (h : Wc w g t) (b : Bool) (x : Int) (hx : -9223372036854775808 ≤ x ∧ x ≤ 9223372036854775807) (hb : b = true → 0 ≤ x) : Wc ((w.setCell ⟨g, 2, none⟩ (.bool b)).setCell ⟨g, 3, none⟩ (.int .i64 x)) g { t with lit := b, fuse := x } :=
  ⟨((cell_other (by simp)).trans (cell_other (by simp))).trans h.c0, ((cell_other (by simp)).trans (cell_other (by simp))).trans h.c1, (cell_other (by simp)).trans (cell_same h.c2), cell_same (u := .int .i64 t.fuse) ((cell_other (by simp)).trans h.c3), ((cell_other (by simp)).trans (cell_other (by simp))).trans h.c4, fun i => by simpa using h.z i, h.br, hx, hb⟩
theorem Wc.set3 {w : World} {g : Nat} {t : Dt} (h : Wc w g t) (x : Int) (hx : -9223372036854775808 ≤ x ∧ x ≤ 9223372036854775807) (hb : t.lit = true → 0 ≤ x) : Wc (w.setCell ⟨g, 3, none⟩ (.int .i64 x)) g { t with fuse := x } :=
  ⟨(cell_other (by simp)).trans h.c0, (cell_other (by simp)).trans h.c1, (cell_other (by simp)).trans h.c2, cell_same h.c3, (cell_other (by simp)).trans h.c4, fun i => by simpa using h.z i, h.br, hx, hb⟩
theorem Wc.set4 {w : World} {g : Nat} {t : Dt} (h : Wc w g t) (b : Bool) : Wc (w.setCell ⟨g, 4, none⟩ (.bool b)) g { t with down := b } :=
  ⟨(cell_other (by simp)).trans h.c0, (cell_other (by simp)).trans h.c1, (cell_other (by simp)).trans h.c2, (cell_other (by simp)).trans h.c3, cell_same h.c4, fun i => by simpa using h.z i, h.br, h.bf, h.fz⟩
/-- The document's disk at block g, its blocks in T. -/
structure Wk (w : World) (T : Nat → Prop) (g : Nat) (t : Dt) : Prop where
  cs : Wc w g t
  tg : T g
  lt : ∀ k, T k → k < w.heap.size
  row : w.ownsRow 0 65 3 t.fvv t.L.length (ecs t.L)
  rb : ∀ k, t.fvv.ownBlock = some k → T k ∧ k ≠ g
  ent : ∀ e ∈ t.L, Src w (fun k => T k ∧ k ≠ g ∧ t.fvv.ownBlock ≠ some k) e.bv e.bs ∧ (∀ c, e.bv = .slice none e.bs.length c → c = 0) ∧ (∀ x ∈ e.bs, x < 256) ∧ e.syn ≤ e.bs.length
theorem Wk.move {w w' : World} {T : Nat → Prop} {g : Nat} {t : Dt} (h : Wk w T g t) (hs : w.heap.size ≤ w'.heap.size) (e : ∀ k, T k → w'.heap[k]? = w.heap[k]?) : Wk w' T g t :=
  ⟨h.cs.of_block (e g h.tg), h.tg, fun k hk => Nat.lt_of_lt_of_le (h.lt k hk) hs, row_of_block h.row (fun k hk => e k (h.rb k hk).1), h.rb, fun x hx => by
    obtain ⟨a, r⟩ := h.ent x hx
    exact ⟨a.move fun k hk _ => e k hk.1, r⟩⟩
theorem Wk.below {w w' : World} {T : Nat → Prop} {g B : Nat} {t : Dt} (h : Wk w T g t) (b : Below B w w') (hB : w.heap.size ≤ B) : Wk w' T g t :=
  h.move b.size fun k hk => b.block k (Nat.lt_of_lt_of_le (h.lt k hk) hB)
theorem Wk.set {w : World} {T T' : Nat → Prop} {g : Nat} {t : Dt} (h : Wk w T g t) (f : ∀ k, T k → T' k) (hl : ∀ k, T' k → k < w.heap.size) : Wk w T' g t :=
  ⟨h.cs, f g h.tg, hl, h.row, fun k hk => ⟨f k (h.rb k hk).1, (h.rb k hk).2⟩, fun x hx => by
    obtain ⟨a, r⟩ := h.ent x hx
    exact ⟨a.imp fun k hk => ⟨f k hk.1, hk.2⟩, r⟩⟩
/-- The numbers alone have turned. -/
theorem Wk.nums {w w' : World} {T : Nat → Prop} {g : Nat} {t t' : Dt} (h : Wk w T g t) (c : Chg w w' (fun k => k = g)) (hc : Wc w' g t') (e1 : t'.fvv = t.fvv) (e2 : t'.L = t.L) : Wk w' T g t' := by
  have hb : ∀ k, T k → k ≠ g → w'.heap[k]? = w.heap[k]? := fun k hk hn => c.block k (h.lt k hk) hn
  refine ⟨hc, h.tg, fun k hk => Nat.lt_of_lt_of_le (h.lt k hk) c.size, ?_, ?_, ?_⟩
  · rw [e1, e2]; exact row_of_block h.row (fun k hk => hb k (h.rb k hk).1 (h.rb k hk).2)
  · rw [e1]; exact h.rb
  · rw [e1, e2]
    intro x hx
    obtain ⟨a, r⟩ := h.ent x hx
    exact ⟨a.move fun k hk _ => hb k hk.1 hk.2.1, r⟩
end J9
end Go.Proofs.Ytcjfdebjgaohlaa
