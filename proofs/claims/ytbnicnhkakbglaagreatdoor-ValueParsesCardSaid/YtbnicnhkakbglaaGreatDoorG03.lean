import Derived.Test.YtbnicnhkakbglaaGreatDoorRows
import Derived.WalkKit
import Derived.ProofKit
import Derived.OpenShut
import Derived.Handy
import Derived.BigQuiet
import Derived.Deep.QuietTactic
import Derived.WalkLawsBesides
import Derived.Lib.Hide
import Derived.LoopTactic
import Derived.IntWalk
import Derived.Laws.BitsAllLaws
import Derived.Laws.AppendOwnNone
import Derived.OwnWalk
import Derived.Laws.OwnMore
import Derived.Lib.SmallJoins
import Derived.Deep.DeepCutAuto
import Derived.Deep.RegionLaw
import Derived.Maps.AppendAt
import Derived.Maps.OwnSet
import Derived.Laws.BytesArg
import Derived.Laws.BytesString
import Derived.Laws.IdiomStrings
import Derived.ShutString
import Derived.ChangeOld
import Derived.Below
import Derived.SizedLaws

/- Bytes in memory, what the walks share. -/
namespace Go.Proofs.YtbnicnhkakbglaaGreatDoor
open Go.RowKit
namespace Jb
def g (b : List Nat) (i : Nat) : Nat := b.getD i 0
theorem g_lt {b : List Nat} (h : ∀ x ∈ b, x < 256) (i : Nat) : g b i < 256 := by
  unfold g
  by_cases hi : i < b.length
  · rw [List.getD_eq_getElem?_getD, List.getElem?_eq_getElem hi]; exact h _ (List.getElem_mem hi)
  · rw [List.getD_eq_getElem?_getD, List.getElem?_eq_none (by omega)]; decide

/-- The bytes as cells. -/
def u8s (bs : List Nat) : List Value := bs.map fun b => .int .u8 (b : Nat)
theorem u8s_len (bs : List Nat) : (u8s bs).length = bs.length := by simp [u8s]
theorem u8s_snoc (bs : List Nat) (b : Nat) : u8s (bs ++ [b]) = u8s bs ++ [.int .u8 (b : Nat)] := by simp [u8s]
theorem u8s_app (bs cs : List Nat) : u8s (bs ++ cs) = u8s bs ++ u8s cs := by simp [u8s]
theorem u8s_one (bs : List Nat) : ∀ u ∈ u8s bs, u.oneCell' = true := fun u hu => by simp [u8s] at hu; obtain ⟨x, _, rfl⟩ := hu; rfl
theorem u8s_get (bs : List Nat) (j : Nat) (hj : j < bs.length) : (u8s bs)[j]? = some (.int .u8 (bs.getD j 0 : Nat)) := by
  simp [u8s, List.getD_eq_getElem?_getD, hj]
theorem info5 : (Tryz.prog.info? 5).map (fun i => (i.zero, i.size, i.bytes)) = some (some (.int .u8 0), 1, 1) := by kernel_rfl
theorem info3 : (Tryz.prog.info? 3).map (fun i => (i.zero, i.size, i.bytes)) = some (some (.int .i64 0), 1, 8) := by kernel_rfl
theorem ret_int {k : IntKind} {a b : Int} (h : a = b) : Ending.returned (.int k a) = .returned (.int k b) := by rw [h]
theorem cell_lt {w : World} {a : Addr} {v : Value} (h : w.cell? a = some v) : a.block < w.heap.size := by
  unfold World.cell? at h
  by_cases hl : a.block < w.heap.size
  · exact hl
  · rw [Array.getElem?_eq_none (by omega)] at h; simp at h
theorem cell_other {w : World} {a b : Addr} {v : Value} (h : a ≠ b) : (w.setCell a v).cell? b = w.cell? b := by apply World.cell?_setCell_other; exact h
theorem cell_same {w : World} {a : Addr} {u v : Value} (h : w.cell? a = some u) : (w.setCell a v).cell? a = some v := by apply World.cell?_setCell_same; exact h

/-- A slice of these bytes, in a block of which R holds. -/
def Src (w : World) (R : Nat → Prop) (s : Value) (bs : List Nat) : Prop :=
  (bs = [] ∧ ∃ a c, s = .slice a 0 c) ∨ (0 < bs.length ∧ ∃ b off c, s = .slice (some ⟨b, off, none⟩) bs.length c ∧ bs.length ≤ c ∧ R b ∧ ∀ i, i < bs.length → w.cell? ⟨b, off + i, none⟩ = some (.int .u8 (g bs i : Nat)))

theorem Src.forms {w : World} {R : Nat → Prop} {s : Value} {bs : List Nat} (h : Src w R s bs) : ∃ a c, s = .slice a bs.length c := by
  rcases h with ⟨rfl, a, c, rfl⟩ | ⟨_, b, off, c, rfl, _⟩
  · exact ⟨a, c, rfl⟩
  · exact ⟨_, _, rfl⟩
theorem Src.imp {w : World} {R R' : Nat → Prop} {s : Value} {bs : List Nat} (h : Src w R s bs) (f : ∀ b, R b → R' b) : Src w R' s bs := by
  rcases h with h | ⟨h0, b, off, c, h1, h2, h3, h4⟩
  · exact .inl h
  · exact .inr ⟨h0, b, off, c, h1, h2, f b h3, h4⟩
theorem Src.move {w w' : World} {R : Nat → Prop} {s : Value} {bs : List Nat} (h : Src w R s bs) (f : ∀ b, R b → b < w.heap.size → w'.heap[b]? = w.heap[b]?) : Src w' R s bs := by
  rcases h with h | ⟨h0, b, off, c, h1, h2, h3, h4⟩
  · exact .inl h
  · exact .inr ⟨h0, b, off, c, h1, h2, h3, fun i hi => (World.cell?_of_block (f b h3 (by have := cell_lt (h4 i hi); exact this))).trans (h4 i hi)⟩
theorem Src.below {w w' : World} {R : Nat → Prop} {B : Nat} {s : Value} {bs : List Nat} (h : Src w R s bs) (b : Below B w w') (hB : ∀ k, R k → k < B) : Src w' R s bs := h.move fun k hk _ => b.block k (hB k hk)
theorem Src.drewN {w : World} {R : Nat → Prop} {s : Value} {bs : List Nat} (h : Src w R s bs) (n : Nat) : Src (w.drewN n) R s bs := h
theorem src_own {w : World} {B : Nat} {v : Value} {bs : List Nat} (h : w.ownsRow B 5 1 v bs.length (u8s bs)) : Src w (fun b => B ≤ b ∧ v.ownBlock = some b) v bs := by
  by_cases h0 : bs.length = 0
  · obtain rfl := List.length_eq_zero_iff.1 h0
    rcases Go.Joins.ownsRow_forms h with ⟨rfl, _⟩ | ⟨q, c, rfl⟩
    · exact .inl ⟨rfl, _, _, rfl⟩
    · exact .inl ⟨rfl, _, _, rfl⟩
  · obtain ⟨_, ⟨_, e⟩ | ⟨g, c, cur, rfl, hg, hh, hnc, hcm, hsz, htk⟩⟩ := h
    · omega
    · refine .inr ⟨by omega, g, 0, c, rfl, hnc, ⟨hg, rfl⟩, fun i hi => ?_⟩
      have h' : w.ownsRow B 5 1 (.slice (some ⟨g, 0, none⟩) bs.length c) bs.length (u8s bs) := ⟨by rw [u8s_len]; omega, .inr ⟨g, c, cur, rfl, hg, hh, hnc, hcm, hsz, htk⟩⟩
      rw [Nat.zero_add, h'.cellAt i (by omega)]
      exact u8s_get bs i hi

/-- The string of bytes. -/
def str (bs : List Nat) : ByteArray := strOfNums (bs.map fun b : Nat => (b : Int))
theorem str_inj {cs bs : List Nat} (ha : ∀ x ∈ cs, x < 256) (hb : ∀ x ∈ bs, x < 256) (h : str cs = str bs) : cs = bs := by
  have e : (str cs).data.toList = (str bs).data.toList := by rw [h]
  unfold str at e
  rw [strOfNums_data, strOfNums_data] at e
  simp only [List.map_map] at e
  have hl : cs.length = bs.length := by simpa using congrArg List.length e
  apply List.ext_getElem hl
  intro j h1 h2
  have ej : (UInt8.ofNat cs[j]) = UInt8.ofNat bs[j] := by
    have := congrArg (fun l => l[j]?) e
    simpa [h1, h2] using this
  have l1 := ha _ (List.getElem_mem h1)
  have l2 := hb _ (List.getElem_mem h2)
  have := congrArg UInt8.toNat ej
  simp only [UInt8.toNat_ofNat'] at this
  omega
theorem toList_eq {S T : ByteArray} (h : S = T) : (S.toList == T.toList) = true := by rw [h]; simp
theorem conv_cells (w : World) (src : TypeId) (hs : Tryz.prog.underlying src = some (.slice 5)) (b off c : Nat) (bs : List Nat) (h : ∀ i, i < bs.length → w.cell? ⟨b, off + i, none⟩ = some (.int .u8 (g bs i : Nat))) :
    (convert src 9 (.slice (some ⟨b, off, none⟩) bs.length c)).run Tryz.prog w = .ok (.string (str bs)) w := by
  refine run_convert_bytes_arg w src 5 hs Tryz.underlying5 b off bs.length c _ (by simp) (fun i hi => ?_) 9 Tryz.underlying9
  rw [h i hi]
  simp [g, List.getD_eq_getElem?_getD, hi]
theorem conv_src {w : World} {R : Nat → Prop} {s : Value} {bs : List Nat} (h : Src w R s bs) : (convert 58 9 s).run Tryz.prog w = .ok (.string (str bs)) w := by
  rcases h with ⟨rfl, a, c, rfl⟩ | ⟨h0, b, off, c, rfl, hl, _, hc⟩
  · cases a with
    | none => exact run_convert_bytes_nil w 58 5 Tryz.underlying58 Tryz.underlying5 0 c 9 Tryz.underlying9
    | some a =>
      rw [run_convert_bytes_string w 58 9 5 _ 0 c Tryz.underlying58 Tryz.underlying5 Tryz.underlying9]
      rw [run_bytesToString w a 0 c [] (by simpa using run_loadCells_list (P := Tryz.prog) w a [] (by simp))]
      rfl
  · exact conv_cells w 58 Tryz.underlying58 b off c bs hc
theorem conv_own {w : World} {B : Nat} {v : Value} {bs : List Nat} (h : w.ownsRow B 5 1 v bs.length (u8s bs)) : (convert 58 9 v).run Tryz.prog w = .ok (.string (str bs)) w := conv_src (src_own h)

/-! What has turned: what s owns; blocks have come. -/
def Own (w : World) (s s' : Value) : Prop := s'.ownBlock = s.ownBlock ∨ ∃ h, s'.ownBlock = some h ∧ w.heap.size ≤ h
theorem Own.refl (w : World) (s : Value) : Own w s s := .inl rfl
theorem Own.trans {a b : World} {s t u : Value} (h : Own a s t) (k : Own b t u) (hsz : a.heap.size ≤ b.heap.size) : Own a s u := by
  rcases k with k | ⟨j, k, hj⟩
  · rcases h with h | ⟨i, h, hi⟩
    · exact .inl (k.trans h)
    · exact .inr ⟨i, k.trans h, hi⟩
  · exact .inr ⟨j, k, by omega⟩
/-- Only what s owns has turned, and it is s' now that owns it, or what is new. -/
def Gr (w w' : World) (s s' : Value) : Prop := w.grownBy w' s.ownBlock ∧ Own w s s'
theorem Gr.refl (w : World) (s : Value) : Gr w w s s := ⟨World.grownBy.refl _ _, .refl _ _⟩
theorem Gr.trans {a b c : World} {s t u : Value} (h : Gr a b s t) (k : Gr b c t u) : Gr a c s u := by
  obtain ⟨h, o⟩ := h
  obtain ⟨k, p⟩ := k
  refine ⟨⟨k.os.trans h.os, k.tape.trans h.tape, k.output.trans h.output, Nat.le_trans h.size k.size, fun i hi hs => ?_⟩, o.trans p h.size⟩
  rw [k.block i (Nat.lt_of_lt_of_le hi h.size) ?_, h.block i hi hs]
  rcases o with o | ⟨j, o, hj⟩
  · rw [o]; exact hs
  · rw [o]; intro e; cases e; omega
theorem Gr.block {w w' : World} {s s' : Value} (h : Gr w w' s s') {k : Nat} (hk : k < w.heap.size) (hs : s.ownBlock ≠ some k) : w'.heap[k]? = w.heap[k]? := h.1.block k hk (fun e => hs e.symm)
theorem Gr.below {w w' : World} {s s' : Value} {B : Nat} (h : Gr w w' s s') (hB : B ≤ w.heap.size) (hs : ∀ k, s.ownBlock = some k → B ≤ k) : Below B w w' :=
  ⟨h.1.os, h.1.tape, h.1.output, h.1.size, fun k hk => h.block (by omega) (fun e => by have := hs k e; omega)⟩
theorem Gr.size {w w' : World} {s s' : Value} (h : Gr w w' s s') : w.heap.size ≤ w'.heap.size := h.1.size
/-- What an append leaves. -/
theorem gr_at {w w' : World} {s s' : Value} (h : w.grownBy w' s.ownBlock) (hat : s'.ownBlock = s.ownBlock ∨ s'.ownBlock = some w.heap.size) : Gr w w' s s' :=
  ⟨h, hat.imp id fun e => ⟨_, e, Nat.le_refl _⟩⟩
theorem gr_alloc {w w' : World} {s s' : Value} (o : Obj) (h : Gr (w.alloc o) w' s s') : Gr w w' s s' :=
  (show Gr w (w.alloc o) s s from ⟨World.grownBy_alloc w o _, .refl _ _⟩).trans h
theorem own_below {w w' : World} {B n : Nat} {e : TypeId} {v : Value} {xs : List Value} (h : w.ownsRow B e 1 v n xs) (b : Below w.heap.size w w') : w'.ownsRow B e 1 v n xs :=
  h.kept (row := none) ⟨b.os, b.tape, b.output, b.size, fun k hk _ => b.block k hk⟩ (by
    by_cases e : v.ownBlock = none
    · exact .inl e
    · exact .inr e)
def lenOf : Value → Nat
  | .slice _ n _ => n
  | _ => 0
end Jb
end Go.Proofs.YtbnicnhkakbglaaGreatDoor

/- What opens the laws' arguments. -/
namespace Go.Proofs.YtbnicnhkakbglaaGreatDoor
open Go.ChangeShapes Go.WideShapes Go.ChangeAt Go.RowKit
namespace Jt
open Jb

theorem own : ownKnob Tryz.prog.godebug = none := by kernel_rfl
theorem laidOut : laidOutB Tryz.prog = true := by kernel_rfl
theorem bnd_u8 {n : Int} (h : (Lit.int .u8 n).wf = true) : 0 ≤ n ∧ n < 256 := by
  simp only [Lit.wf, Bool.and_eq_true, decide_eq_true_eq] at h
  have h1 : IntKind.u8.min = 0 := by decide
  have h2 : IntKind.u8.max = 255 := by decide
  omega
theorem bnd_u16 {n : Int} (h : (Lit.int .u16 n).wf = true) : 0 ≤ n ∧ n < 65536 := by
  simp only [Lit.wf, Bool.and_eq_true, decide_eq_true_eq] at h
  have h1 : IntKind.u16.min = 0 := by decide
  have h2 : IntKind.u16.max = 65535 := by decide
  omega
theorem reach_str {H : Type} {ts : List TypeId} {ds : List (DataW H)} {s : ByteArray} (j : Nat) (hsz : (DataW.weightsEach Tryz.prog ts ds).all (· ≤ reachBytes) = true) (ht : ts[j]? = some 9) (hd : ds[j]? = some (.lit (.string s.data.toList))) : s.size ≤ 140737488351232 := by
  have := sized_string hsz (j := j) ht hd
  simp only [reachBytes, Array.length_toList] at this
  exact this
end Jt
end Go.Proofs.YtbnicnhkakbglaaGreatDoor

/- Texts of series, plain mathematics. -/
namespace Go.Proofs.YtbnicnhkakbglaaGreatDoor
namespace Sa

def bl (S : ByteArray) : List UInt8 := S.data.toList
def ba (l : List UInt8) : ByteArray := ⟨l.toArray⟩
theorem ba_bl (S : ByteArray) : ba (bl S) = S := by cases S; simp [ba, bl]
theorem bl_ba (l : List UInt8) : bl (ba l) = l := by simp [ba, bl]
theorem bl_len (S : ByteArray) : (bl S).length = S.size := by cases S; simp [bl]; rfl
theorem ba_size (l : List UInt8) : (ba l).size = l.length := by rw [← bl_len, bl_ba]
theorem bl_inj {S T : ByteArray} (h : bl S = bl T) : S = T := by rw [← ba_bl S, h, ba_bl]
theorem ba_inj {l m : List UInt8} (h : ba l = ba m) : l = m := by rw [← bl_ba l, h, bl_ba]

/-- A byte that has a backslash ahead. -/
def spn (n : Nat) : Bool := n == 44 || n == 61 || n == 32 || n == 35 || n == 92
def sp (c : UInt8) : Bool := spn c.toNat
/-- A name's text. -/
def esc : List UInt8 → List UInt8
  | [] => []
  | c :: r => if sp c then 92 :: c :: esc r else c :: esc r
theorem esc_app (a b : List UInt8) : esc (a ++ b) = esc a ++ esc b := by
  induction a with
  | nil => rfl
  | cons c r ih => simp only [List.cons_append, esc]; split <;> simp [ih]
theorem esc_one (c : UInt8) : esc [c] = if sp c then [92, c] else [c] := by simp [esc]
theorem esc_len (a : List UInt8) : a.length ≤ (esc a).length ∧ (esc a).length ≤ 2 * a.length := by
  induction a with
  | nil => exact ⟨Nat.le_refl _, Nat.le_refl _⟩
  | cons c r ih => simp only [esc]; split <;> simp only [List.length_cons] <;> omega
/-- What no name goes on with. -/
def Stops (r : List UInt8) : Prop := r = [] ∨ ∃ c q, r = c :: q ∧ sp c = true ∧ c.toNat ≠ 92
/-- The name that a text begins with, and what is behind it. -/
def prt (t : List UInt8) : Option (List UInt8 × List UInt8) :=
  match t with
  | [] => some ([], [])
  | c :: r =>
    if c.toNat = 92 then
      match r with
      | [] => none
      | d :: q => if sp d then (prt q).map fun x => (d :: x.1, x.2) else none
    else if sp c then some ([], c :: r) else (prt r).map fun x => (c :: x.1, x.2)
termination_by t.length
theorem part_nil : prt [] = some ([], []) := by rw [prt]
theorem part_end (c : UInt8) (hc : c.toNat = 92) : prt [c] = none := by rw [prt]; simp [hc]
theorem part_esc2 (c d : UInt8) (q : List UInt8) (hc : c.toNat = 92) (hd : sp d = true) : prt (c :: d :: q) = (prt q).map fun x => (d :: x.1, x.2) := by rw [prt]; simp [hc, hd]
theorem part_bad (c d : UInt8) (q : List UInt8) (hc : c.toNat = 92) (hd : sp d = false) : prt (c :: d :: q) = none := by rw [prt]; simp [hc, hd]
theorem part_stop (c : UInt8) (r : List UInt8) (hc : c.toNat ≠ 92) (hs : sp c = true) : prt (c :: r) = some ([], c :: r) := by rw [prt.eq_def]; simp [hc, hs]
theorem part_plain (c : UInt8) (r : List UInt8) (hs : sp c = false) : prt (c :: r) = (prt r).map fun x => (c :: x.1, x.2) := by
  have hc : c.toNat ≠ 92 := by
    intro e
    simp [sp, spn, e] at hs
  rw [prt.eq_def]; simp [hc, hs]
theorem sp92 : sp 92 = true := rfl
theorem part_stops {r : List UInt8} (h : Stops r) : prt r = some ([], r) := by
  rcases h with rfl | ⟨c, q, rfl, h1, h2⟩
  · exact part_nil
  · exact part_stop c q h2 h1
theorem part_of (n : List UInt8) : ∀ {r : List UInt8}, Stops r → prt (esc n ++ r) = some (n, r) := by
  induction n with
  | nil => intro r h; exact part_stops h
  | cons c m ih =>
    intro r h
    simp only [esc]
    by_cases hs : sp c = true
    · rw [if_pos hs, List.cons_append, List.cons_append, part_esc2 _ _ _ rfl hs, ih h]; rfl
    · have hs' : sp c = false := by simpa using hs
      rw [if_neg hs, List.cons_append, part_plain _ _ hs', ih h]; rfl
theorem part_some (k : Nat) : ∀ (t : List UInt8) (n r : List UInt8), t.length ≤ k → prt t = some (n, r) → t = esc n ++ r ∧ Stops r := by
  induction k with
  | zero =>
    intro t n r hk h
    obtain rfl := List.length_eq_zero_iff.1 (Nat.le_zero.1 hk)
    rw [part_nil] at h
    cases h
    exact ⟨rfl, .inl rfl⟩
  | succ k ih =>
    intro t n r hk h
    match t with
    | [] =>
      rw [part_nil] at h
      cases h
      exact ⟨rfl, .inl rfl⟩
    | c :: t' =>
      by_cases hs : sp c = true
      · by_cases hc : c.toNat = 92
        · match t' with
          | [] => rw [part_end c hc] at h; cases h
          | d :: q =>
            by_cases hd : sp d = true
            · rw [part_esc2 c d q hc hd] at h
              obtain ⟨⟨n', r'⟩, hp, e⟩ := Option.map_eq_some_iff.1 h
              cases e
              obtain ⟨e1, e2⟩ := ih q n' r' (by simp only [List.length_cons] at hk; omega) hp
              refine ⟨?_, e2⟩
              have ec : c = 92 := UInt8.toNat_inj.1 hc
              simp [esc, hd, e1, ec]
            · rw [part_bad c d q hc (by simpa using hd)] at h; cases h
        · rw [part_stop c t' hc hs] at h
          cases h
          exact ⟨rfl, .inr ⟨c, t', rfl, hs, hc⟩⟩
      · have hs' : sp c = false := by simpa using hs
        rw [part_plain c t' hs'] at h
        obtain ⟨⟨n', r'⟩, hp, e⟩ := Option.map_eq_some_iff.1 h
        cases e
        obtain ⟨e1, e2⟩ := ih t' n' r' (by simp only [List.length_cons] at hk; omega) hp
        exact ⟨by simp [esc, hs', e1], e2⟩
theorem part_is {t n r : List UInt8} (h : prt t = some (n, r)) : t = esc n ++ r ∧ Stops r := part_some t.length t n r (Nat.le_refl _) h
theorem part_len {t n r : List UInt8} (h : prt t = some (n, r)) : n.length + r.length ≤ t.length := by
  obtain ⟨e, _⟩ := part_is h
  have := (esc_len n).1
  rw [e, List.length_append]
  omega
/-- A tag. -/
abbrev Tg := ByteArray × ByteArray
/-- A series. -/
abbrev Sr := ByteArray × List Tg
def tagt (x : Tg) : List UInt8 := 44 :: (esc (bl x.1) ++ 61 :: esc (bl x.2))
def tagst (L : List Tg) : List UInt8 := (L.map tagt).flatten
/-- A series' text. -/
def txt (s : Sr) : List UInt8 := esc (bl s.1) ++ tagst s.2
theorem tagst_snoc (L : List Tg) (x : Tg) : tagst (L ++ [x]) = tagst L ++ tagt x := by simp [tagst]
theorem tagst_cons (x : Tg) (L : List Tg) : tagst (x :: L) = tagt x ++ tagst L := by simp [tagst]
theorem tagst_stops (L : List Tg) : Stops (tagst L) := by
  match L with
  | [] => exact .inl rfl
  | x :: r => exact .inr ⟨44, _, by rw [tagst_cons, tagt]; rfl, rfl, by decide⟩
/-- One tag off a text that begins with its comma. -/
def tag1 (t : List UInt8) : Option (Tg × List UInt8) :=
  match t with
  | [] => none
  | c :: r => if c.toNat = 44 then match prt r with
    | none => none
    | some (_, []) => none
    | some (k, d :: q) => if d.toNat = 61 then (prt q).map fun x => ((ba k, ba x.1), x.2) else none
  else none
theorem tag1_of (x : Tg) {r : List UInt8} (h : Stops r) : tag1 (tagt x ++ r) = some (x, r) := by
  have e : tagt x ++ r = 44 :: (esc (bl x.1) ++ 61 :: (esc (bl x.2) ++ r)) := by simp [tagt]
  have h61 : Stops (61 :: (esc (bl x.2) ++ r)) := .inr ⟨61, _, rfl, rfl, by decide⟩
  rw [e, tag1, if_pos (by rfl), part_of _ h61]
  simp only
  rw [if_pos (by rfl), part_of _ h]
  simp [ba_bl]
theorem tag1_is {t r : List UInt8} {x : Tg} (h : tag1 t = some (x, r)) : t = tagt x ++ r ∧ Stops r := by
  match t with
  | [] => cases h
  | c :: q =>
    rw [tag1] at h
    split at h
    case isFalse => cases h
    case isTrue hc =>
      split at h
      · cases h
      · cases h
      · rename_i k d q2 hp
        split at h
        case isFalse => cases h
        case isTrue hd =>
          obtain ⟨⟨v, r'⟩, hv, e⟩ := Option.map_eq_some_iff.1 h
          cases e
          obtain ⟨e1, _⟩ := part_is hp
          obtain ⟨e2, e3⟩ := part_is hv
          refine ⟨?_, e3⟩
          have ec : c = 44 := UInt8.toNat_inj.1 hc
          have ed : d = 61 := UInt8.toNat_inj.1 hd
          simp [tagt, bl_ba, e1, e2, ec, ed]
theorem tag1_len {t r : List UInt8} {x : Tg} (h : tag1 t = some (x, r)) : r.length + 2 ≤ t.length := by
  obtain ⟨e, _⟩ := tag1_is h
  rw [e]
  simp only [tagt, List.length_append, List.length_cons]
  omega
/-- All tags of a text. -/
def tags : Nat → List UInt8 → Option (List Tg)
  | _, [] => some []
  | 0, _ :: _ => none
  | n + 1, c :: r => match tag1 (c :: r) with
    | none => none
    | some (x, q) => (tags n q).map (x :: ·)
theorem tags_nil (n : Nat) : tags n [] = some [] := by cases n <;> rfl
theorem tags_more (n m : Nat) : ∀ (t : List UInt8), t.length ≤ n → t.length ≤ m → tags n t = tags m t := by
  induction n generalizing m with
  | zero =>
    intro t h1 _
    obtain rfl := List.length_eq_zero_iff.1 (Nat.le_zero.1 h1)
    rw [tags_nil, tags_nil]
  | succ n ih =>
    intro t h1 h2
    match t, m with
    | [], _ => rw [tags_nil, tags_nil]
    | c :: r, 0 => simp at h2
    | c :: r, m + 1 =>
      simp only [tags]
      match e : tag1 (c :: r) with
      | none => rfl
      | some (x, q) =>
        have := tag1_len e
        simp only [List.length_cons] at h1 h2 this
        simp only
        rw [ih m q (by omega) (by omega)]
/-- The tags of a text. -/
def tgs (t : List UInt8) : Option (List Tg) := tags t.length t
theorem tgs_nil : tgs [] = some [] := rfl
theorem tgs_none {t : List UInt8} (h0 : t ≠ []) (h : tag1 t = none) : tgs t = none := by
  match t with
  | [] => exact absurd rfl h0
  | c :: r => simp only [tgs, List.length_cons, tags, h]
theorem tgs_some {t q : List UInt8} {x : Tg} (h : tag1 t = some (x, q)) : tgs t = (tgs q).map (x :: ·) := by
  match t with
  | [] => cases h
  | c :: r =>
    have := tag1_len h
    simp only [List.length_cons] at this
    simp only [tgs, List.length_cons, tags, h]
    rw [tags_more r.length q.length q (by omega) (Nat.le_refl _)]
theorem tgs_of (L : List Tg) : tgs (tagst L) = some L := by
  induction L with
  | nil => rfl
  | cons x r ih => rw [tagst_cons, tgs_some (tag1_of x (tagst_stops r)), ih]; rfl
theorem tags_is (n : Nat) : ∀ (t : List UInt8) (L : List Tg), tags n t = some L → t = tagst L := by
  induction n with
  | zero =>
    intro t L h
    match t with
    | [] => rw [tags_nil] at h; cases h; rfl
    | c :: r => cases h
  | succ n ih =>
    intro t L h
    match t with
    | [] => rw [tags_nil] at h; cases h; rfl
    | c :: r =>
      simp only [tags] at h
      match e : tag1 (c :: r) with
      | none => rw [e] at h; cases h
      | some (x, q) =>
        rw [e] at h
        obtain ⟨M, hM, e2⟩ := Option.map_eq_some_iff.1 h
        subst e2
        rw [tagst_cons, ← ih q M hM]
        exact (tag1_is e).1
theorem tgs_is {t : List UInt8} {L : List Tg} (h : tgs t = some L) : t = tagst L := tags_is _ t L h
/-- The series of a text, whatever its names are. -/
def rd (t : List UInt8) : Option Sr :=
  match prt t with
  | none => none
  | some (n, r) => (tgs r).map fun L => (ba n, L)
theorem rd_of (s : Sr) : rd (txt s) = some s := by
  obtain ⟨n, L⟩ := s
  simp only [rd, txt, part_of (bl n) (tagst_stops L), tgs_of, Option.map_some, ba_bl]
theorem rd_is {t : List UInt8} {s : Sr} (h : rd t = some s) : t = txt s := by
  unfold rd at h
  split at h
  · cases h
  · rename_i n r hp
    obtain ⟨L, hL, e⟩ := Option.map_eq_some_iff.1 h
    subst e
    rw [txt, bl_ba, ← tgs_is hL]
    exact (part_is hp).1
theorem txt_inj {a b : Sr} (h : txt a = txt b) : a = b := by
  have := rd_of a
  rw [h, rd_of] at this
  exact (Option.some.inj this).symm
theorem txt_len (s : Sr) (h1 : s.1.size ≤ 64) (h2 : s.2.length ≤ 8) (h3 : ∀ x ∈ s.2, x.1.size ≤ 64 ∧ x.2.size ≤ 64) : (txt s).length ≤ 2192 := by
  have h : ∀ L : List Tg, (∀ x ∈ L, x.1.size ≤ 64 ∧ x.2.size ≤ 64) → (tagst L).length ≤ 258 * L.length := by
    intro L hL
    induction L with
    | nil => exact Nat.le_refl _
    | cons x r ih =>
      have := ih fun y hy => hL y (List.mem_cons_of_mem _ hy)
      have hx := hL x (List.mem_cons_self ..)
      have e1 := (esc_len (bl x.1)).2
      have e2 := (esc_len (bl x.2)).2
      rw [bl_len] at e1 e2
      rw [tagst_cons]
      simp only [tagt, List.length_append, List.length_cons]
      omega
  have := h s.2 h3
  have e1 := (esc_len (bl s.1)).2
  rw [bl_len] at e1
  simp only [txt, List.length_append]
  omega
end Sa
end Go.Proofs.YtbnicnhkakbglaaGreatDoor

/- Series in memory. -/
namespace Go.Proofs.YtbnicnhkakbglaaGreatDoor
open Go.RowKit
namespace Sb
open Jb Sa

def t0 : Tg := (⟨#[]⟩, ⟨#[]⟩)
def tc (x : Tg) : List Value := [.string x.1, .string x.2]
def ta (x : Tg) : Value := .agg #[.string x.1, .string x.2]
def tcs (L : List Tg) : List Value := L.flatMap tc
theorem tcs_snoc (L : List Tg) (x : Tg) : tcs (L ++ [x]) = tcs L ++ tc x := by simp [tcs]
theorem tcs_len (L : List Tg) : (tcs L).length = L.length * 2 := by
  induction L with
  | nil => rfl
  | cons v r ih => simp only [tcs, List.flatMap_cons, List.length_append, List.length_cons] at *; rw [ih]; simp [tc]; omega
theorem tcs_get (L : List Tg) (i j : Nat) (hi : i < L.length) (hj : j < 2) : (tcs L)[i * 2 + j]? = (tc (L.getD i t0))[j]? := by
  induction L generalizing i with
  | nil => simp at hi
  | cons v r ih =>
    have e : tcs (v :: r) = tc v ++ tcs r := rfl
    have hl : (tc v).length = 2 := rfl
    rw [e]
    cases i with
    | zero => rw [List.getElem?_append_left (by omega)]; simp
    | succ i =>
      rw [List.getElem?_append_right (by omega), hl, show (i + 1) * 2 + j - 2 = i * 2 + j from by omega, ih i (by simpa using hi)]
      simp [List.getD_eq_getElem?_getD]
theorem tc_one (x : Tg) : ∀ u ∈ tc x, u.oneCell' = true := by
  intro u hu
  simp only [tc, List.mem_cons, List.not_mem_nil, or_false] at hu
  rcases hu with rfl | rfl <;> rfl
/-- The two cells of the tag at the place o. -/
def TAt (w : World) (b o : Nat) (x : Tg) : Prop := w.cell? ⟨b, o, none⟩ = some (.string x.1) ∧ w.cell? ⟨b, o + 1, none⟩ = some (.string x.2)
theorem TAt.of_block {w w' : World} {b o : Nat} {v : Tg} (h : TAt w b o v) (e : w'.heap[b]? = w.heap[b]?) : TAt w' b o v :=
  ⟨(World.cell?_of_block e).trans h.1, (World.cell?_of_block e).trans h.2⟩
/-- A slice of these tags. -/
def Ti (w : World) (v : Value) (L : List Tg) : Prop :=
  (∃ a c, v = .slice a 0 c ∧ L = []) ∨
    ∃ b off c, v = .slice (some ⟨b, off, none⟩) L.length c ∧ L.length ≤ c ∧ b < w.heap.size ∧ ∀ i, i < L.length → TAt w b (off + i * 2) (L.getD i t0)
theorem Ti.forms {w : World} {v : Value} {L : List Tg} (h : Ti w v L) : ∃ a c, v = .slice a L.length c := by
  rcases h with ⟨a, c, rfl, rfl⟩ | ⟨b, off, c, rfl, _⟩
  · exact ⟨a, c, rfl⟩
  · exact ⟨_, _, rfl⟩
theorem Ti.below {w w' : World} {v : Value} {L : List Tg} (h : Ti w v L) (b : Below w.heap.size w w') : Ti w' v L := by
  rcases h with h | ⟨q, off, c, h1, h2, h3, h4⟩
  · exact .inl h
  · exact .inr ⟨q, off, c, h1, h2, Nat.lt_of_lt_of_le h3 b.size, fun i hi => (h4 i hi).of_block (b.block q h3)⟩
theorem Ti.drewN {w : World} {v : Value} {L : List Tg} (h : Ti w v L) (n : Nat) : Ti (w.drewN n) v L := h
/-- Its elements, in every world behind. -/
theorem Ti.get {w : World} {v : Value} {L : List Tg} (h : Ti w v L) : ∃ a c, v = .slice a L.length c ∧ ∀ i, i < L.length → ∃ b off, a = some ⟨b, off, none⟩ ∧ L.length ≤ c ∧ b < w.heap.size ∧ ∀ y, Below w.heap.size w y → TAt y b (off + i * 2) (L.getD i t0) := by
  rcases h with ⟨a, c, rfl, rfl⟩ | ⟨b, off, c, rfl, h1, h2, h3⟩
  · exact ⟨a, c, rfl, fun i hi => by simp at hi⟩
  · exact ⟨_, c, rfl, fun i hi => ⟨b, off, rfl, h1, h2, fun y hy => (h3 i hi).of_block (hy.block b h2)⟩⟩
theorem ti_own {w : World} {B t : Nat} {v : Value} {L : List Tg} (h : w.ownsRow B t 2 v L.length (tcs L)) : Ti w v L := by
  obtain ⟨hl, ⟨rfl, h0⟩ | ⟨g, c, cur, rfl, hg, hh, hnc, hcm, hsz, htk⟩⟩ := h
  · exact .inl ⟨none, 0, rfl, List.length_eq_zero_iff.1 h0⟩
  · have hgl : g < w.heap.size := by rw [Array.getElem?_eq_some_iff] at hh; exact hh.1
    have key : ∀ i j u, i < L.length → j < 2 → (tc (L.getD i t0))[j]? = some u → w.cell? ⟨g, 0 + i * 2 + j, none⟩ = some u := by
      intro i j u hi hj hu
      have ho : w.ownsRow B t 2 (.slice (some ⟨g, 0, none⟩) L.length c) L.length (tcs L) := ⟨hl, .inr ⟨g, c, cur, rfl, hg, hh, hnc, hcm, hsz, htk⟩⟩
      have := ho.cells rfl (i * 2 + j) u (by rw [tcs_get L i j hi hj]; exact hu)
      rw [show 0 + i * 2 + j = 0 + (i * 2 + j) from by omega]
      unfold Addr.add at this
      split at this
      · rename_i e; rw [e] at *; exact this
      · exact this
    exact .inr ⟨g, 0, c, rfl, hnc, hgl, fun i hi => ⟨key i 0 _ hi (by decide) rfl, key i 1 _ hi (by decide) rfl⟩⟩
theorem info37 : (Tryz.prog.info? 81).map (fun i => (i.zero, i.size, i.bytes)) = some (some (.agg #[.string ⟨#[]⟩, .string ⟨#[]⟩]), 2, 32) := by kernel_rfl
theorem own_forms {w : World} {B t k n : Nat} {v : Value} {xs : List Value} (h : w.ownsRow B t k v n xs) : ∃ a c, v = .slice a n c := by
  rcases h.2 with ⟨rfl, rfl⟩ | ⟨g, cap, _, rfl, _⟩
  · exact ⟨_, _, rfl⟩
  · exact ⟨_, _, rfl⟩
theorem own_lt {w : World} {B t k n : Nat} {v : Value} {xs : List Value} (h : w.ownsRow B t k v n xs) {j : Nat} (hj : v.ownBlock = some j) : B ≤ j ∧ j < w.heap.size := h.lt j hj
theorem step_append_own {P : Program} {ops : Array Oper} {o : Oper} {a : Act} {w : World} {K : Act → World → Prop} {Q : Exit → Act → World → Prop} {E : Prop}
    (hg : o.guard = none) (s x : Operand) (t : TypeId) (hop : o.op = Op.call { callee := Callee.builtin Builtin.append, args := #[s, x], argTypes := #[t, t] })
    (base : Nat) (e : TypeId) (i : TypeInfo) (z : Value) (size bytes : Nat) (h1 : P.underlying t = some (.slice e)) (h2 : P.info? e = some i) (h3 : i.zero = some z) (h4 : i.size = size) (h5 : i.bytes = bytes) (h6 : z.cells.size = size) (h7 : 0 < size)
    (v : Value) (n : Nat) (xs : List Value) (hs : a.eval s = v) (hown : w.ownsRow base e size v n xs)
    (ad : Addr) (m c : Nat) (news : List Value) (hx : a.eval x = .slice (some ad) m c) (hn : news.length = m * size) (hc : ∀ j u, news[j]? = some u → w.cell? (ad.add j) = some u) (h1c : ∀ u ∈ news, u.oneCell' = true)
    (b1 : n + m ≤ maxLen) (b2 : (n + m) * bytes ≤ 140737488355328) (hb : base ≤ w.heap.size)
    (hK : ∀ v' w', w'.ownsRow base e size v' (n + m) (xs ++ news) → w.grownBy w' v.ownBlock → K (a.put o.dst v') w') :
    if Region.wanted o (yielded ops a.tmps) = true then Oper.wp P o a w K Q else E := by
  have hw : Region.wanted o (yielded ops a.tmps) = true := by simp [Region.wanted, hg]
  rw [if_pos hw]
  obtain ⟨v', w', hrun, r1, r2, _⟩ := run_append_own (P := P) w base t o.type e i z size bytes h1 h2 h3 h4 h5 h6 h7 v n xs hown ad m c news hn hc h1c b1 b2 hb
  unfold Oper.wp
  simp [execOp, hop, resolve, invoke, builtin, hs, hx, hrun, Result.andThen]
  exact hK v' w' r1 r2
theorem cell_at {w : World} {b : Nat} {cs : Array Value} {t : TypeId} {z : Nat × Nat} (h : w.heap[b]? = some (.cells cs t z)) (i : Nat) : w.cell? ⟨b, i, none⟩ = cs[i]? := by simp [World.cell?, h]
theorem take_snoc (L : List Tg) {k : Nat} (hk : k < L.length) : L.take (k + 1) = L.take k ++ [L.getD k t0] := by
  rw [List.take_add_one, List.getElem?_eq_getElem hk, List.getD_eq_getElem?_getD, List.getElem?_eq_getElem hk]; rfl
theorem take_len (L : List Tg) {k : Nat} (hk : k ≤ L.length) : (L.take k).length = k := by rw [List.length_take]; omega

/-! Strings. -/
def by8 (s : ByteArray) (k : Nat) : Nat := (s.data.toList.getD k 0).toNat
theorem by8_lt (s : ByteArray) (k : Nat) : by8 s k < 256 := UInt8.toNat_lt _
def good (s : ByteArray) (k : Nat) : Bool := decide (32 ≤ by8 s k) && decide (by8 s k ≠ 127)
/-- A name. -/
def isNm (s : ByteArray) : Bool := decide (1 ≤ s.size ∧ s.size ≤ 64 ∧ ∀ k, k < s.size → good s k = true)
theorem isNm_size {s : ByteArray} (h : isNm s = true) : s.size ≤ 64 := (of_decide_eq_true h).2.1
theorem idx (w : World) (s : ByteArray) (k : Nat) (hk : k < s.size) : (Instr.index 9 (.string s) (.int .i64 (k : Nat))).run Tryz.prog w = .ok (.int .u8 (by8 s k : Nat)) w := by
  rw [run_index_string w 9 s .i64 k Tryz.underlying9, dif_pos ⟨by omega, by omega⟩]
  have h1 : k < s.data.toList.length := by simpa using hk
  have e : by8 s k = (s[k]'hk).toNat := by
    unfold by8
    rw [List.getD_eq_getElem?_getD, List.getElem?_eq_getElem h1]
    simp
    rfl
  rw [e]
  rfl
theorem drop_cons (s : ByteArray) (k : Nat) (hk : k < s.size) : ∃ c, (bl s).drop k = c :: (bl s).drop (k + 1) ∧ c.toNat = by8 s k ∧ (bl s).take (k + 1) = (bl s).take k ++ [c] := by
  have h1 : k < (bl s).length := by rw [bl_len]; exact hk
  refine ⟨(bl s)[k], List.drop_eq_getElem_cons h1, ?_, ?_⟩
  · unfold by8
    have : k < s.data.toList.length := h1
    rw [List.getD_eq_getElem?_getD, List.getElem?_eq_getElem this]
    rfl
  · rw [List.take_add_one, List.getElem?_eq_getElem h1]; rfl

theorem toList_ne {S T : ByteArray} (h : S ≠ T) : (S.toList == T.toList) = false := by
  cases e : (S.toList == T.toList)
  · rfl
  · exfalso
    have e2 : S.toList = T.toList := by simpa using e
    rw [ByteArray.toList_eq, ByteArray.toList_eq] at e2
    exact h (ByteArray.ext (Array.toList_inj.1 e2))
theorem nil_no {f : ByteArray} (h : f ≠ ⟨#[]⟩) : f.toList.isEmpty = false ∧ (f.toList = []) = False := by
  have h2 : ¬ f.toList = [] := fun e => by
    have := toList_ne h
    rw [e] at this
    simp at this
  refine ⟨?_, eq_false h2⟩
  cases hl : f.toList with
  | nil => exact absurd hl h2
  | cons _ _ => rfl
theorem nil_of {f : ByteArray} (h : f.size = 0) : f = ⟨#[]⟩ := by
  have : bl f = bl (ByteArray.mk #[]) := by
    have e : (bl f).length = 0 := by rw [bl_len]; exact h
    rw [List.length_eq_zero_iff.1 e]; rfl
  exact bl_inj this
theorem beq_eq (a b : ByteArray) : (a.toList == b.toList) = decide (a = b) := by
  by_cases h : a = b
  · subst h; simp
  · rw [toList_ne h, decide_eq_false h]
/-! Formed series. -/
/-- Is this Key below that one? -/
def lt (a b : ByteArray) : Bool := Op.bytesLess a.toList b.toList
def tagOk (L : List Tg) (i : Nat) : Bool := isNm (L.getD i t0).1 && isNm (L.getD i t0).2 && (decide (i = 0) || lt (L.getD (i - 1) t0).1 (L.getD i t0).1)
def fm (s : Sr) : Bool := isNm s.1 && decide (s.2.length ≤ 8) && decide (∀ i, i < s.2.length → tagOk s.2 i = true)
theorem fm_len {s : Sr} (h : fm s = true) : (txt s).length ≤ 2192 := by
  unfold fm at h
  simp only [Bool.and_eq_true, decide_eq_true_eq] at h
  obtain ⟨⟨h1, h2⟩, h3⟩ := h
  refine txt_len s (isNm_size h1) h2 fun x hx => ?_
  obtain ⟨i, hi, rfl⟩ := List.getElem_of_mem hx
  have := h3 i hi
  unfold tagOk at this
  simp only [Bool.and_eq_true] at this
  obtain ⟨⟨a, b⟩, _⟩ := this
  rw [List.getD_eq_getElem?_getD, List.getElem?_eq_getElem hi] at a b
  exact ⟨isNm_size a, isNm_size b⟩
end Sb
end Go.Proofs.YtbnicnhkakbglaaGreatDoor
