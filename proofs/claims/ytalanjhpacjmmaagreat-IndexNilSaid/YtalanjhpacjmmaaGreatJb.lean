/- Bytes in memory, what the walks share. -/
import Derived.Test.YtalanjhpacjmmaaGreatRows
import Derived.WalkKit
import Derived.ProofKit
import Derived.OpenShut
import Derived.Handy
import Derived.BigQuiet
import Derived.Deep.QuietTactic
import Derived.WalkLawsBesides
import Derived.Lib.Hide
import Derived.LoopTactic
import Derived.IntWalk
import Derived.Laws.BitsAllLaws
import Derived.Laws.AppendOwnNone
import Derived.OwnWalk
import Derived.Laws.OwnMore
import Derived.Lib.SmallJoins
import Derived.Deep.DeepCutAuto
import Derived.Deep.RegionLaw
import Derived.Maps.AppendAt
import Derived.Maps.OwnSet
import Derived.Laws.BytesArg
import Derived.Laws.BytesString
import Derived.Laws.IdiomStrings
namespace Go.Proofs.YtalanjhpacjmmaaGreat
set_option maxRecDepth 100000
open Go.RowKit
namespace Jb
def g (b : List Nat) (i : Nat) : Nat := b.getD i 0
theorem g_lt {b : List Nat} (h : ∀ x ∈ b, x < 256) (i : Nat) : g b i < 256 := by
  unfold g
  by_cases hi : i < b.length
  · rw [List.getD_eq_getElem?_getD, List.getElem?_eq_getElem hi]; exact h _ (List.getElem_mem hi)
  · rw [List.getD_eq_getElem?_getD, List.getElem?_eq_none (by omega)]; decide

/-- The bytes as cells. -/
def u8s (bs : List Nat) : List Value := bs.map fun b => .int .u8 (b : Nat)
theorem u8s_len (bs : List Nat) : (u8s bs).length = bs.length := by simp [u8s]
theorem u8s_snoc (bs : List Nat) (b : Nat) : u8s (bs ++ [b]) = u8s bs ++ [.int .u8 (b : Nat)] := by simp [u8s]
theorem u8s_app (bs cs : List Nat) : u8s (bs ++ cs) = u8s bs ++ u8s cs := by simp [u8s]
theorem u8s_one (bs : List Nat) : ∀ u ∈ u8s bs, u.oneCell' = true := fun u hu => by simp [u8s] at hu; obtain ⟨x, _, rfl⟩ := hu; rfl
theorem u8s_get (bs : List Nat) (j : Nat) (hj : j < bs.length) : (u8s bs)[j]? = some (.int .u8 (bs.getD j 0 : Nat)) := by
  simp [u8s, List.getD_eq_getElem?_getD, hj]
theorem info5 : (Tryz.prog.info? 5).map (fun i => (i.zero, i.size, i.bytes)) = some (some (.int .u8 0), 1, 1) := by kernel_rfl
theorem info3 : (Tryz.prog.info? 3).map (fun i => (i.zero, i.size, i.bytes)) = some (some (.int .i64 0), 1, 8) := by kernel_rfl
theorem ret_int {k : IntKind} {a b : Int} (h : a = b) : Ending.returned (.int k a) = .returned (.int k b) := by rw [h]
theorem cell_lt {w : World} {a : Addr} {v : Value} (h : w.cell? a = some v) : a.block < w.heap.size := by
  unfold World.cell? at h
  by_cases hl : a.block < w.heap.size
  · exact hl
  · rw [Array.getElem?_eq_none (by omega)] at h; simp at h
theorem cell_other {w : World} {a b : Addr} {v : Value} (h : a ≠ b) : (w.setCell a v).cell? b = w.cell? b := by apply World.cell?_setCell_other; exact h
theorem cell_same {w : World} {a : Addr} {u v : Value} (h : w.cell? a = some u) : (w.setCell a v).cell? a = some v := by apply World.cell?_setCell_same; exact h

/-- A slice of these bytes, in a block of which R holds. -/
def Src (w : World) (R : Nat → Prop) (s : Value) (bs : List Nat) : Prop :=
  (bs = [] ∧ ∃ a c, s = .slice a 0 c) ∨ (0 < bs.length ∧ ∃ b off c, s = .slice (some ⟨b, off, none⟩) bs.length c ∧ bs.length ≤ c ∧ R b ∧ ∀ i, i < bs.length → w.cell? ⟨b, off + i, none⟩ = some (.int .u8 (g bs i : Nat)))

theorem Src.forms {w : World} {R : Nat → Prop} {s : Value} {bs : List Nat} (h : Src w R s bs) : ∃ a c, s = .slice a bs.length c := by
  rcases h with ⟨rfl, a, c, rfl⟩ | ⟨_, b, off, c, rfl, _⟩
  · exact ⟨a, c, rfl⟩
  · exact ⟨_, _, rfl⟩
theorem Src.imp {w : World} {R R' : Nat → Prop} {s : Value} {bs : List Nat} (h : Src w R s bs) (f : ∀ b, R b → R' b) : Src w R' s bs := by
  rcases h with h | ⟨h0, b, off, c, h1, h2, h3, h4⟩
  · exact .inl h
  · exact .inr ⟨h0, b, off, c, h1, h2, f b h3, h4⟩
theorem Src.move {w w' : World} {R : Nat → Prop} {s : Value} {bs : List Nat} (h : Src w R s bs) (f : ∀ b, R b → b < w.heap.size → w'.heap[b]? = w.heap[b]?) : Src w' R s bs := by
  rcases h with h | ⟨h0, b, off, c, h1, h2, h3, h4⟩
  · exact .inl h
  · exact .inr ⟨h0, b, off, c, h1, h2, h3, fun i hi => (World.cell?_of_block (f b h3 (by have := cell_lt (h4 i hi); exact this))).trans (h4 i hi)⟩
theorem Src.below {w w' : World} {R : Nat → Prop} {B : Nat} {s : Value} {bs : List Nat} (h : Src w R s bs) (b : Below B w w') (hB : ∀ k, R k → k < B) : Src w' R s bs := h.move fun k hk _ => b.block k (hB k hk)
theorem Src.drewN {w : World} {R : Nat → Prop} {s : Value} {bs : List Nat} (h : Src w R s bs) (n : Nat) : Src (w.drewN n) R s bs := h
theorem src_own {w : World} {B : Nat} {v : Value} {bs : List Nat} (h : w.ownsRow B 5 1 v bs.length (u8s bs)) : Src w (fun b => B ≤ b ∧ v.ownBlock = some b) v bs := by
  by_cases h0 : bs.length = 0
  · obtain rfl := List.length_eq_zero_iff.1 h0
    rcases Go.Joins.ownsRow_forms h with ⟨rfl, _⟩ | ⟨q, c, rfl⟩
    · exact .inl ⟨rfl, _, _, rfl⟩
    · exact .inl ⟨rfl, _, _, rfl⟩
  · obtain ⟨_, ⟨_, e⟩ | ⟨g, c, cur, rfl, hg, hh, hnc, hcm, hsz, htk⟩⟩ := h
    · omega
    · refine .inr ⟨by omega, g, 0, c, rfl, hnc, ⟨hg, rfl⟩, fun i hi => ?_⟩
      have h' : w.ownsRow B 5 1 (.slice (some ⟨g, 0, none⟩) bs.length c) bs.length (u8s bs) := ⟨by rw [u8s_len]; omega, .inr ⟨g, c, cur, rfl, hg, hh, hnc, hcm, hsz, htk⟩⟩
      rw [Nat.zero_add, h'.cellAt i (by omega)]
      exact u8s_get bs i hi

/-- The string of bytes. -/
def str (bs : List Nat) : ByteArray := strOfNums (bs.map fun b : Nat => (b : Int))
theorem str_inj {cs bs : List Nat} (ha : ∀ x ∈ cs, x < 256) (hb : ∀ x ∈ bs, x < 256) (h : str cs = str bs) : cs = bs := by
  have e : (str cs).data.toList = (str bs).data.toList := by rw [h]
  unfold str at e
  rw [strOfNums_data, strOfNums_data] at e
  simp only [List.map_map] at e
  have hl : cs.length = bs.length := by simpa using congrArg List.length e
  apply List.ext_getElem hl
  intro j h1 h2
  have ej : (UInt8.ofNat cs[j]) = UInt8.ofNat bs[j] := by
    have := congrArg (fun l => l[j]?) e
    simpa [h1, h2] using this
  have l1 := ha _ (List.getElem_mem h1)
  have l2 := hb _ (List.getElem_mem h2)
  have := congrArg UInt8.toNat ej
  simp only [UInt8.toNat_ofNat'] at this
  omega
theorem toList_eq {S T : ByteArray} (h : S = T) : (S.toList == T.toList) = true := by rw [h]; simp
theorem conv_cells (w : World) (src : TypeId) (hs : Tryz.prog.underlying src = some (.slice 5)) (b off c : Nat) (bs : List Nat) (h : ∀ i, i < bs.length → w.cell? ⟨b, off + i, none⟩ = some (.int .u8 (g bs i : Nat))) :
    (convert src 9 (.slice (some ⟨b, off, none⟩) bs.length c)).run Tryz.prog w = .ok (.string (str bs)) w := by
  refine run_convert_bytes_arg w src 5 hs Tryz.underlying5 b off bs.length c _ (by simp) (fun i hi => ?_) 9 Tryz.underlying9
  rw [h i hi]
  simp [g, List.getD_eq_getElem?_getD, hi]
theorem conv_src {w : World} {R : Nat → Prop} {s : Value} {bs : List Nat} (h : Src w R s bs) : (convert 108 9 s).run Tryz.prog w = .ok (.string (str bs)) w := by
  rcases h with ⟨rfl, a, c, rfl⟩ | ⟨h0, b, off, c, rfl, hl, _, hc⟩
  · cases a with
    | none => exact run_convert_bytes_nil w 108 5 Tryz.underlying108 Tryz.underlying5 0 c 9 Tryz.underlying9
    | some a =>
      rw [run_convert_bytes_string w 108 9 5 _ 0 c Tryz.underlying108 Tryz.underlying5 Tryz.underlying9]
      rw [run_bytesToString w a 0 c [] (by simpa using run_loadCells_list (P := Tryz.prog) w a [] (by simp))]
      rfl
  · exact conv_cells w 108 Tryz.underlying108 b off c bs hc
theorem conv_own {w : World} {B : Nat} {v : Value} {bs : List Nat} (h : w.ownsRow B 5 1 v bs.length (u8s bs)) : (convert 108 9 v).run Tryz.prog w = .ok (.string (str bs)) w := conv_src (src_own h)

/-! What has turned: what s owns; blocks have come. -/
def Own (w : World) (s s' : Value) : Prop := s'.ownBlock = s.ownBlock ∨ ∃ h, s'.ownBlock = some h ∧ w.heap.size ≤ h
theorem Own.refl (w : World) (s : Value) : Own w s s := .inl rfl
theorem Own.trans {a b : World} {s t u : Value} (h : Own a s t) (k : Own b t u) (hsz : a.heap.size ≤ b.heap.size) : Own a s u := by
  rcases k with k | ⟨j, k, hj⟩
  · rcases h with h | ⟨i, h, hi⟩
    · exact .inl (k.trans h)
    · exact .inr ⟨i, k.trans h, hi⟩
  · exact .inr ⟨j, k, by omega⟩
/-- Only what s owns has turned, and it is s' now that owns it, or what is new. -/
def Gr (w w' : World) (s s' : Value) : Prop := w.grownBy w' s.ownBlock ∧ Own w s s'
theorem Gr.refl (w : World) (s : Value) : Gr w w s s := ⟨World.grownBy.refl _ _, .refl _ _⟩
theorem Gr.trans {a b c : World} {s t u : Value} (h : Gr a b s t) (k : Gr b c t u) : Gr a c s u := by
  obtain ⟨h, o⟩ := h
  obtain ⟨k, p⟩ := k
  refine ⟨⟨k.os.trans h.os, k.tape.trans h.tape, k.output.trans h.output, Nat.le_trans h.size k.size, fun i hi hs => ?_⟩, o.trans p h.size⟩
  rw [k.block i (Nat.lt_of_lt_of_le hi h.size) ?_, h.block i hi hs]
  rcases o with o | ⟨j, o, hj⟩
  · rw [o]; exact hs
  · rw [o]; intro e; cases e; omega
theorem Gr.block {w w' : World} {s s' : Value} (h : Gr w w' s s') {k : Nat} (hk : k < w.heap.size) (hs : s.ownBlock ≠ some k) : w'.heap[k]? = w.heap[k]? := h.1.block k hk (fun e => hs e.symm)
theorem Gr.below {w w' : World} {s s' : Value} {B : Nat} (h : Gr w w' s s') (hB : B ≤ w.heap.size) (hs : ∀ k, s.ownBlock = some k → B ≤ k) : Below B w w' :=
  ⟨h.1.os, h.1.tape, h.1.output, h.1.size, fun k hk => h.block (by omega) (fun e => by have := hs k e; omega)⟩
theorem Gr.size {w w' : World} {s s' : Value} (h : Gr w w' s s') : w.heap.size ≤ w'.heap.size := h.1.size
/-- What an append leaves. -/
theorem gr_at {w w' : World} {s s' : Value} (h : w.grownBy w' s.ownBlock) (hat : s'.ownBlock = s.ownBlock ∨ s'.ownBlock = some w.heap.size) : Gr w w' s s' :=
  ⟨h, hat.imp id fun e => ⟨_, e, Nat.le_refl _⟩⟩
theorem gr_alloc {w w' : World} {s s' : Value} (o : Obj) (h : Gr (w.alloc o) w' s s') : Gr w w' s s' :=
  (show Gr w (w.alloc o) s s from ⟨World.grownBy_alloc w o _, .refl _ _⟩).trans h
theorem own_below {w w' : World} {B n : Nat} {e : TypeId} {v : Value} {xs : List Value} (h : w.ownsRow B e 1 v n xs) (b : Below w.heap.size w w') : w'.ownsRow B e 1 v n xs :=
  h.kept (row := none) ⟨b.os, b.tape, b.output, b.size, fun k hk _ => b.block k hk⟩ (by
    by_cases e : v.ownBlock = none
    · exact .inl e
    · exact .inr e)
def lenOf : Value → Nat
  | .slice _ n _ => n
  | _ => 0
end Jb
end Go.Proofs.YtalanjhpacjmmaaGreat
