import Derived.Shelf.LaysM
import Derived.Shelf.Strconv.Clone
import Derived.Ground.SlbCloneProg
import Derived.Shelf.Bytes.SlClone
import Derived.Ground.SlgmProg
import Derived.Shelf.SortM.Plain
import Derived.Shelf.SortM.SortNone
import Derived.Shelf.SlIter.Nil
import Derived.Ground.GgzProg
import Derived.Test.YtcjfdebjgaohlaaProg
import Derived.Test.YtcjfdebjgaohlaaRows
import Derived.WalkKit
import Derived.ProofKit
import Derived.OpenShut
import Derived.Handy
import Derived.BigQuiet
import Derived.Deep.QuietTactic
import Derived.WalkLawsBesides
import Derived.Lib.Hide
import Derived.LoopTactic
import Derived.IntWalk
import Derived.Laws.BitsAllLaws
import Derived.Laws.AppendOwnNone
import Derived.OwnWalk
import Derived.Laws.OwnMore
import Derived.Lib.SmallJoins
import Derived.Deep.DeepCutAuto
import Derived.Deep.RegionLaw
import Derived.Maps.AppendAt
import Derived.Maps.OwnSet
import Derived.Laws.BytesArg
import Derived.Laws.BytesString
import Derived.Laws.IdiomStrings

/-
  DERIVED: THE SHELF's CONTRACTS AT THIS DUMP, IN PLAIN WORDS (tools/lay-plain.mjs out of 'TryShelf.lean', which tools/lay-shelf.mjs wrote): THE SAME DECLARATIONS UNDER THE SAME YtcjfdebjgaohlaaS: 'import', 'namespace', 'open', 'def', 'theorem' AND NOTHING ELSE: no command of the shelf's: FOR A HAND-IN. Each laying: the table of numbers ('.._ren') and one theorem, a field a fact of the dump's own or the kernel's comparison; each contract: ONE APPLICATION.
-/
namespace Go.Proofs
open Go.Shelf
def Try.laysM316_ren : Go.Shelf.Ren := ⟨fun | 316 => 49 | n => n, fun | 9 => 9 | 3 => 3 | 4 => 4 | 37 => 29 | 0 => 0 | 127 => 77 | 5 => 5 | n => n, fun | n => n⟩
theorem Try.laysM316 : Go.Proofs.LaysM.n316 Try.prog Try.laysM316_ren := {
  mixed := by kernel_rfl
  f316 := Try.func49.trans (congrArg some (by kernel_rfl))
  t0 := Try.underlying0
  a0 := Try.isAgg0
  z0 := Try.sizeOf0
  v0 := Try.zeroValue0
  t3 := Try.underlying3
  a3 := Try.isAgg3
  z3 := Try.sizeOf3
  v3 := Try.zeroValue3
  t4 := Try.underlying4
  a4 := Try.isAgg4
  z4 := Try.sizeOf4
  v4 := Try.zeroValue4
  t9 := Try.underlying9
  a9 := Try.isAgg9
  z9 := Try.sizeOf9
  v9 := Try.zeroValue9
  t37 := Try.underlying29
  a37 := Try.isAgg29
  z37 := Try.sizeOf29
  v37 := Try.zeroValue29
  t127 := Try.underlying77
  a127 := Try.isAgg77
  z127 := Try.sizeOf77
  v127 := Try.zeroValue77
  t5 := Try.underlying5
  a5 := Try.isAgg5
  z5 := Try.sizeOf5
  v5 := Try.zeroValue5
  i0 := by kernel_rfl
  i3 := by kernel_rfl
  i4 := by kernel_rfl
  i5 := by kernel_rfl
  i9 := by kernel_rfl
  i37 := by kernel_rfl
  i127 := by kernel_rfl }
open Go.RowKit in
/-- internal/stringslite.Clone (what strings.Clone calls): "Clone returns a fresh copy of s.": THE SAME BYTES. Of what was there nothing has turned (a new row is laid, and frozen, where s is not empty). (LAID: no walk: one application.) -/
theorem Try.stringslite_Clone (s : ByteArray) (w : World) (hlim : s.size ≤ 281474976710656) :
    Calls Try.prog 49 #[.string s] w fun e w' => e = .returned (.string s) ∧ Below w.heap.size w w' := Any.stringslite_Clone Try.laysM316 s w hlim
def Try.laysSlK4_ren : Go.Shelf.Ren := ⟨fun | 4 => 48 | n => n, fun | 22 => 29 | 4 => 4 | 5 => 5 | n => n, fun | n => n⟩
theorem Try.laysSlK4 : Go.Proofs.SlLaysK.n4 Try.prog Try.laysSlK4_ren := {
  mixed := by kernel_rfl
  f4 := Try.func48.trans (congrArg some (by kernel_rfl))
  t4 := Try.underlying4
  a4 := Try.isAgg4
  z4 := Try.sizeOf4
  v4 := Try.zeroValue4
  t22 := Try.underlying29
  a22 := Try.isAgg29
  z22 := Try.sizeOf29
  v22 := Try.zeroValue29
  t5 := Try.underlying5
  i5 := by kernel_rfl }
open Go.RowKit Go.Lib in
/-- bytes.Clone: "Clone returns a copy of b[:len(b)]. The result may have additional unused capacity.": OF A SLICE THAT IS NOT nil IT RETURNS A SLICE THAT IS NOT nil, OF THE SAME BYTES, IN MEMORY OF THE CALL's OWN: in the how-to's words (6f): 'w'.ownsRow B e 1 v' n cells' · 'Below B w w'', B the heap's size at the call. b AT WHATEVER ADDRESS, its cells as 'open_ints' hands them ('a.add i'; the numbers 'xs'). No byte: no cell is asked for. (LAID: no walk: one application.) -/
theorem Try.bytes_Clone_at (a : Addr) (n c : Nat) (xs : List Int) (w : World) (hx : xs.length = n) (hbig : n ≤ 140737488355328) (hc : ∀ i, i < n → w.cell? (a.add i) = some (.int .u8 (xs.getD i 0))) :
    Calls Try.prog 48 #[.slice (some a) n c] w fun e w' => ∃ v', e = .returned v' ∧ w'.ownsRow w.heap.size 5 1 v' n (xs.map (Value.int .u8)) ∧ v' ≠ .slice none 0 0 ∧ Below w.heap.size w w' := Any.bytes_Clone_at Try.laysSlK4 a n c xs w hx hbig hc
open Go.RowKit Go.Lib in
/-- "Clone(nil) returns nil.": the world is as it was. (LAID: no walk: one application.) -/
theorem Try.bytes_Clone_nil (n c : Nat) (w : World) :
    Calls Try.prog 48 #[.slice none n c] w fun e w' => e = .returned (.slice none 0 0) ∧ w' = w := Any.bytes_Clone_nil Try.laysSlK4 n c w
def Try.keys54_ren : Go.Shelf.Ren := ⟨fun | 7 => 51 | 10 => 54 | n => n, fun | 23 => 39 | 26 => 9 | 3 => 56 | 28 => 75 | 0 => 0 | 27 => 74 | 33 => 54 | 4 => 4 | n => n, fun | n => n⟩
theorem Try.keys54 : Go.Proofs.SlLaysZ.n7 Try.prog Try.keys54_ren := {
  mixed := by kernel_rfl
  f7 := ⟨Try.f51.name, by decide, Try.func51.trans (congrArg some (by kernel_rfl))⟩
  f10 := ⟨Try.f54.name, by decide, Try.func54.trans (congrArg some (by kernel_rfl))⟩
  t0 := Try.underlying0
  a0 := Try.isAgg0
  z0 := Try.sizeOf0
  v0 := Try.zeroValue0
  t4 := Try.underlying4
  a4 := Try.isAgg4
  z4 := Try.sizeOf4
  v4 := Try.zeroValue4
  t23 := Try.underlying39
  a23 := Try.isAgg39
  z23 := Try.sizeOf39
  v23 := Try.zeroValue39
  t26 := Try.underlying9
  a26 := Try.isAgg9
  z26 := Try.sizeOf9
  v26 := Try.zeroValue9
  t27 := Try.underlying74
  a27 := Try.isAgg74
  z27 := Try.sizeOf74
  v27 := Try.zeroValue74
  t28 := Try.underlying75
  a28 := Try.isAgg75
  z28 := Try.sizeOf75
  v28 := Try.zeroValue75
  t33 := Try.underlying54
  a33 := Try.isAgg54
  z33 := Try.sizeOf54
  v33 := Try.zeroValue54 }
def Try.sorted53_ren : Go.Shelf.Ren := ⟨fun | 6 => 50 | 8 => 52 | 9 => 53 | 11 => 55 | 13 => 57 | 12 => 56 | 23 => 67 | 24 => 68 | 14 => 58 | 15 => 59 | 16 => 60 | 17 => 61 | 18 => 62 | 19 => 63 | 20 => 64 | 21 => 65 | 22 => 66 | 25 => 69 | 26 => 70 | 27 => 71 | 28 => 72 | 29 => 73 | 30 => 74 | 31 => 75 | n => n, fun | 26 => 9 | 28 => 75 | 24 => 51 | 0 => 0 | 3 => 3 | 37 => 82 | 48 => 93 | 50 => 95 | 4 => 4 | 40 => 85 | 39 => 84 | 45 => 90 | 5 => 5 | 9 => 9 | 51 => 96 | 55 => 100 | 57 => 102 | 58 => 103 | 33 => 54 | n => n, fun | n => n⟩
theorem Try.sorted53 : Go.Proofs.SlLaysZ.n6 Try.prog Try.sorted53_ren := {
  mixed := by kernel_rfl
  f6 := ⟨Try.f50.name, by decide, Try.func50.trans (congrArg some (by kernel_rfl))⟩
  f8 := ⟨Try.f52.name, by decide, Try.func52.trans (congrArg some (by kernel_rfl))⟩
  f11 := ⟨Try.f55.name, by decide, Try.func55.trans (congrArg some (by kernel_rfl))⟩
  t0 := Try.underlying0
  a0 := Try.isAgg0
  z0 := Try.sizeOf0
  v0 := Try.zeroValue0
  t24 := Try.underlying51
  a24 := Try.isAgg51
  z24 := Try.sizeOf51
  v24 := Try.zeroValue51
  t26 := Try.underlying9
  a26 := Try.isAgg9
  z26 := Try.sizeOf9
  v26 := Try.zeroValue9
  t28 := Try.underlying75
  a28 := Try.isAgg75
  z28 := Try.sizeOf75
  v28 := Try.zeroValue75
  i26 := by kernel_rfl }
def Try.sort57_ren : Go.Shelf.Ren := ⟨fun | 6 => 53 | 8 => 57 | 9 => 56 | 19 => 67 | 20 => 68 | 21 => 58 | 22 => 59 | 23 => 60 | 24 => 61 | 25 => 62 | 26 => 63 | 27 => 64 | 28 => 65 | 29 => 66 | 36 => 69 | 31 => 70 | 32 => 71 | 37 => 72 | 38 => 73 | 39 => 74 | 41 => 75 | n => n, fun | 27 => 51 | 29 => 9 | 3 => 3 | 32 => 82 | 26 => 51 | 0 => 0 | 44 => 93 | 46 => 95 | 4 => 4 | 36 => 85 | 35 => 84 | 41 => 90 | 5 => 5 | 9 => 9 | 53 => 96 | 57 => 100 | 63 => 102 | 64 => 103 | n => n, fun | n => n⟩
theorem Try.sort57 : Go.Proofs.SlLaysM.n6 Try.prog Try.sort57_ren := {
  mixed := by kernel_rfl
  f6 := ⟨Try.f53.name, by decide, Try.func53.trans (congrArg some (by kernel_rfl))⟩
  f8 := Try.func57.trans (congrArg some (by kernel_rfl))
  f9 := ⟨Try.f56.name, by decide, Try.func56.trans (congrArg some (by kernel_rfl))⟩
  f19 := Try.func67.trans (congrArg some (by kernel_rfl))
  f20 := Try.func68.trans (congrArg some (by kernel_rfl))
  f21 := ⟨Try.f58.name, by decide, Try.func58.trans (congrArg some (by kernel_rfl))⟩
  f22 := ⟨Try.f59.name, by decide, Try.func59.trans (congrArg some (by kernel_rfl))⟩
  f23 := ⟨Try.f60.name, by decide, Try.func60.trans (congrArg some (by kernel_rfl))⟩
  f24 := ⟨Try.f61.name, by decide, Try.func61.trans (congrArg some (by kernel_rfl))⟩
  f25 := ⟨Try.f62.name, by decide, Try.func62.trans (congrArg some (by kernel_rfl))⟩
  f26 := ⟨Try.f63.name, by decide, Try.func63.trans (congrArg some (by kernel_rfl))⟩
  f27 := ⟨Try.f64.name, by decide, Try.func64.trans (congrArg some (by kernel_rfl))⟩
  f28 := ⟨Try.f65.name, by decide, Try.func65.trans (congrArg some (by kernel_rfl))⟩
  f29 := ⟨Try.f66.name, by decide, Try.func66.trans (congrArg some (by kernel_rfl))⟩
  f31 := Try.func70.trans (congrArg some (by kernel_rfl))
  f32 := Try.func71.trans (congrArg some (by kernel_rfl))
  f36 := ⟨Try.f69.name, by decide, Try.func69.trans (congrArg some (by kernel_rfl))⟩
  f37 := ⟨Try.f72.name, by decide, Try.func72.trans (congrArg some (by kernel_rfl))⟩
  f38 := ⟨Try.f73.name, by decide, Try.func73.trans (congrArg some (by kernel_rfl))⟩
  f39 := ⟨Try.f74.name, by decide, Try.func74.trans (congrArg some (by kernel_rfl))⟩
  f41 := ⟨Try.f75.name, by decide, Try.func75.trans (congrArg some (by kernel_rfl))⟩
  t0 := Try.underlying0
  a0 := Try.isAgg0
  z0 := Try.sizeOf0
  v0 := Try.zeroValue0
  t3 := Try.underlying3
  a3 := Try.isAgg3
  z3 := Try.sizeOf3
  v3 := Try.zeroValue3
  t4 := Try.underlying4
  a4 := Try.isAgg4
  z4 := Try.sizeOf4
  v4 := Try.zeroValue4
  t5 := Try.underlying5
  a5 := Try.isAgg5
  z5 := Try.sizeOf5
  v5 := Try.zeroValue5
  t9 := Try.underlying9
  a9 := Try.isAgg9
  z9 := Try.sizeOf9
  v9 := Try.zeroValue9
  t26 := Try.underlying51
  a26 := Try.isAgg51
  z26 := Try.sizeOf51
  v26 := Try.zeroValue51
  t27 := Try.underlying51
  a27 := Try.isAgg51
  z27 := Try.sizeOf51
  v27 := Try.zeroValue51
  t29 := Try.underlying9
  a29 := Try.isAgg9
  z29 := Try.sizeOf9
  v29 := Try.zeroValue9
  t32 := Try.underlying82
  a32 := Try.isAgg82
  z32 := Try.sizeOf82
  v32 := Try.zeroValue82
  t35 := Try.underlying84
  a35 := Try.isAgg84
  z35 := Try.sizeOf84
  v35 := Try.zeroValue84
  t36 := Try.underlying85
  a36 := Try.isAgg85
  z36 := Try.sizeOf85
  v36 := Try.zeroValue85
  t41 := Try.underlying90
  a41 := Try.isAgg90
  z41 := Try.sizeOf90
  v41 := Try.zeroValue90
  t44 := Try.underlying93
  a44 := Try.isAgg93
  z44 := Try.sizeOf93
  v44 := Try.zeroValue93
  t46 := Try.underlying95
  a46 := Try.isAgg95
  z46 := Try.sizeOf95
  v46 := Try.zeroValue95
  t53 := Try.underlying96
  a53 := Try.isAgg96
  z53 := Try.sizeOf96
  v53 := Try.zeroValue96
  t57 := Try.underlying100
  a57 := Try.isAgg100
  z57 := Try.sizeOf100
  v57 := Try.zeroValue100
  t63 := Try.underlying102
  a63 := Try.isAgg102
  z63 := Try.sizeOf102
  v63 := Try.zeroValue102
  t64 := Try.underlying103
  a64 := Try.isAgg103
  z64 := Try.sizeOf103
  v64 := Try.zeroValue103 }
end Go.Proofs

/- Bytes in memory, what the walks share. -/
namespace Go.Proofs.Ytcjfdebjgaohlaa
open Go.RowKit
namespace Jb
def g (b : List Nat) (i : Nat) : Nat := b.getD i 0
theorem g_lt {b : List Nat} (h : ∀ x ∈ b, x < 256) (i : Nat) : g b i < 256 := by
  unfold g
  by_cases hi : i < b.length
  · rw [List.getD_eq_getElem?_getD, List.getElem?_eq_getElem hi]; exact h _ (List.getElem_mem hi)
  · rw [List.getD_eq_getElem?_getD, List.getElem?_eq_none (by omega)]; decide

/-- The bytes as cells. -/
def u8s (bs : List Nat) : List Value := bs.map fun b => .int .u8 (b : Nat)
theorem u8s_len (bs : List Nat) : (u8s bs).length = bs.length := by simp [u8s]
theorem u8s_snoc (bs : List Nat) (b : Nat) : u8s (bs ++ [b]) = u8s bs ++ [.int .u8 (b : Nat)] := by simp [u8s]
theorem u8s_app (bs cs : List Nat) : u8s (bs ++ cs) = u8s bs ++ u8s cs := by simp [u8s]
theorem u8s_one (bs : List Nat) : ∀ u ∈ u8s bs, u.oneCell' = true := fun u hu => by simp [u8s] at hu; obtain ⟨x, _, rfl⟩ := hu; rfl
theorem u8s_get (bs : List Nat) (j : Nat) (hj : j < bs.length) : (u8s bs)[j]? = some (.int .u8 (bs.getD j 0 : Nat)) := by
  simp [u8s, List.getD_eq_getElem?_getD, hj]
theorem info5 : (Try.prog.info? 5).map (fun i => (i.zero, i.size, i.bytes)) = some (some (.int .u8 0), 1, 1) := by kernel_rfl
theorem info3 : (Try.prog.info? 3).map (fun i => (i.zero, i.size, i.bytes)) = some (some (.int .i64 0), 1, 8) := by kernel_rfl
theorem ret_int {k : IntKind} {a b : Int} (h : a = b) : Ending.returned (.int k a) = .returned (.int k b) := by rw [h]
theorem cell_lt {w : World} {a : Addr} {v : Value} (h : w.cell? a = some v) : a.block < w.heap.size := by
  unfold World.cell? at h
  by_cases hl : a.block < w.heap.size
  · exact hl
  · rw [Array.getElem?_eq_none (by omega)] at h; simp at h
theorem cell_other {w : World} {a b : Addr} {v : Value} (h : a ≠ b) : (w.setCell a v).cell? b = w.cell? b := by apply World.cell?_setCell_other; exact h
theorem cell_same {w : World} {a : Addr} {u v : Value} (h : w.cell? a = some u) : (w.setCell a v).cell? a = some v := by apply World.cell?_setCell_same; exact h

/-- A slice of these bytes, in a block of which R holds. -/
def Src (w : World) (R : Nat → Prop) (s : Value) (bs : List Nat) : Prop :=
  (bs = [] ∧ ∃ a c, s = .slice a 0 c) ∨ (0 < bs.length ∧ ∃ b off c, s = .slice (some ⟨b, off, none⟩) bs.length c ∧ bs.length ≤ c ∧ R b ∧ ∀ i, i < bs.length → w.cell? ⟨b, off + i, none⟩ = some (.int .u8 (g bs i : Nat)))

theorem Src.forms {w : World} {R : Nat → Prop} {s : Value} {bs : List Nat} (h : Src w R s bs) : ∃ a c, s = .slice a bs.length c := by
  rcases h with ⟨rfl, a, c, rfl⟩ | ⟨_, b, off, c, rfl, _⟩
  · exact ⟨a, c, rfl⟩
  · exact ⟨_, _, rfl⟩
theorem Src.imp {w : World} {R R' : Nat → Prop} {s : Value} {bs : List Nat} (h : Src w R s bs) (f : ∀ b, R b → R' b) : Src w R' s bs := by
  rcases h with h | ⟨h0, b, off, c, h1, h2, h3, h4⟩
  · exact .inl h
  · exact .inr ⟨h0, b, off, c, h1, h2, f b h3, h4⟩
theorem Src.move {w w' : World} {R : Nat → Prop} {s : Value} {bs : List Nat} (h : Src w R s bs) (f : ∀ b, R b → b < w.heap.size → w'.heap[b]? = w.heap[b]?) : Src w' R s bs := by
  rcases h with h | ⟨h0, b, off, c, h1, h2, h3, h4⟩
  · exact .inl h
  · exact .inr ⟨h0, b, off, c, h1, h2, h3, fun i hi => (World.cell?_of_block (f b h3 (by have := cell_lt (h4 i hi); exact this))).trans (h4 i hi)⟩
theorem Src.below {w w' : World} {R : Nat → Prop} {B : Nat} {s : Value} {bs : List Nat} (h : Src w R s bs) (b : Below B w w') (hB : ∀ k, R k → k < B) : Src w' R s bs := h.move fun k hk _ => b.block k (hB k hk)
theorem Src.drewN {w : World} {R : Nat → Prop} {s : Value} {bs : List Nat} (h : Src w R s bs) (n : Nat) : Src (w.drewN n) R s bs := h
theorem src_own {w : World} {B : Nat} {v : Value} {bs : List Nat} (h : w.ownsRow B 5 1 v bs.length (u8s bs)) : Src w (fun b => B ≤ b ∧ v.ownBlock = some b) v bs := by
  by_cases h0 : bs.length = 0
  · obtain rfl := List.length_eq_zero_iff.1 h0
    rcases Go.Joins.ownsRow_forms h with ⟨rfl, _⟩ | ⟨q, c, rfl⟩
    · exact .inl ⟨rfl, _, _, rfl⟩
    · exact .inl ⟨rfl, _, _, rfl⟩
  · obtain ⟨_, ⟨_, e⟩ | ⟨g, c, cur, rfl, hg, hh, hnc, hcm, hsz, htk⟩⟩ := h
    · omega
    · refine .inr ⟨by omega, g, 0, c, rfl, hnc, ⟨hg, rfl⟩, fun i hi => ?_⟩
      have h' : w.ownsRow B 5 1 (.slice (some ⟨g, 0, none⟩) bs.length c) bs.length (u8s bs) := ⟨by rw [u8s_len]; omega, .inr ⟨g, c, cur, rfl, hg, hh, hnc, hcm, hsz, htk⟩⟩
      rw [Nat.zero_add, h'.cellAt i (by omega)]
      exact u8s_get bs i hi

/-- The string of bytes. -/
def str (bs : List Nat) : ByteArray := strOfNums (bs.map fun b : Nat => (b : Int))
theorem str_inj {cs bs : List Nat} (ha : ∀ x ∈ cs, x < 256) (hb : ∀ x ∈ bs, x < 256) (h : str cs = str bs) : cs = bs := by
  have e : (str cs).data.toList = (str bs).data.toList := by rw [h]
  unfold str at e
  rw [strOfNums_data, strOfNums_data] at e
  simp only [List.map_map] at e
  have hl : cs.length = bs.length := by simpa using congrArg List.length e
  apply List.ext_getElem hl
  intro j h1 h2
  have ej : (UInt8.ofNat cs[j]) = UInt8.ofNat bs[j] := by
    have := congrArg (fun l => l[j]?) e
    simpa [h1, h2] using this
  have l1 := ha _ (List.getElem_mem h1)
  have l2 := hb _ (List.getElem_mem h2)
  have := congrArg UInt8.toNat ej
  simp only [UInt8.toNat_ofNat'] at this
  omega
theorem toList_eq {S T : ByteArray} (h : S = T) : (S.toList == T.toList) = true := by rw [h]; simp
theorem conv_cells (w : World) (src : TypeId) (hs : Try.prog.underlying src = some (.slice 5)) (b off c : Nat) (bs : List Nat) (h : ∀ i, i < bs.length → w.cell? ⟨b, off + i, none⟩ = some (.int .u8 (g bs i : Nat))) :
    (convert src 9 (.slice (some ⟨b, off, none⟩) bs.length c)).run Try.prog w = .ok (.string (str bs)) w := by
  refine run_convert_bytes_arg w src 5 hs Try.underlying5 b off bs.length c _ (by simp) (fun i hi => ?_) 9 Try.underlying9
  rw [h i hi]
  simp [g, List.getD_eq_getElem?_getD, hi]
theorem conv_src {w : World} {R : Nat → Prop} {s : Value} {bs : List Nat} (h : Src w R s bs) : (convert 29 9 s).run Try.prog w = .ok (.string (str bs)) w := by
  rcases h with ⟨rfl, a, c, rfl⟩ | ⟨h0, b, off, c, rfl, hl, _, hc⟩
  · cases a with
    | none => exact run_convert_bytes_nil w 29 5 Try.underlying29 Try.underlying5 0 c 9 Try.underlying9
    | some a =>
      rw [run_convert_bytes_string w 29 9 5 _ 0 c Try.underlying29 Try.underlying5 Try.underlying9]
      rw [run_bytesToString w a 0 c [] (by simpa using run_loadCells_list (P := Try.prog) w a [] (by simp))]
      rfl
  · exact conv_cells w 29 Try.underlying29 b off c bs hc
theorem conv_own {w : World} {B : Nat} {v : Value} {bs : List Nat} (h : w.ownsRow B 5 1 v bs.length (u8s bs)) : (convert 29 9 v).run Try.prog w = .ok (.string (str bs)) w := conv_src (src_own h)

/-! What has turned: what s owns; blocks have come. -/
def Own (w : World) (s s' : Value) : Prop := s'.ownBlock = s.ownBlock ∨ ∃ h, s'.ownBlock = some h ∧ w.heap.size ≤ h
theorem Own.refl (w : World) (s : Value) : Own w s s := .inl rfl
theorem Own.trans {a b : World} {s t u : Value} (h : Own a s t) (k : Own b t u) (hsz : a.heap.size ≤ b.heap.size) : Own a s u := by
  rcases k with k | ⟨j, k, hj⟩
  · rcases h with h | ⟨i, h, hi⟩
    · exact .inl (k.trans h)
    · exact .inr ⟨i, k.trans h, hi⟩
  · exact .inr ⟨j, k, by omega⟩
/-- Only what s owns has turned, and it is s' now that owns it, or what is new. -/
def Gr (w w' : World) (s s' : Value) : Prop := w.grownBy w' s.ownBlock ∧ Own w s s'
theorem Gr.refl (w : World) (s : Value) : Gr w w s s := ⟨World.grownBy.refl _ _, .refl _ _⟩
theorem Gr.trans {a b c : World} {s t u : Value} (h : Gr a b s t) (k : Gr b c t u) : Gr a c s u := by
  obtain ⟨h, o⟩ := h
  obtain ⟨k, p⟩ := k
  refine ⟨⟨k.os.trans h.os, k.tape.trans h.tape, k.output.trans h.output, Nat.le_trans h.size k.size, fun i hi hs => ?_⟩, o.trans p h.size⟩
  rw [k.block i (Nat.lt_of_lt_of_le hi h.size) ?_, h.block i hi hs]
  rcases o with o | ⟨j, o, hj⟩
  · rw [o]; exact hs
  · rw [o]; intro e; cases e; omega
theorem Gr.block {w w' : World} {s s' : Value} (h : Gr w w' s s') {k : Nat} (hk : k < w.heap.size) (hs : s.ownBlock ≠ some k) : w'.heap[k]? = w.heap[k]? := h.1.block k hk (fun e => hs e.symm)
theorem Gr.below {w w' : World} {s s' : Value} {B : Nat} (h : Gr w w' s s') (hB : B ≤ w.heap.size) (hs : ∀ k, s.ownBlock = some k → B ≤ k) : Below B w w' :=
  ⟨h.1.os, h.1.tape, h.1.output, h.1.size, fun k hk => h.block (by omega) (fun e => by have := hs k e; omega)⟩
theorem Gr.size {w w' : World} {s s' : Value} (h : Gr w w' s s') : w.heap.size ≤ w'.heap.size := h.1.size
/-- What an append leaves. -/
theorem gr_at {w w' : World} {s s' : Value} (h : w.grownBy w' s.ownBlock) (hat : s'.ownBlock = s.ownBlock ∨ s'.ownBlock = some w.heap.size) : Gr w w' s s' :=
  ⟨h, hat.imp id fun e => ⟨_, e, Nat.le_refl _⟩⟩
theorem gr_alloc {w w' : World} {s s' : Value} (o : Obj) (h : Gr (w.alloc o) w' s s') : Gr w w' s s' :=
  (show Gr w (w.alloc o) s s from ⟨World.grownBy_alloc w o _, .refl _ _⟩).trans h
theorem own_below {w w' : World} {B n : Nat} {e : TypeId} {v : Value} {xs : List Value} (h : w.ownsRow B e 1 v n xs) (b : Below w.heap.size w w') : w'.ownsRow B e 1 v n xs :=
  h.kept (row := none) ⟨b.os, b.tape, b.output, b.size, fun k hk _ => b.block k hk⟩ (by
    by_cases e : v.ownBlock = none
    · exact .inl e
    · exact .inr e)
def lenOf : Value → Nat
  | .slice _ n _ => n
  | _ => 0
end Jb
end Go.Proofs.Ytcjfdebjgaohlaa

/- A map from names to places in memory, by what it has. -/
namespace Go.Proofs.Ytcjfdebjgaohlaa
open Go.RowKit Go.Maps Go.ChangeMaps Go.MapKept
namespace Jm
open Jb

theorem law : Keyed Try.prog 9 := string_keyed Try.underlying9
theorem zeroE (w : World) : (zeroValue 56).run Try.prog w = .ok (.pointer none) w := by kernel_rfl
/-- How a place reads. -/
def R : Value → Option (DataW Unit × List MemPlace)
  | .pointer none => some (.nil, [])
  | .pointer (some ⟨b, 0, none⟩) => some (.lit (.int .i64 b), [])
  | _ => none
theorem R_inv {v : Value} {b : Nat} {ps : List MemPlace} (h : R v = some (.lit (.int .i64 b), ps)) : v = .pointer (some ⟨b, 0, none⟩) := by
  unfold R at h
  split at h
  · simp at h
  · rename_i c
    have e : c = b := by simp at h; omega
    rw [e]
  · simp at h
theorem R_nil {v : Value} {ps : List MemPlace} (h : R v = some (.nil, ps)) : v = .pointer none := by
  unfold R at h
  split at h
  · rfl
  · simp at h
  · simp at h
def key (s : ByteArray) : Lit := .string s.data.toList
theorem keyOf_s {s : ByteArray} (h : s.size ≤ maxLen) : keyOf Try.prog 9 (.string s) = some (key s) := WideMaps.keyOf_string_mk Try.underlying9 h
theorem key_inj {s s' : ByteArray} (h : key s = key s') : s = s' := by
  unfold key at h
  injection h with h
  have h2 : s.data = s'.data := Array.toList_inj.1 h
  exact ByteArray.ext h2
/-- Block m is a map of at most n entries: at s it has F s. -/
def Is (w : World) (m n : Nat) (F : ByteArray → Option Nat) : Prop :=
  ∃ D : DataW Unit, w.ownsMap Try.prog 9 R m n D ∧ (∀ s, F s ≠ none → s.size ≤ 64) ∧ (∀ l, Maps.has D l = true → ∃ s, F s ≠ none ∧ l = key s) ∧
    ∀ s, (F s = none → Maps.has D (key s) = false) ∧ (∀ q, F s = some q → Maps.has D (key s) = true ∧ D.atKey (key s) .nil = .lit (.int .i64 (q : Nat)))

theorem Is.lt {w : World} {m n : Nat} {F : ByteArray → Option Nat} (h : Is w m n F) : m < w.heap.size := by obtain ⟨D, h, _⟩ := h; exact h.lt
theorem Is.of_block {w w' : World} {m n : Nat} {F : ByteArray → Option Nat} (h : Is w m n F) (e : w'.heap[m]? = w.heap[m]?) : Is w' m n F := by
  obtain ⟨D, ⟨es, clock, hb, r⟩, h2⟩ := h
  exact ⟨D, ⟨es, clock, e.trans hb, r⟩, h2⟩
theorem Is.mono {w : World} {m n n' : Nat} {F : ByteArray → Option Nat} (h : Is w m n F) (hn : n ≤ n') : Is w m n' F := by
  obtain ⟨D, h1, h2⟩ := h
  exact ⟨D, h1.mono hn, h2⟩
theorem Is.ext {w : World} {m n : Nat} {F F' : ByteArray → Option Nat} (h : Is w m n F) (e : ∀ k, F k = F' k) : Is w m n F' := by
  obtain rfl : F = F' := funext e
  exact h
theorem made (w : World) : Is (w.alloc (.map #[] 0)) w.heap.size 0 (fun _ => none) :=
  ⟨.map [], World.ownsMap_made _ _ _ _, fun s h => absurd rfl h, fun l h => by simp [Maps.has] at h, fun k => ⟨fun _ => rfl, fun q h => by cases h⟩⟩
def pt (o : Option Nat) : Value := .pointer (o.map fun b => ⟨b, 0, none⟩)
/-- What a look-up answers. -/
theorem Is.look {w : World} {m n : Nat} {F : ByteArray → Option Nat} (h : Is w m n F) {s : ByteArray} (hs : s.size ≤ maxLen) :
    (Instr.lookup 39 (.map (some m)) (.string s) false).run Try.prog w = .ok (pt (F s)) w := by
  obtain ⟨D, h1, _, _, h2⟩ := h
  obtain ⟨v, ps, hrun, hv⟩ := h1.lookup law Try.underlying39 (zeroE w) (zd := .nil) (zp := []) rfl (keyOf_s hs)
  obtain ⟨h3, h4⟩ := h2 s
  cases hF : F s with
  | none =>
    have h6 := Maps.atKey_of_not_has (h3 hF) .nil
    rw [h6] at hv
    rw [R_nil hv] at hrun
    exact hrun
  | some q =>
    obtain ⟨h5, h6⟩ := h4 q hF
    rw [h6] at hv
    rw [R_inv hv] at hrun
    exact hrun
theorem look_nil (w : World) {s : ByteArray} (hs : s.size ≤ maxLen) : (Instr.lookup 39 (.map none) (.string s) false).run Try.prog w = .ok (.pointer none) w := by
  have := Maps.look_nil (P := Try.prog) (t := 39) (w := w) false law Try.underlying39 (zeroE w) (keyOf_s hs)
  simpa using this
/-- What a store leaves. -/
theorem Is.put {w : World} {m n : Nat} {F : ByteArray → Option Nat} (h : Is w m n F) {s : ByteArray} {b : Nat} (hs : s.size ≤ 64) (hn : n ≤ 140737488353272) :
    ∃ w', (Instr.mapUpdate 39 (.map (some m)) (.string s) (.pointer (some ⟨b, 0, none⟩))).run Try.prog w = .ok () w' ∧ Is w' m (n + 1) (fun x => if x = s then some b else F x) ∧ w.mapTurned w' m := by
  obtain ⟨D, h1, h64, hk, h2⟩ := h
  have hml : s.size ≤ maxLen := by unfold maxLen; omega
  obtain ⟨w', hrun, ho, ht⟩ := h1.store law Try.underlying39 (by unfold maxLen; omega) (keyOf_s hml) (val := .pointer (some ⟨b, 0, none⟩)) (d := .lit (.int .i64 b)) (ps := []) rfl
  have hm := h1.isMap
  have hkl : WideAt.IsKeyLit (key s) := law.key (keyOf_s hml)
  refine ⟨w', hrun, ⟨_, ho, fun x hx => ?_, fun l hl => ?_, fun x => ⟨fun hF => ?_, fun q hF => ?_⟩⟩, ht⟩
  · dsimp only at hx
    by_cases e : x = s
    · rw [e]; exact hs
    · rw [if_neg e] at hx; exact h64 x hx
  · by_cases e : l = key s
    · exact ⟨s, by simp, e⟩
    · rw [Maps.has_put_other e] at hl
      obtain ⟨x, hx, rfl⟩ := hk l hl
      have hxs : x ≠ s := fun e' => e (by rw [e'])
      exact ⟨x, by simpa [hxs] using hx, rfl⟩
  · dsimp only at hF
    by_cases e : x = s
    · rw [if_pos e] at hF; cases hF
    · rw [if_neg e] at hF
      rw [Maps.has_put_other (fun e' => e (key_inj e'))]
      exact (h2 x).1 hF
  · dsimp only at hF
    by_cases e : x = s
    · rw [if_pos e] at hF
      cases hF
      subst e
      exact ⟨Maps.has_put_same hm hkl _, Maps.atKey_put_same hm hkl _ _⟩
    · rw [if_neg e] at hF
      rw [Maps.has_put_other (fun e' => e (key_inj e')), Maps.atKey_put_other (fun e' => e (key_inj e'))]
      exact (h2 x).2 q hF
/-- What a delete leaves. -/
theorem Is.del {w : World} {m n : Nat} {F : ByteArray → Option Nat} (h : Is w m n F) {s : ByteArray} (hs : s.size ≤ maxLen) :
    ∃ w', (∀ ty, (Builtin.delete_ #[39, 9] ty #[.map (some m), .string s]).run Try.prog w = .ok (.tuple #[]) w') ∧ Is w' m n (fun x => if x = s then none else F x) ∧ w.mapTurned w' m := by
  obtain ⟨D, h1, h64, hk, h2⟩ := h
  obtain ⟨w', hrun, ho, ht⟩ := h1.drop law Try.underlying39 (keyOf_s hs) 0
  refine ⟨w', fun ty => ?_, ⟨_, ho, fun x hx => ?_, fun l hl => ?_, fun x => ⟨fun hF => ?_, fun q hF => ?_⟩⟩, ht⟩
  · rw [← hrun]; rfl
  · dsimp only at hx
    by_cases e : x = s
    · rw [if_pos e] at hx; exact absurd rfl hx
    · rw [if_neg e] at hx; exact h64 x hx
  · by_cases e : l = key s
    · subst e; rw [Maps.has_del_same] at hl; cases hl
    · rw [Maps.has_del_other e] at hl
      obtain ⟨x, hx, rfl⟩ := hk l hl
      have hxs : x ≠ s := fun e' => e (by rw [e'])
      exact ⟨x, by simpa [hxs] using hx, rfl⟩
  · dsimp only at hF
    by_cases e : x = s
    · subst e; exact Maps.has_del_same
    · rw [if_neg e] at hF
      rw [Maps.has_del_other (fun e' => e (key_inj e'))]
      exact (h2 x).1 hF
  · dsimp only at hF
    by_cases e : x = s
    · rw [if_pos e] at hF; cases hF
    · rw [if_neg e] at hF
      rw [Maps.has_del_other (fun e' => e (key_inj e')), Maps.atKey_del_other (fun e' => e (key_inj e'))]
      exact (h2 x).2 q hF
/-- 'delete(m, k)' at the operation. -/
theorem wpList_del {w w' : World} {ops : Array Oper} {rest : List Oper} {o : Oper} {a : Act} {Q : Exit → Act → World → Prop} (hg : o.guard = none) (m x : Operand) (hop : o.op = Op.call { callee := Callee.builtin Builtin.delete, args := #[m, x], argTypes := #[39, 9] })
    (mv kv : Value) (hm : a.eval m = mv) (hk : a.eval x = kv) (hrun : ∀ ty, (Builtin.delete_ #[39, 9] ty #[mv, kv]).run Try.prog w = .ok (.tuple #[]) w')
    (hK : wpList Try.prog ops Q rest (a.put o.dst (.tuple #[])) w') : wpList Try.prog ops Q (o :: rest) a w := by
  refine wpList_plain hg fun K' hK' => ?_
  unfold Oper.wp
  simp [execOp, hop, resolve, invoke, builtin, hm, hk, hrun, Result.andThen]
  exact hK' _ _ hK
end Jm
end Go.Proofs.Ytcjfdebjgaohlaa
