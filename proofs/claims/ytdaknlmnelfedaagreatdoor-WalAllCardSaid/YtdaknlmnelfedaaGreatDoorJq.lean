/- The disk by what is seen of it; the law's own test that the program is awake. -/
import Derived.Test.YtdaknlmnelfedaaGreatDoorJo
import Derived.Lib.SlBytesConst
import Derived.Lib.LaidU8
namespace Go.Proofs.YtdaknlmnelfedaaGreatDoor
open Go.RowKit Go.Maps Go.ChangeMaps Go.MapKept
namespace Jq
open Jb Jm Jd Jw Jx Jn Je Jf Jg Jh Jk Jc Jl Jo

/-- A disk of which V is seen. -/
def DV (w : World) (S : Nat → Prop) (g N : Nat) (V : Vw) : Prop := ∃ d, Dk w S g N d ∧ vw d = V
theorem DV.move {w w' : World} {S : Nat → Prop} {g N : Nat} {V : Vw} (h : DV w S g N V) (hs : w.heap.size ≤ w'.heap.size) (e : ∀ k, S k → k < w.heap.size → w'.heap[k]? = w.heap[k]?) : DV w' S g N V := by
  obtain ⟨d, h, rfl⟩ := h
  exact ⟨d, h.move hs fun k hk => e k hk (h.lt k hk), rfl⟩
theorem DV.below {w w' : World} {S : Nat → Prop} {g N B : Nat} {V : Vw} (h : DV w S g N V) (b : Below B w w') (hB : w.heap.size ≤ B) : DV w' S g N V :=
  h.move b.size fun k _ hk => b.block k (by omega)
theorem DV.lt {w : World} {S : Nat → Prop} {g N : Nat} {V : Vw} (h : DV w S g N V) {k : Nat} (hk : S k) : k < w.heap.size := by obtain ⟨d, h, _⟩ := h; exact h.lt k hk
theorem DV.set {w : World} {S S' : Nat → Prop} {g N : Nat} {V : Vw} (h : DV w S g N V) (f : ∀ k, S k → S' k) (hl : ∀ k, S' k → k < w.heap.size) : DV w S' g N V := by
  obtain ⟨d, h, e⟩ := h
  exact ⟨d, h.set f hl, e⟩
theorem DV.new {w w' : World} {S : Nat → Prop} {g N : Nat} {V : Vw} (h : DV w' S g N V) : DV w' (New S w w') g N V := h.set (fun _ hk => .inl hk) (fun _ hk => hk.elim (fun e => h.lt e) (fun e => e.2))
theorem DV.mono {w : World} {S : Nat → Prop} {g N N' : Nat} {V : Vw} (h : DV w S g N V) (hn : N ≤ N') : DV w S g N' V := by
  obtain ⟨d, h, e⟩ := h
  exact ⟨d, Dk.mono h hn, e⟩
/-- A disk without files. -/
def V0 (room : Nat) : Vw := ⟨fun _ => none, 0, room, false, 0, false⟩
theorem vw0 (room : Nat) : vw (st0 room) = V0 room := rfl
theorem New_c (w : World) (n : Int) (hn : -9223372036854775808 ≤ n ∧ n ≤ 9223372036854775807) :
    Calls Tryz.prog 7 #[.int .i64 n] w fun e w' => e = .returned (.pointer (some ⟨w.heap.size, 0, none⟩)) ∧ DV w' (fun k => w.heap.size ≤ k ∧ k < w'.heap.size) w.heap.size 0 (V0 n.toNat) ∧ Below w.heap.size w w' := by
  refine (new9 w n hn).mono ?_
  rintro e w' ⟨rfl, h1, h2⟩
  exact ⟨rfl, ⟨_, h1, vw0 _⟩, h2⟩
theorem Used_c (w : World) (S : Nat → Prop) (g N : Nat) (V : Vw) (h : DV w S g N V) : Calls Tryz.prog 14 #[.pointer (some ⟨g, 0, none⟩)] w fun e w' => e = .returned (.int .i64 (V.used : Nat)) ∧ w' = w := by
  obtain ⟨d, h, rfl⟩ := h
  exact used19 w g d h.cs
theorem Down_c (w : World) (S : Nat → Prop) (g N : Nat) (V : Vw) (h : DV w S g N V) : Calls Tryz.prog 12 #[.pointer (some ⟨g, 0, none⟩)] w fun e w' => e = .returned (.bool V.down) ∧ w' = w := by
  obtain ⟨d, h, rfl⟩ := h
  exact down24 w g d h.cs
theorem Append_c (w : World) (S : Nat → Prop) (g N : Nat) (V : Vw) (h : DV w S g N V) (s : ByteArray) (hs : s.size ≤ 140737488355328) (R : Nat → Prop) (hR : ∀ k, R k → ¬ S k) (v : Value) (bs : List Nat) (hv : Src w R v bs) (hcap : ∀ c, v = .slice none bs.length c → c = 0) (hby : ∀ x ∈ bs, x < 256)
    (hN : N ≤ 140737488353000) (hB : (old V s).1.length + bs.length ≤ 140737488355328) (hU : V.used + bs.length ≤ 9223372036854775807) :
    Calls Tryz.prog 48 #[.pointer (some ⟨g, 0, none⟩), .string s, v] w fun e w' => e = .returned (.tuple #[.int .i64 (appN V s bs.length : Nat), .int .i64 (appE V s bs.length : Nat)]) ∧ DV w' (New S w w') g (N + 1) (appV V s bs) ∧ Chg w w' S := by
  obtain ⟨d, h, rfl⟩ := h
  by_cases hoff : d.down = true ∨ isNm s = false ∨ (vw d).lost = true
  · refine (append_off w S g N d h s hs v bs.length hoff).mono ?_
    rintro e w' ⟨rfl, d', h1, h2, h3⟩
    have e1 : appN (vw d) s bs.length = 0 := by
      unfold appN
      split
      · rfl
      · rename_i hd
        split
        · rename_i hn
          rw [if_pos]
          rcases hoff with e | e | e
          · exact absurd e hd
          · rw [hn] at e; cases e
          · exact e
        · rfl
    have e2 : appV (vw d) s bs = offV (vw d) s := by
      unfold appV offV
      split
      · rfl
      · rename_i hd
        split
        · rename_i hn
          rw [if_pos]
          rcases hoff with e | e | e
          · exact absurd e hd
          · rw [hn] at e; cases e
          · exact e
        · rfl
    rw [e1, e2, ← h1]
    exact ⟨rfl, (DV.mono ⟨d', h2, rfl⟩ (Nat.le_succ _)).new, h3⟩
  · have hd : d.down = false := by
      cases e : d.down
      · rfl
      · exact absurd (.inl e) hoff
    have hn : isNm s = true := by
      cases e : isNm s
      · exact absurd (.inr (.inl e)) hoff
      · rfl
    have hl : (vw d).lost = false := by
      cases e : (vw d).lost
      · rfl
      · exact absurd (.inr (.inr e)) hoff
    refine (append_on w S g N d h s R hR v bs hv hcap hby hN hd hn hl hB hU).mono ?_
    rintro e w' ⟨rfl, d', h1, h2, h3⟩
    exact ⟨rfl, ⟨d', h2, h1⟩, h3⟩
def sa : ByteArray := ⟨#[97]⟩
def sb : ByteArray := ⟨#[98]⟩
theorem nm_sa : isNm sa = true := by kernel_rfl
theorem Read_c (w : World) (S : Nat → Prop) (g N : Nat) (V : Vw) (h : DV w S g N V) (s : ByteArray) (hs : s.size ≤ 140737488355328) (bs : List Nat) (k : Nat) (hd : V.down = false) (hF : V.F s = some (bs, k)) (hb : bs.length ≤ 140737488355328) :
    Calls Tryz.prog 43 #[.pointer (some ⟨g, 0, none⟩), .string s] w fun e w' => ∃ v, e = .returned (.tuple #[v, .int .i64 0]) ∧ w'.ownsRow w.heap.size 5 1 v bs.length (u8s bs) ∧ Below w.heap.size w w' := by
  obtain ⟨d, h, rfl⟩ := h
  cases hf : d.F s with
  | none => simp [vw, hf] at hF
  | some f =>
    have e : ab f = (bs, k) := by simpa [vw, hf] using hF
    have e1 : f.bs = bs := congrArg Prod.fst e
    rw [← e1] at hb ⊢
    exact read_on w S g N d h s hs f hd hf hb
theorem Read_bad (w : World) (S : Nat → Prop) (g N : Nat) (V : Vw) (h : DV w S g N V) (s : ByteArray) (hs : s.size ≤ 140737488355328) (hE : finE V s ≠ 0) :
    Calls Tryz.prog 43 #[.pointer (some ⟨g, 0, none⟩), .string s] w fun e w' => e = .returned (.tuple #[.slice none 0 0, .int .i64 (finE V s : Nat)]) ∧ w' = w := by
  obtain ⟨d, h, rfl⟩ := h
  exact read_bad w S g N d h s hs hE
theorem Sync_bad (w : World) (S : Nat → Prop) (g N : Nat) (V : Vw) (h : DV w S g N V) (s : ByteArray) (hs : s.size ≤ 140737488355328) (hE : finE V s ≠ 0) :
    Calls Tryz.prog 50 #[.pointer (some ⟨g, 0, none⟩), .string s] w fun e w' => e = .returned (.int .i64 (finE V s : Nat)) ∧ w' = w := by
  obtain ⟨d, h, rfl⟩ := h
  exact sync_bad w S g N d h s hs hE
def Vabc : Vw := appV (V0 3) sa [97, 98, 99, 100]
end Jq
end Go.Proofs.YtdaknlmnelfedaaGreatDoor
