/- A column's pointer, be it one of the cache's or one without points. -/
import Derived.Test.YtloiclmngmnbdaaCr
import Derived.Test.YtloiclmngmnbdaaCf
import Derived.Test.YtloiclmngmnbdaaDc
namespace Go.Proofs.Ytloiclmngmnbdaa
open Go.RowKit Go.Maps Go.ChangeMaps Go.MapKept
namespace Ce
open Jb Ca Ck Ct Cd Ls Lb Lc Ld Li Lj Lk Lm Ln Lo Lp Cq Cr Da Db Dc

theorem hold36_new (w : World) (S : Nat → Prop) (g N : Nat) (d : St) (h : Dk w S g N d) (s : Ky) (hs : ok s) (hF : d.F s = none) (f' : Co) (hf : Cm w f') (hfd : ∀ k, foot f' k → ¬ S k) (hN : N ≤ 140737488353000) :
    Calls Try.prog 36 #[.pointer (some ⟨g, 0, none⟩), kv s, .pointer (some ⟨f'.blk, 0, none⟩)] w fun e w' => e = .returned (.tuple #[]) ∧ ∃ m, Dk w' (fun k => New S w w' k ∨ foot f' k) g (N + 1) { d with fv := .map (some m), F := fun y => if y = s then some f' else d.F y } ∧ Chg w w' S := by
  rcases h.fv with ⟨a, _⟩ | ⟨m, a, b, c, i⟩
  · exact hold36_new0 w S g N d h s hs hF f' hf hfd hN a
  · exact hold36_new1 w S g N d h s hs hF f' hf hfd hN m a b c i
def pts : Option Co → List Pnt
  | none => []
  | some f => f.L
def ft (b : Nat) : Option Co → Nat → Prop
  | none => fun k => k = b
  | some f => foot f
def Ptr (w : World) (b : Nat) : Option Co → Prop
  | none => w.cell? ⟨b, 0, none⟩ = some (.slice none 0 0) ∧ w.frozen? ⟨b, 0, none⟩ = false
  | some f => f.blk = b ∧ Cm w f
theorem ft_b {w : World} {b : Nat} {o : Option Co} (h : Ptr w b o) : ft b o b := by
  cases o with
  | none => rfl
  | some f => exact .inl h.1.symm
theorem Ptr.lt {w : World} {b : Nat} {o : Option Co} (h : Ptr w b o) {k : Nat} (hk : ft b o k) : k < w.heap.size := by
  cases o with
  | none => have := cell_lt h.1; rw [show k = b from hk]; exact this
  | some f => exact h.2.lt hk
theorem Ptr.move {w w' : World} {b : Nat} {o : Option Co} (h : Ptr w b o) (e : ∀ k, ft b o k → w'.heap[k]? = w.heap[k]?) : Ptr w' b o := by
  cases o with
  | none => exact ⟨(World.cell?_of_block (e b rfl)).trans h.1, (World.frozen?_of_block (e b rfl)).trans h.2⟩
  | some f => exact ⟨h.1, h.2.move e⟩
theorem Ptr.below {w w' : World} {b B : Nat} {o : Option Co} (h : Ptr w b o) (bl : Below B w w') (hB : w.heap.size ≤ B) : Ptr w' b o := h.move fun k hk => bl.block k (Nat.lt_of_lt_of_le (h.lt hk) hB)
theorem Ptr.rise {w : World} {b : Nat} {o : Option Co} (h : Ptr w b o) : Rise (pts o) := by
  cases o with
  | none => exact List.Pairwise.nil
  | some f => exact h.2.rise
theorem find25 (w : World) (S : Nat → Prop) (g N : Nat) (d : St) (h : Dk w S g N d) (s : Ky) (hs : ok s) : Calls Try.prog 25 #[.pointer (some ⟨g, 0, none⟩), kv s] w fun e w' => ∃ b, e = .returned (.pointer (some ⟨b, 0, none⟩)) ∧ Ptr w' b (d.F s) ∧ Below w.heap.size w w' ∧ (d.F s = none → w.heap.size ≤ b) := by
  cases hF : d.F s with
  | none =>
    refine (find25_none w S g N d h s hs hF).mono ?_
    rintro e w' ⟨b, rfl, h1, h2, h3, h4⟩
    exact ⟨b, rfl, ⟨h2, h3⟩, h4, fun _ => h1⟩
  | some f =>
    refine (find25_some w S g N d h s hs f hF).mono ?_
    rintro e w' ⟨rfl, h4⟩
    exact ⟨f.blk, rfl, ⟨rfl, (h.fm s f hF).1.below h4 (Nat.le_refl _)⟩, h4, fun e => by cases e⟩
def tk (L : List Pnt) (k : Int) : Bool := decide (L = []) || decide ((L.getD 0 p0).2.1 = k)
theorem takes32 (w : World) (b : Nat) (o : Option Co) (h : Ptr w b o) (k : Int) : Calls Try.prog 32 #[.pointer (some ⟨b, 0, none⟩), .int .i64 k] w fun e w' => e = .returned (.bool (tk (pts o) k)) ∧ Below w.heap.size w w' := by
  cases o with
  | none =>
    refine (takes32_0 w b k h.1).mono ?_
    rintro e w' ⟨rfl, rfl⟩
    exact ⟨rfl, Below.refl _ _⟩
  | some f =>
    have e : tk (pts (some f)) k = decide ((f.L.getD 0 p0).2.1 = k) := by
      unfold tk pts
      rw [decide_eq_false h.2.ne, Bool.false_or]
    rw [e, ← h.1]
    exact takes32_1 w f h.2 k
theorem has33 (w : World) (b : Nat) (o : Option Co) (h : Ptr w b o) (t : Int) (hl : (pts o).length ≤ 1000000000) : Calls Try.prog 33 #[.pointer (some ⟨b, 0, none⟩), .int .i64 t] w fun e w' => e = .returned (.bool (has t (pts o))) ∧ Below w.heap.size w w' := by
  cases o with
  | none => exact has33_0 w b t h.1
  | some f => rw [← h.1]; exact has33_1 w f h.2 t hl
theorem put35p (w : World) (b : Nat) (o : Option Co) (h : Ptr w b o) (p : Pnt) (hp : Wp p) (hl : (pts o).length ≤ 511) :
    Calls Try.prog 35 #[.pointer (some ⟨b, 0, none⟩), pa p] w fun e w' => e = .returned (.tuple #[]) ∧ Put w b (ft b o) (ins p (pts o)) w' := by
  cases o with
  | none => exact put35_0 w b p hp h.1 h.2
  | some f => rw [← h.1]; exact put35 w f h.2 p hp hl
theorem between26p (w : World) (b : Nat) (o : Option Co) (h : Ptr w b o) (s t : Int) (hl : (pts o).length ≤ 1000000) : Calls Try.prog 26 #[.pointer (some ⟨b, 0, none⟩), .int .i64 s, .int .i64 t] w fun e w' => ∃ r, e = .returned r ∧ w'.ownsRow w.heap.size 32 4 r (rng s t (pts o)).length (pcs (rng s t (pts o))) ∧ Below w.heap.size w w' := by
  cases o with
  | none => exact between26_0 w b s t h.1
  | some f => rw [← h.1]; exact between26 w f h.2 s t hl
/-- The cache, as it is seen. -/
structure Vw where
  most : Nat
  size : Nat
  P : Ky → List Pnt
def vw (d : St) : Vw := ⟨d.most, d.size, fun y => pts (d.F y)⟩
def putE (V : Vw) (s : Ky) (p : Pnt) : Int := if formed p.2 = false then 1 else if tk (V.P s) p.2.1 = false then 5 else if has p.1 (V.P s) = false ∧ V.most ≤ V.size then 7 else 0
def putV (V : Vw) (s : Ky) (p : Pnt) : Vw := if putE V s p = 0 then { V with size := V.size + (if has p.1 (V.P s) then 0 else 1), P := fun y => if y = s then ins p (V.P s) else V.P y } else V
set_option maxRecDepth 100000
theorem get15 (w : World) (S : Nat → Prop) (g N : Nat) (d : St) (h : Dk w S g N d) (s : Ky) (hs : ok s) (a b : Int) (hl : (pts (d.F s)).length ≤ 1000000) :
    Calls Try.prog 15 #[.pointer (some ⟨g, 0, none⟩), .string s.1, .string s.2, .int .i64 a, .int .i64 b] w fun e w' => ∃ r, e = .returned r ∧ w'.ownsRow w.heap.size 32 4 r (rng a b (pts (d.F s))).length (pcs (rng a b (pts (d.F s)))) ∧ Below w.heap.size w w' := by
  have FI := Lib.hid (find25 w S g N d h s hs)
  have BE := Lib.hid (fun w1 c (hc : Ptr w1 c (d.F s)) => between26p w1 c (d.F s) hc a b hl)
  unfold kv at FI
  clear h hs
  go_enter Try.func15, Try.ntmps15
  go_wp2_with fail
  refine FI.out.mono ?_
  rintro e w1 ⟨c, rfl, pt, b1, _⟩
  have BB := Lib.hid (BE.out w1 c pt)
  have B1 := Lib.hid b1
  clear pt b1
  go_wp2_with fail
  refine BB.out.mono ?_
  rintro e w2 ⟨r, rfl, o2, b2⟩
  have O2 := Lib.hid (own_base o2 B1.out.size)
  have B2 := Lib.hid (B1.out.trans (b2.mono B1.out.size))
  clear o2 b2
  go_wp2_with fail
  go_ret
  exact ⟨_, rfl, O2.out, B2.out⟩
theorem get15_nil (w : World) (s : Ky) (a b : Int) : Calls Try.prog 15 #[.pointer none, .string s.1, .string s.2, .int .i64 a, .int .i64 b] w fun e w' => ∃ r, e = .returned r ∧ w'.ownsRow w.heap.size 32 4 r 0 [] ∧ Below w.heap.size w w' := by
  have FI := Lib.hid (find25_nil w s)
  have BE := Lib.hid (fun w1 c hc => between26_0 w1 c a b hc)
  unfold kv at FI
  go_enter Try.func15, Try.ntmps15
  go_wp2_with fail
  refine FI.out.mono ?_
  rintro e w1 ⟨c, rfl, h1, h2, h3, b1⟩
  have BB := Lib.hid (BE.out w1 c h2)
  have B1 := Lib.hid b1
  clear h1 h2 h3 b1
  go_wp2_with fail
  refine BB.out.mono ?_
  rintro e w2 ⟨r, rfl, o2, b2⟩
  have O2 := Lib.hid (own_base o2 B1.out.size)
  have B2 := Lib.hid (B1.out.trans (b2.mono B1.out.size))
  clear o2 b2
  go_wp2_with fail
  go_ret
  exact ⟨_, rfl, O2.out, B2.out⟩
end Ce
end Go.Proofs.Ytloiclmngmnbdaa
