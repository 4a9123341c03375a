/- A log in memory. -/
import Derived.Test.YtdaknlmnelfedaaGreatDoorV1
import Derived.Test.YtdaknlmnelfedaaGreatDoorJr
namespace Go.Proofs.YtdaknlmnelfedaaGreatDoor
open Go.RowKit Go.Maps Go.ChangeMaps Go.MapKept
namespace V2
open Jb Jm Jd Jw Jx Jn Je Jf Jg Jh Jk Jc Jl Jo Jq J1 J2 J3 J4 W1 W2 W3 V1

/-- A slice of slices of bytes; what it leads to lies in T, and not in block p. -/
def ER (w : World) (p : Nat) (T : Nat → Prop) (ev : Value) (es : List (List Nat)) : Prop :=
  (es = [] ∧ ev = .slice none 0 0) ∨
  ∃ b off cap, ev = .slice (some ⟨b, off, none⟩) es.length cap ∧ 0 < es.length ∧ es.length ≤ cap ∧ cap ≤ maxLen ∧ T b ∧ b ≠ p ∧
    (∀ j, j < cap → (w.cell? ⟨b, off + j, none⟩).isSome = true ∧ w.frozen? ⟨b, off + j, none⟩ = false) ∧
    ∀ i (h : i < es.length), ∃ v, w.cell? ⟨b, off + i, none⟩ = some v ∧ Src w (fun k => T k ∧ k ≠ b ∧ k ≠ p) v es[i]
theorem ER.move {w w' : World} {p : Nat} {T T' : Nat → Prop} {ev : Value} {es : List (List Nat)} (h : ER w p T ev es) (f : ∀ k, T k → T' k) (e : ∀ k, T k → k ≠ p → w'.heap[k]? = w.heap[k]?) : ER w' p T' ev es := by
  rcases h with h | ⟨b, off, cap, h1, h2, h3, h4, h5, h6, h7, h8⟩
  · exact .inl h
  · have eb := e b h5 h6
    refine .inr ⟨b, off, cap, h1, h2, h3, h4, f b h5, h6, fun j hj => ?_, fun i hi => ?_⟩
    · rw [World.cell?_of_block eb, World.frozen?_of_block eb]; exact h7 j hj
    · obtain ⟨v, a, c⟩ := h8 i hi
      exact ⟨v, (World.cell?_of_block eb).trans a, (c.move fun k hk _ => e k hk.1 hk.2.2).imp fun k hk => ⟨f k hk.1, hk.2⟩⟩
theorem ER.form {w : World} {p : Nat} {T : Nat → Prop} {ev : Value} {es : List (List Nat)} (h : ER w p T ev es) : ∃ a c, ev = .slice a es.length c := by
  rcases h with ⟨rfl, rfl⟩ | ⟨b, off, cap, h1, _⟩
  · exact ⟨none, 0, rfl⟩
  · exact ⟨_, _, h1⟩

/-- The log at block p, its disk at block g, all else of it in T. -/
structure LM (w : World) (T : Nat → Prop) (p g : Nat) (L : Lg) (ov : Bool) : Prop where
  c0 : w.cell? ⟨p, 0, none⟩ = some (.pointer (some ⟨g, 0, none⟩))
  c1 : w.cell? ⟨p, 1, none⟩ = some (.int .i64 (L.first : Nat))
  c2 : ∃ ev, w.cell? ⟨p, 2, none⟩ = some ev ∧ ER w p T ev L.es
  c3 : w.cell? ⟨p, 3, none⟩ = some (.bool ov)
  z : ∀ i, w.frozen? ⟨p, i, none⟩ = false
  tp : T p
  lt : ∀ k, T k → k < w.heap.size
  byte : ∀ b ∈ L.es, ∀ x ∈ b, x < 256
  len : ∀ b ∈ L.es, b.length ≤ 140737488355328
theorem LM.move {w w' : World} {T : Nat → Prop} {p g : Nat} {L : Lg} {ov : Bool} (h : LM w T p g L ov) (hs : w.heap.size ≤ w'.heap.size) (e : ∀ k, T k → w'.heap[k]? = w.heap[k]?) : LM w' T p g L ov := by
  have ep := e p h.tp
  obtain ⟨ev, a, b⟩ := h.c2
  exact ⟨(World.cell?_of_block ep).trans h.c0, (World.cell?_of_block ep).trans h.c1, ⟨ev, (World.cell?_of_block ep).trans a, b.move (fun _ hk => hk) fun k hk _ => e k hk⟩, (World.cell?_of_block ep).trans h.c3,
    fun i => (World.frozen?_of_block ep).trans (h.z i), h.tp, fun k hk => Nat.lt_of_lt_of_le (h.lt k hk) hs, h.byte, h.len⟩

/-- What the names' walks lean on; it lies below B. -/
structure En (w : World) (B : Nat) : Prop where
  tab : Tab w
  err : Err w
  lo : 5 ≤ B
  hi : B ≤ w.heap.size
theorem En.move {w w' : World} {B : Nat} (h : En w B) (hs : w.heap.size ≤ w'.heap.size) (e : ∀ k, k < B → w'.heap[k]? = w.heap[k]?) : En w' B := by
  have lo := h.lo
  refine ⟨?_, ?_, lo, Nat.le_trans h.hi hs⟩
  · have hg : Tryz.prog.globalNamed "internal/strconv.uint64pow10" = some 2 := by kernel_rfl
    have ht := h.tab
    unfold Tab Lib.TabIs World.var? at ht ⊢
    rw [hg] at ht ⊢
    simp only [Option.bind_some] at ht ⊢
    rw [e 2 (by omega)]
    exact ht
  · obtain ⟨ev, a, b⟩ := h.err
    exact ⟨ev, (World.cell?_of_block (e 0 (by omega))).trans a, b⟩
/-- A log upon its disk: all of it in U, from B on. -/
structure WS (w : World) (U : Nat → Prop) (B p g N : Nat) (V : Vw) (L : Lg) (ov : Bool) : Prop where
  ex : ∃ S T, DV w S g N V ∧ LM w T p g L ov ∧ (∀ k, S k → ¬ T k) ∧ (∀ k, S k → U k) ∧ ∀ k, T k → U k
  uok : UOk V N
  en : En w B
  ge : ∀ k, U k → B ≤ k
  lt : ∀ k, U k → k < w.heap.size
theorem WS.move {w w' : World} {U : Nat → Prop} {B p g N : Nat} {V : Vw} {L : Lg} {ov : Bool} (h : WS w U B p g N V L ov) (hs : w.heap.size ≤ w'.heap.size) (e : ∀ k, U k → w'.heap[k]? = w.heap[k]?) (e2 : ∀ k, k < B → w'.heap[k]? = w.heap[k]?) : WS w' U B p g N V L ov := by
  obtain ⟨S, T, h1, h2, h3, h4, h5⟩ := h.ex
  exact ⟨⟨S, T, h1.move hs fun k hk _ => e k (h4 k hk), h2.move hs fun k hk => e k (h5 k hk), h3, h4, h5⟩, h.uok, h.en.move hs e2, h.ge, fun k hk => Nat.lt_of_lt_of_le (h.lt k hk) hs⟩
theorem WS.below {w w' : World} {U : Nat → Prop} {B p g N : Nat} {V : Vw} {L : Lg} {ov : Bool} (h : WS w U B p g N V L ov) (b : Below w.heap.size w w') : WS w' U B p g N V L ov :=
  h.move b.size (fun k hk => b.block k (h.lt k hk)) fun k hk => b.block k (by have := h.en.hi; omega)
theorem WS.chg {w w' : World} {U X : Nat → Prop} {B p g N : Nat} {V : Vw} {L : Lg} {ov : Bool} (h : WS w U B p g N V L ov) (b : Chg w w' X) (hx : ∀ k, X k → ¬ U k ∧ B ≤ k) : WS w' U B p g N V L ov :=
  h.move b.size (fun k hk => b.block k (h.lt k hk) fun e => (hx k e).1 hk) fun k hk => b.block k (by have := h.en.hi; omega) fun e => by have := (hx k e).2; omega
theorem WS.new {w w' : World} {U : Nat → Prop} {B p g N : Nat} {V : Vw} {L : Lg} {ov : Bool} (h : WS w' U B p g N V L ov) (hB : B ≤ w.heap.size) : WS w' (New U w w') B p g N V L ov := by
  obtain ⟨S, T, h1, h2, h3, h4, h5⟩ := h.ex
  exact ⟨⟨S, T, h1, h2, h3, fun k hk => .inl (h4 k hk), fun k hk => .inl (h5 k hk)⟩, h.uok, h.en, fun k hk => hk.elim (h.ge k) (fun e => by omega), fun k hk => hk.elim (h.lt k) (fun e => e.2)⟩
theorem WS.mono {w : World} {U : Nat → Prop} {B p g N N' : Nat} {V : Vw} {L : Lg} {ov : Bool} (h : WS w U B p g N V L ov) (hn : N ≤ N') : WS w U B p g N' V L ov := by
  obtain ⟨S, T, h1, h2, h3, h4, h5⟩ := h.ex
  obtain ⟨l, u1, u2, u3⟩ := h.uok
  exact ⟨⟨S, T, h1.mono hn, h2, h3, h4, h5⟩, ⟨l, u1, u2, by omega⟩, h.en, h.ge, h.lt⟩
/-- A call of the disk's, within the log. -/
theorem WS.disk {w w' : World} {U S T : Nat → Prop} {B p g N N' : Nat} {V V' : Vw} {L : Lg} {ov : Bool} (h : WS w U B p g N V L ov) (h2 : LM w T p g L ov) (h3 : ∀ k, S k → ¬ T k) (h4 : ∀ k, S k → U k) (h5 : ∀ k, T k → U k)
    (k1 : DV w' (New S w w') g N' V') (c : Chg w w' S) (u : UOk V' N') : WS w' (New U w w') B p g N' V' L ov ∧ Chg w w' U := by
  have hB := h.en.hi
  refine ⟨⟨⟨New S w w', T, k1, h2.move c.size fun k hk => c.block k (h2.lt k hk) fun e => h3 k e hk, fun k hk ht => ?_, fun k hk => hk.imp (h4 k) id, fun k hk => .inl (h5 k hk)⟩, u, h.en.move c.size fun k hk => c.block k (by omega) fun e => by have := h.ge k (h4 k e); omega, fun k hk => hk.elim (h.ge k) (fun e => by omega), fun k hk => hk.elim (fun e => Nat.lt_of_lt_of_le (h.lt k e) c.size) (fun e => e.2)⟩, c.imp fun k hk _ => h4 k hk⟩
  rcases hk with e | e
  · exact h3 k e ht
  · have := h2.lt k ht; omega
/-- The log's own memory has turned. -/
theorem WS.mem {w w' : World} {U S T T' : Nat → Prop} {B p g N : Nat} {V : Vw} {L L' : Lg} {ov ov' : Bool} (h : WS w U B p g N V L ov) (h1 : DV w S g N V) (h3 : ∀ k, S k → ¬ T k) (h4 : ∀ k, S k → U k) (h5 : ∀ k, T k → U k)
    (k2 : LM w' T' p g L' ov') (ht : ∀ k, T' k → T k ∨ w.heap.size ≤ k) (c : Chg w w' T) : WS w' (New U w w') B p g N V L' ov' ∧ Chg w w' U := by
  have hB := h.en.hi
  refine ⟨⟨⟨S, T', h1.move c.size fun k hk hl => c.block k hl (h3 k hk), k2, fun k hk hk' => ?_, fun k hk => .inl (h4 k hk), fun k hk => ?_⟩, h.uok, h.en.move c.size fun k hk => c.block k (by omega) fun e => by have := h.ge k (h5 k e); omega, fun k hk => hk.elim (h.ge k) (fun e => by omega), fun k hk => hk.elim (fun e => Nat.lt_of_lt_of_le (h.lt k e) c.size) (fun e => e.2)⟩, c.imp fun k hk _ => h5 k hk⟩
  · rcases ht k hk' with e | e
    · exact h3 k hk e
    · have := h1.lt hk; omega
  · rcases ht k hk with e | e
    · exact .inl (h5 k e)
    · exact .inr ⟨e, k2.lt k hk⟩
theorem New2 {U : Nat → Prop} {w w1 w2 : World} (h1 : w.heap.size ≤ w1.heap.size) (h2 : w1.heap.size ≤ w2.heap.size) (k : Nat) : New (New U w w1) w1 w2 k ↔ New U w w2 k := by
  constructor
  · exact New.trans h1 h2
  · rintro (e | e)
    · exact .inl (.inl e)
    · by_cases h : k < w1.heap.size
      · exact .inl (.inr ⟨e.1, h⟩)
      · exact .inr ⟨by omega, e.2⟩
theorem WS.two {w w1 w2 : World} {U : Nat → Prop} {B p g N : Nat} {V : Vw} {L : Lg} {ov : Bool} (h1 : w.heap.size ≤ w1.heap.size) (h2 : w1.heap.size ≤ w2.heap.size) (h : WS w2 (New (New U w w1) w1 w2) B p g N V L ov) : WS w2 (New U w w2) B p g N V L ov := by
  have e : New (New U w w1) w1 w2 = New U w w2 := funext fun k => propext (New2 h1 h2 k)
  rwa [e] at h

theorem first8 (w : World) (T : Nat → Prop) (p g : Nat) (L : Lg) (ov : Bool) (h : LM w T p g L ov) : Calls Tryz.prog 26 #[.pointer (some ⟨p, 0, none⟩)] w fun e w' => e = .returned (.int .i64 (L.first : Nat)) ∧ w' = w := by
  have c1 := h.c1
  clear h
  go_enter Tryz.func26, Tryz.ntmps26
  go_wp2_with fail
  go_ret
  first | trivial | exact ⟨rfl, rfl⟩
theorem next9 (w : World) (T : Nat → Prop) (p g : Nat) (L : Lg) (ov : Bool) (h : LM w T p g L ov) (hs : Sm L.nx) : Calls Tryz.prog 18 #[.pointer (some ⟨p, 0, none⟩)] w fun e w' => e = .returned (.int .i64 (L.nx : Nat)) ∧ Below w.heap.size w w' := by
  have c1 := h.c1
  obtain ⟨ev, c2, er⟩ := h.c2
  obtain ⟨a, c, rfl⟩ := er.form
  obtain ⟨l, hl⟩ : ∃ l, l = L.es.length := ⟨_, rfl⟩
  obtain ⟨F, hF⟩ : ∃ F, F = L.first := ⟨_, rfl⟩
  have e : L.nx = F + l := by rw [hF, hl]; rfl
  rw [e] at hs ⊢
  rw [← hl] at c2
  rw [← hF] at c1
  have q : IntKind.i64.wrap ((F : Int) + (l : Nat)) = ((F + l : Nat) : Int) := by rw [IntKind.wrap_i64]; unfold Sm at hs; omega
  have q2 : IntKind.i64.wrap ((F : Int)) = ((F : Nat) : Int) := by rw [IntKind.wrap_i64]; unfold Sm at hs; omega
  clear h er hl hF e hs
  go_enter Tryz.func18, Tryz.ntmps18
  go_wp2_with fail
  go_region
  go_wp2_with fail
  go_ret
  exact ⟨by simp, ⟨rfl, rfl, rfl, Nat.le_refl _, fun _ _ => rfl⟩⟩
theorem over16 (w : World) (T : Nat → Prop) (p g : Nat) (L : Lg) (ov : Bool) (h : LM w T p g L ov) : Calls Tryz.prog 34 #[.pointer (some ⟨p, 0, none⟩)] w fun e w' => e = .returned (.bool ov) ∧ w' = w := by
  have c3 := h.c3
  clear h
  go_enter Tryz.func34, Tryz.ntmps34
  go_wp2_with fail
  go_ret
  first | trivial | exact ⟨rfl, rfl⟩
end V2
end Go.Proofs.YtdaknlmnelfedaaGreatDoor
