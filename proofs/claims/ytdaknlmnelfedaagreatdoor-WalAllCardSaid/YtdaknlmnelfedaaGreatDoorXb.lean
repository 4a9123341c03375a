/- The document's Appended: rows of slices. The document's Appended. The document's Appended: the walk. -/
import Derived.Test.YtdaknlmnelfedaaGreatDoorXa
import Derived.Lib.AppendZeros
import Derived.Deep.RegionHeldLaw
namespace Go.Proofs.YtdaknlmnelfedaaGreatDoor
open Go.RowKit Go.Maps Go.ChangeMaps Go.MapKept
namespace X5
open Jb Jm Jd Jw Jx Jn Je Jf Jg Jh Jk Jc Jl Jo Jq Jr J1 J2 J3 J4 W1 W2 W3 V1 V2 V3 V4 V5 V6 V7 V8 V9 Va Vb Vc Vd Ve Vf Vg X1 X3 X4

theorem info36 : (Tryz.prog.info? 36).map (fun i => (i.zero, i.size, i.bytes)) = some (some (.slice none 0 0), 1, 24) := by kernel_rfl
/-- A new row of these slices, behind the world w2. -/
def RO (w2 : World) (cs : List Value) (v : Value) (w : World) : Prop :=
  w.ownsRow 0 36 1 v cs.length cs ∧ Below w2.heap.size w2 w ∧ (∀ k, v.ownBlock = some k → w2.heap.size ≤ k ∧ k < w.heap.size) ∧ ∃ a k, v = .slice a cs.length k
def Srcs (w : World) (src : Value) (news : List Value) : Prop :=
  (news = [] ∧ src = .slice none 0 0) ∨ ∃ ad c, src = .slice (some ad) news.length c ∧ ∀ j u, news[j]? = some u → w.cell? (ad.add j) = some u
theorem RO.append {w2 w : World} {cs news : List Value} {v src : Value} (h : RO w2 cs v w) (hs : Srcs w src news) (h1 : ∀ u ∈ news, u.oneCell' = true) (hb : (cs.length + news.length) * 24 ≤ 140737488355328) (ty : TypeId) :
    ∃ v' w', (Builtin.append_ #[29, 29] ty #[v, src]).run Tryz.prog w = .ok v' w' ∧ RO w2 (cs ++ news) v' w' ∧ w.grownBy w' v.ownBlock := by
  obtain ⟨o, b, hv, a0, k0, hf⟩ := h
  obtain ⟨i0, hi, hz0, hz1, hz2⟩ := info_parts info36
  have key : ∃ v' w', (Builtin.append_ #[29, 29] ty #[v, src]).run Tryz.prog w = .ok v' w' ∧ w'.ownsRow 0 36 1 v' (cs ++ news).length (cs ++ news) ∧ w.grownBy w' v.ownBlock ∧ (v'.ownBlock = v.ownBlock ∨ v'.ownBlock = some w.heap.size) := by
    rw [List.length_append]
    rcases hs with ⟨rfl, rfl⟩ | ⟨ad, c, rfl, hc⟩
    · have hrun := run_append_owned_none (P := Tryz.prog) (w := w) 0 29 ty 36 i0 1 Tryz.underlying29 hi v _ _ o
      exact ⟨v, w, hrun, by simpa using o, World.grownBy.refl _ _, .inl rfl⟩
    · obtain ⟨v', w', hrun, r1, r2, _, r4⟩ := run_append_own_at (P := Tryz.prog) w 0 29 ty 36 i0 _ 1 24 Tryz.underlying29 hi hz0 hz1 hz2 rfl (by decide) v _ _ o ad news.length c news (by simp) hc h1 (by unfold maxLen; omega) (by omega) (Nat.zero_le _)
      exact ⟨v', w', hrun, r1, r2, r4⟩
  obtain ⟨v', w', hrun, r1, r2, r3⟩ := key
  have bel : Below w2.heap.size w2 w' := Below.grown b r2 b.size (fun r hr => (hv r hr).1)
  refine ⟨v', w', hrun, ⟨r1, bel, fun k hk => ⟨?_, (r1.lt k hk).2⟩, ?_⟩, r2⟩
  · rcases r3 with e | e
    · exact (hv k (by rw [← e]; exact hk)).1
    · rw [e] at hk; cases hk; exact b.size
  · obtain ⟨_, ⟨e, e0⟩ | ⟨q, c, cur, e, _⟩⟩ := r1
    · exact ⟨_, _, by rw [e0]; exact e⟩
    · exact ⟨_, _, e⟩
theorem RO.new {w2 w : World} (b : Below w2.heap.size w2 w) : RO w2 [] (.slice (some ⟨w.heap.size, 0, none⟩) 0 0) (w.alloc (.cells #[] 36)) := by
  have o := World.ownsRow_lit (base := 0) (e := 36) (size := 1) w #[] 0 (Nat.zero_le _) (by unfold maxLen; omega) rfl
  refine ⟨o, b.alloc b.size _, fun k hk => ?_, _, _, rfl⟩
  cases hk
  exact ⟨b.size, by simp⟩
/-- The slices of a log, as cells. -/
theorem rr_cells {w : World} {D : Nat → Prop} {ev : Value} {es : List (List Nat)} (h : RR w D ev es) : ∃ cs : List Value, cs.length = es.length ∧ Srcs w ev cs ∧ (∀ u ∈ cs, u.oneCell' = true) ∧
    ∀ i (h : i < es.length), ∃ a cc, cs[i]? = some (.slice a es[i].length cc) ∧ Src w D (.slice a es[i].length cc) es[i] := by
  rcases h with ⟨rfl, a, c, rfl, hac⟩ | ⟨b, off, cap, rfl, h0, hc, hD, hel⟩
  · refine ⟨[], rfl, ?_, fun u hu => by simp at hu, fun i hi => by simp at hi⟩
    cases a with
    | none => rw [hac rfl]; exact .inl ⟨rfl, rfl⟩
    | some a => exact .inr ⟨a, c, rfl, fun j u hj => by simp at hj⟩
  · have hget : ∀ i (h : i < es.length), ((List.range es.length).map fun i => (w.cell? ⟨b, off + i, none⟩).getD (.slice none 0 0))[i]? = w.cell? ⟨b, off + i, none⟩ := fun i h => by
      obtain ⟨a, cc, h1, _⟩ := hel i h
      rw [List.getElem?_map, List.getElem?_range h, h1]
      simp [h1]
    refine ⟨(List.range es.length).map fun i => (w.cell? ⟨b, off + i, none⟩).getD (.slice none 0 0), by simp, .inr ⟨⟨b, off, none⟩, cap, by simp, fun j u hj => ?_⟩, fun u hu => ?_, fun i hi => ?_⟩
    · have hjl : j < es.length := by have := (List.getElem?_eq_some_iff.1 hj).1; simpa using this
      have eA : (Addr.add ⟨b, off, none⟩ j) = ⟨b, off + j, none⟩ := by by_cases hi0 : j = 0 <;> simp [Addr.add, hi0]
      rw [eA, ← hget j hjl]
      exact hj
    · obtain ⟨i, hi, rfl⟩ := List.mem_map.1 hu
      obtain ⟨a, cc, h1, _⟩ := hel i (List.mem_range.1 hi)
      rw [h1]; rfl
    · obtain ⟨a, cc, h1, h2⟩ := hel i hi
      exact ⟨a, cc, (hget i hi).trans h1, h2⟩
/-- A row that is owned holds these slices of bytes. -/
theorem rr_own {w2 w : World} {D : Nat → Prop} {cs : List Value} {v : Value} {es : List (List Nat)} (h : RO w2 cs v w) (hl : cs.length = es.length) (hD : ∀ k, v.ownBlock = some k → D k) (hc : ∀ i (h : i < es.length), ∃ a cc, cs[i]? = some (.slice a es[i].length cc) ∧ Src w D (.slice a es[i].length cc) es[i]) : RR w D v es := by
  obtain ⟨⟨_, o⟩, _, _, _⟩ := h
  rcases o with ⟨rfl, e0⟩ | ⟨g, cap, cur, rfl, _, hh, hnc, hcm, hsz, htk⟩
  · exact .inl ⟨List.eq_nil_of_length_eq_zero (by omega), none, 0, rfl, fun _ => rfl⟩
  · by_cases e : es.length = 0
    · exact .inl ⟨List.eq_nil_of_length_eq_zero e, some ⟨g, 0, none⟩, cap, by rw [hl, e], fun h => by simp at h⟩
    · refine .inr ⟨g, 0, cap, by rw [hl], by omega, by omega, hD g rfl, fun i hi => ?_⟩
      obtain ⟨a, cc, h1, h2⟩ := hc i hi
      refine ⟨a, cc, ?_, h2⟩
      rw [← htk, List.getElem?_take, if_pos (by omega)] at h1
      rw [Go.cell_of_row w g _ cur 36 (0, 0) hh, Nat.zero_add]
      simpa using h1
end X5
end Go.Proofs.YtdaknlmnelfedaaGreatDoor
namespace Go.Proofs.YtdaknlmnelfedaaGreatDoor
open Go.RowKit Go.Maps Go.ChangeMaps Go.MapKept
namespace X6
open Jb Jm Jd Jw Jx Jn Je Jf Jg Jh Jk Jc Jl Jo Jq Jr J1 J2 J3 J4 W1 W2 W3 V1 V2 V3 V4 V5 V6 V7 V8 V9 Va Vb Vc Vd Ve Vf Vg X1 X3 X4 X5

theorem ro_move {w2 w w' : World} {cs : List Value} {v : Value} (h : RO w2 cs v w) (b : Below w.heap.size w w') : RO w2 cs v w' := by
  obtain ⟨o, b1, hv, hf⟩ := h
  have hs := b.size
  refine ⟨⟨o.1, o.2.imp id ?_⟩, b1.trans (b.mono b1.size), fun k hk => ⟨(hv k hk).1, by have := (hv k hk).2; omega⟩, hf⟩
  rintro ⟨g, cap, cur, e, h0, hh, r⟩
  exact ⟨g, cap, cur, e, h0, (b.block g (hv g (by rw [e]; rfl)).2).trans hh, r⟩
/-- Bytes of its own, behind the world w2. -/
def RB (w2 : World) (bs : List Nat) (v : Value) (w : World) : Prop :=
  w.ownsRow 0 5 1 v bs.length (u8s bs) ∧ Below w2.heap.size w2 w ∧ (∀ k, v.ownBlock = some k → w2.heap.size ≤ k ∧ k < w.heap.size) ∧ ∃ a k, v = .slice a bs.length k
theorem rb_append {w1 : World} {bs : List Nat} {R : Nat → Prop} {va : Option Addr} {vc : Nat} (hv : Src w1 R (.slice va bs.length vc) bs) (hcap : va = none → vc = 0) (hb : bs.length ≤ 140737488355328) (ty : TypeId) :
    ∃ v' w', (Builtin.append_ #[36, 36] ty #[.slice (some ⟨w1.heap.size, 0, none⟩) 0 0, .slice va bs.length vc]).run Tryz.prog (w1.alloc (.cells #[] 5)).drew = .ok v' w' ∧ RB w1 bs v' w' := by
  have o := (World.ownsRow_lit (base := 0) (e := 5) (size := 1) w1 #[] 0 (Nat.zero_le _) (by unfold maxLen; omega) rfl).drew
  have b : Below w1.heap.size w1 (w1.alloc (.cells #[] 5)).drew := ((Below.refl _ w1).alloc (Nat.le_refl _) _).drew
  have s1 : Src (w1.alloc (.cells #[] 5)).drew R (.slice va bs.length vc) bs := hv.move fun k _ hl => b.block k hl
  obtain ⟨v', w', hrun, r1, r2, r3⟩ := run_append _ (.slice (some ⟨w1.heap.size, 0, none⟩) 0 0) [] o R va vc bs s1 bs.length (Nat.le_refl _) hcap (by simpa using hb) ty
  rw [List.take_length] at r1
  have r1 : w'.ownsRow 0 5 1 v' bs.length (u8s bs) := by simpa using r1
  refine ⟨v', w', hrun, r1, Below.grown b r2 b.size (fun r hr => by cases hr; exact Nat.le_refl _), fun k hk => ⟨?_, (r1.lt k hk).2⟩, ?_⟩
  · rcases r3 with e | e
    · rw [e] at hk; cases hk; exact Nat.le_refl _
    · rw [e] at hk; cases hk; exact b.size
  · obtain ⟨_, ⟨e, e0⟩ | ⟨q, c, cur, e, _⟩⟩ := r1
    · exact ⟨_, _, by rw [e0]; exact e⟩
    · exact ⟨_, _, e⟩
/-- The row of slices behind a new entry. -/
theorem ro_entry {w w1 w3 : World} {D : Nat → Prop} {cs : List Value} {v1 v2 : Value} {es : List (List Nat)} {bs : List Nat} (hD : ∀ k, D k → k < w.heap.size) (h1 : RO w cs v1 w1) (h2 : RB w1 bs v2 w3) (hl : cs.length = es.length)
    (hc : ∀ i (h : i < es.length), ∃ a cc, cs[i]? = some (.slice a es[i].length cc) ∧ Src w D (.slice a es[i].length cc) es[i]) (_ : ∀ u ∈ cs, u.oneCell' = true) (hb : (es.length + 1) * 24 ≤ 140737488355328) (ty : TypeId) :
    ∃ v' w', (Builtin.append_ #[29, 29] ty #[v1, .slice (some ⟨w3.heap.size, 0, none⟩) 1 1]).run Tryz.prog (w3.alloc (.cells #[v2] 36)) = .ok v' w' ∧ RR w' (fun k => D k ∨ (w.heap.size ≤ k ∧ k < w'.heap.size)) v' (es ++ [bs]) ∧ Below w.heap.size w w' ∧ ∃ a n k, v' = .slice a n k := by
  obtain ⟨o2, b2, hv2, a2, k2, rfl⟩ := h2
  have bx : Below w1.heap.size w1 (w3.alloc (.cells #[.slice a2 bs.length k2] 36)) := b2.alloc b2.size _
  obtain ⟨v', w', hrun, r1, r2⟩ := RO.append (news := [.slice a2 bs.length k2]) (ro_move h1 bx) (src := .slice (some ⟨w3.heap.size, 0, none⟩) 1 1) (.inr ⟨⟨w3.heap.size, 0, none⟩, 1, rfl, fun j u hj => by
    match j, hj with
    | 0, hj =>
      have : Value.slice a2 bs.length k2 = u := by simpa using hj
      rw [← this]
      exact new_cell _ _ _ 0 _ rfl
    | j + 1, hj => simp at hj⟩) (fun u hu => by
      have : u = .slice a2 bs.length k2 := by simpa using hu
      rw [this]; rfl) (by rw [hl]; exact hb) ty
  have s3 : Src w' (fun k => w.heap.size ≤ k ∧ k < w'.heap.size) (.slice a2 bs.length k2) bs := by
    have t1 := src_own (o2)
    have hz1 := h1.2.1.size
    have hz3 := bx.size
    have hz4 := r2.size
    have hzz : (w3.alloc (.cells #[.slice a2 bs.length k2] 36)).heap.size = w3.heap.size + 1 := by simp
    refine (t1.move fun k hk hkl => ?_).imp fun k hk => ⟨by have := (hv2 k hk.2).1; omega, by have := (hv2 k hk.2).2; omega⟩
    refine (r2.block k (by omega) fun e => ?_).trans (Below.heap_alloc _ _ _ hkl)
    have := (h1.2.2.1 k e.symm).2
    have := (hv2 k hk.2).1
    omega
  obtain ⟨q1, q2, q3, q4⟩ := r1
  have hr : RO w (cs ++ [.slice a2 bs.length k2]) v' w' := ⟨q1, q2, q3, q4⟩
  obtain ⟨a4, k4, e4⟩ := q4
  refine ⟨v', w', hrun, rr_own hr (by simp [hl]) (fun k hk => .inr (q3 k hk)) (fun i hi => ?_), q2, a4, _, k4, e4⟩
  by_cases e : i < es.length
  · obtain ⟨a, cc, c1, c2⟩ := hc i e
    have eg : (es ++ [bs])[i] = es[i] := by rw [List.getElem_append_left e]
    rw [eg]
    refine ⟨a, cc, by rw [List.getElem?_append_left (by omega)]; exact c1, (c2.move fun k hk _ => q2.block k (hD k hk)).imp fun k hk => .inl hk⟩
  · have hi2 : i = es.length := by simp at hi; omega
    subst hi2
    have eg : (es ++ [bs])[es.length] = bs := by simp
    rw [eg]
    exact ⟨a2, k2, by rw [← hl]; simp, s3.imp fun k hk => .inr hk⟩
theorem app_out {w x : World} {D : Nat → Prop} {q : Nat} {L : Lg} {ov : Bool} {bs : List Nat} {v : Value} (h : RL w D q L ov) (hD : ∀ k, D k → k < w.heap.size) (hr : RR x (fun k => D k ∨ (w.heap.size ≤ k ∧ k < x.heap.size)) v (L.es ++ [bs])) (hx : Below w.heap.size w x) (hby : ∀ z ∈ bs, z < 256) (hb : bs.length ≤ 140737488355328)
    (y : World) (e : y.heap = (x.alloc (.cells #[.int .i64 (L.first : Nat), v, .bool false] 31)).heap) (e1 : y.os = x.os) (e2 : y.tape = x.tape) (e3 : y.output = x.output) :
    RL y (New D w y) x.heap.size (L.app bs) false ∧ Below w.heap.size w y := by
  have hz : (x.alloc (.cells #[.int .i64 (L.first : Nat), v, .bool false] 31)).heap.size = x.heap.size + 1 := by simp
  have hs := hx.size
  have hb2 : Below w.heap.size w y := below_of (hx.alloc hs (.cells #[.int .i64 (L.first : Nat), v, .bool false] 31)) e e1 e2 e3
  refine ⟨(rl_new hx e (fun k hk => hk.elim (fun t => by have := hD k t; omega) fun t => t.2) hr (fun b hb' => ?_) fun b hb' => ?_).move (fun k hk => ?_) fun k _ => rfl, hb2⟩
  · rcases List.mem_append.1 hb' with t | t
    · exact h.byte b t
    · have : b = bs := by simpa using t
      rw [this]; exact hby
  · rcases List.mem_append.1 hb' with t | t
    · exact h.len b t
    · have : b = bs := by simpa using t
      rw [this]; exact hb
  · have hyz : y.heap.size = x.heap.size + 1 := by rw [e, hz]
    rcases hk with (hk | hk) | hk
    · exact .inl hk
    · exact .inr ⟨hk.1, by omega⟩
    · exact .inr ⟨by omega, by omega⟩
end X6
end Go.Proofs.YtdaknlmnelfedaaGreatDoor
namespace Go.Proofs.YtdaknlmnelfedaaGreatDoor
open Go.RowKit Go.Maps Go.ChangeMaps Go.MapKept
namespace X7
open Jb Jm Jd Jw Jx Jn Je Jf Jg Jh Jk Jc Jl Jo Jq Jr J1 J2 J3 J4 W1 W2 W3 V1 V2 V3 V4 V5 V6 V7 V8 V9 Va Vb Vc Vd Ve Vf Vg X1 X3 X4 X5 X6

set_option maxRecDepth 100000 in
set_option maxHeartbeats 2000000 in
theorem app20 (w : World) (D : Nat → Prop) (q : Nat) (L : Lg) (ov : Bool) (h : RL w D q L ov) (hD : ∀ k, D k → k < w.heap.size) (va : Option Addr) (vc : Nat) (bs : List Nat) (R : Nat → Prop) (hR : ∀ k, R k → k < w.heap.size) (hv : Src w R (.slice va bs.length vc) bs) (hcap : va = none → vc = 0) (hby : ∀ z ∈ bs, z < 256) (hb : bs.length ≤ 140737488355328) (hn : (L.es.length + 1) * 24 ≤ 140737488355328) :
    Calls Tryz.prog 20 #[.pointer (some ⟨q, 0, none⟩), .slice va bs.length vc] w fun e w' => ∃ q', e = .returned (.pointer (some ⟨q', 0, none⟩)) ∧ RL w' (New D w w') q' (L.app bs) false ∧ Below w.heap.size w w' := by
  have c0 := h.c0
  obtain ⟨ev, c1, er⟩ := h.c1
  obtain ⟨cs, hl, hsr, h1c, hc⟩ := rr_cells er
  have b0 : Below w.heap.size w (w.alloc (.cells #[] 36)) := (Below.refl _ w).alloc (Nat.le_refl _) _
  have hsr0 : Srcs (w.alloc (.cells #[] 36)) ev cs := hsr.imp id fun ⟨ad, c, e1, e2⟩ => ⟨ad, c, e1, fun j u hj => (World.cell?_of_block (b0.block _ (cell_lt (e2 j u hj)))).trans (e2 j u hj)⟩
  obtain ⟨v1, w1, hrun, r1, g1⟩ := RO.append (RO.new (Below.refl _ w)) hsr0 h1c (by rw [hl]; simp; omega) 29
  rw [List.nil_append] at r1
  obtain ⟨B1, _, a1, k1, rfl⟩ := r1.2
  have A2 : Hid (∀ ty, ∃ v' w', (Builtin.append_ #[36, 36] ty #[.slice (some ⟨w1.heap.size, 0, none⟩) 0 0, .slice va bs.length vc]).run Tryz.prog (w1.alloc (.cells #[] 5)).drew = .ok v' w' ∧ RB w1 bs v' w') := Lib.hid fun ty => rb_append (hv.move (w' := w1) fun k hk _ => B1.block k (hR k hk)) hcap hb ty
  have A3 : Hid (∀ v2 w3, RB w1 bs v2 w3 → ∀ ty, ∃ v' w', (Builtin.append_ #[29, 29] ty #[.slice a1 cs.length k1, .slice (some ⟨w3.heap.size, 0, none⟩) 1 1]).run Tryz.prog (w3.alloc (.cells #[v2] 36)) = .ok v' w' ∧ _) := Lib.hid fun v2 w3 r2 ty => ro_entry hD r1 r2 hl hc h1c hn ty
  obtain ⟨F, hF⟩ : ∃ F, F = L.first := ⟨_, rfl⟩
  have TO := Lib.hid fun x v (hx : Below w.heap.size w x) (hr : RR x (fun k => D k ∨ (w.heap.size ≤ k ∧ k < x.heap.size)) v (L.es ++ [bs])) y e e1 e2 e3 => app_out h hD hr hx hby hb y e e1 e2 e3
  rw [← hF] at c0 TO
  have CX : Hid (∀ y, Below w.heap.size w y → y.cell? ⟨q, 0, none⟩ = some (.int .i64 (F : Nat))) := Lib.hid fun y hy => (World.cell?_of_block (hy.block q (cell_lt c0))).trans c0
  have HB1 := Lib.hid B1
  have d1 : (w.alloc (.cells #[] 36)).cell? ⟨q, 1, none⟩ = some ev := (World.cell?_of_block (b0.block q (cell_lt c1))).trans c1
  obtain ⟨N, hN⟩ : ∃ N, N = cs.length := ⟨_, rfl⟩
  obtain ⟨M, hM⟩ : ∃ M, M = bs.length := ⟨_, rfl⟩
  have R2 : Hid (∀ v2 w3, RB w1 bs v2 w3 → Below w.heap.size w w3 ∧ ∃ a k, v2 = .slice a M k) := Lib.hid fun v2 w3 r => ⟨HB1.out.trans (r.2.1.mono HB1.out.size), by rw [hM]; exact r.2.2.2⟩
  rw [← hN] at A3
  rw [← hM] at A2 ⊢
  rw [← hN] at r1 hrun
  clear h hD hc h1c hcap hby hb hn er hl hR hv hF hN hM hsr hsr0 g1 r1 b0 B1
  go_enter Tryz.func20, Tryz.ntmps20
  go_upto_region 2 with (at_builtin; refine Lib.wpList_append_run _ rfl _ _ _ _ rfl _ _ rfl rfl _ _ hrun ?_)
  have kX : w1.drew.cell? ⟨q, 0, none⟩ = some (.int .i64 (F : Nat)) := CX.out _ HB1.out.drew
  have kX2 : (w1.alloc (.cells #[] 5)).drew.cell? ⟨q, 0, none⟩ = some (.int .i64 (F : Nat)) := CX.out _ (HB1.out.alloc HB1.out.size _).drew
  go_region_held_law (fun y : World => y.cell? ⟨q, 0, none⟩ = some (.int .i64 (F : Nat)))
    (first | assumption | exact CX.out _ B3 | exact CX.out _ (B3.alloc B3.size _) | exact CX.out _ B4 | exact CX.out _ (B4.alloc B4.size _))
    (first | (refine step_append rfl (.tmp 17) (.tmp 18) 36 rfl (.slice (some ⟨w1.heap.size, 0, none⟩) 0 0) (.slice va M vc) (by simp [Act.eval]) (by simp [Act.eval]) (RB w1 bs) A2.out ?_; intro v2 w3 r2; have R3 := Lib.hid r2; obtain ⟨B3, a2, k2, rfl⟩ := R2.out _ _ r2; clear r2) | (refine step_append rfl (.tmp 16) (.tmp 20) 29 rfl (.slice a1 N k1) (.slice (some ⟨w3.heap.size, 0, none⟩) 1 1) (by simp [Act.eval]) (by simp [Act.eval]) _ (A3.out _ w3 R3.out) ?_; intro v4 w4 r4; have R4 := Lib.hid r4; obtain ⟨_, B4, a4, n4, k4, rfl⟩ := r4))
  go_wp2_with fail
  go_ret
  exact ⟨_, rfl, TO.out _ _ R4.out.2.1 R4.out.1 _ rfl rfl rfl rfl⟩
end X7
end Go.Proofs.YtdaknlmnelfedaaGreatDoor
