/- Open. -/
import Derived.Test.YtdaknlmnelfedaaGreatDoorVd
namespace Go.Proofs.YtdaknlmnelfedaaGreatDoor
open Go.RowKit Go.Maps Go.ChangeMaps Go.MapKept
namespace Ve
open Jb Jm Jd Jw Jx Jn Je Jf Jg Jh Jk Jc Jl Jo Jq Jr J1 J2 J3 J4 W1 W2 W3 V1 V2 V3 V4 V5 V6 V7 V8 V9 Va Vb Vc Vd

theorem WS.set {w : World} {U U' : Nat → Prop} {B p g N : Nat} {V : Vw} {L : Lg} {ov : Bool} (h : WS w U B p g N V L ov) (f : ∀ k, U k → U' k) (h1 : ∀ k, U' k → B ≤ k) (h2 : ∀ k, U' k → k < w.heap.size) : WS w U' B p g N V L ov := by
  obtain ⟨S, T, q1, q2, q3, q4, q5⟩ := h.ex
  exact ⟨⟨S, T, q1, q2, q3, fun k hk => f k (q4 k hk), fun k hk => f k (q5 k hk)⟩, h.uok, h.en, h1, h2⟩
/-- A new log in memory. -/
theorem ws_new {w x : World} {S : Nat → Prop} {B g N : Nat} {V : Vw} {F : Nat} (h : DV w S g N V) (u : UOk V N) (en : En w B) (hS : ∀ k, S k → B ≤ k) (hx : Below w.heap.size w x) (hp : ∃ p, p = x.heap.size) :
    WS (x.alloc (.cells #[.pointer (some ⟨g, 0, none⟩), .int .i64 (F : Nat), .slice none 0 0, .bool false] 67)) (fun k => S k ∨ k = x.heap.size) B x.heap.size g N V ⟨F, []⟩ false := by
  have hz := hx.size
  have bl : Below w.heap.size w (x.alloc (.cells #[.pointer (some ⟨g, 0, none⟩), .int .i64 (F : Nat), .slice none 0 0, .bool false] 67)) := hx.alloc hz _
  have hs : (x.alloc (.cells #[.pointer (some ⟨g, 0, none⟩), .int .i64 (F : Nat), .slice none 0 0, .bool false] 67)).heap.size = x.heap.size + 1 := by simp
  have hlt := fun k hk => h.lt (k := k) hk
  have ehi := en.hi
  refine ⟨⟨S, fun k => k = x.heap.size, h.below bl (Nat.le_refl _), ⟨new_cell _ _ _ 0 _ rfl, new_cell _ _ _ 1 _ rfl, ⟨_, new_cell _ _ _ 2 _ rfl, .inl ⟨rfl, rfl⟩⟩, new_cell _ _ _ 3 _ rfl, fun i => ?_, rfl, fun k hk => by rw [hs]; omega, fun b hb => by simp at hb, fun b hb => by simp at hb⟩, fun k hk e => by have := hlt k hk; omega, fun k hk => .inl hk, fun k hk => .inr hk⟩, u,
    en.move bl.size fun k hk => bl.block k (by omega), fun k hk => hk.elim (hS k) (fun e => by omega), fun k hk => hk.elim (fun e => by have := hlt k e; omega) (fun e => by omega)⟩
  exact Go.frozen_of_row _ _ _ _ _ (heap_alloc_new _ _)
set_option maxRecDepth 100000 in
theorem Open6 (w : World) (S : Nat → Prop) (B g N : Nat) (V : Vw) (L : Lg) (h : DV w S g N V) (u : UOk V N) (en : En w B) (hS : ∀ k, S k → B ≤ k) (hc : Dirt V L) (hd : V.down = false) (hs : Sm L.nx) (hu : V.used ≤ 140737488355328) (hln : L.es.length ≤ 1000000000) (hN : N ≤ 8796093022208) :
    Calls Tryz.prog 16 #[.pointer (some ⟨g, 0, none⟩)] w fun e w' => ∃ (p er : Nat) (V' : Vw), ((er = 8 ∧ e = .returned (.tuple #[.pointer none, .int .i64 8])) ∨ (er = 0 ∧ e = .returned (.tuple #[.pointer (some ⟨p, 0, none⟩), .int .i64 0]))) ∧
      WS w' (New S w w') B p g N V' L false ∧ Chg w w' S ∧ Cle V L er V' := by
  obtain ⟨l, u1, u2, u3⟩ := u
  obtain ⟨ns, hn⟩ := u1.names
  have u : UOk V N := ⟨l, u1, u2, u3⟩
  have hnl : ns.length ≤ N := by have := (u1.tot (Names.cov hn)).2; omega
  have LI := Lib.hid (list_up w S g N V h hd hN ns hn)
  have hm : ∀ x ∈ ns, Mine L x := fun x hx => mine_of hc ((hn.2 x).1 hx)
  have hf : pn mp L.first ∈ ns ∨ L.first = 0 := by
    rcases hc.mrk with a | ⟨_, a⟩
    · exact .inl ((hn.2 _).2 (by
        show V.F (mrk L.first) ≠ none
        rw [a]; simp))
    · exact .inr a
  obtain ⟨F, hF⟩ : ∃ F, F = L.first := ⟨_, rfl⟩
  have LM : Hid (∀ w1 v, Below w.heap.size w w1 → w1.ownsRow w.heap.size 9 1 v ns.length (ns.map Go.Proofs.encStr) → Calls Tryz.prog 30 #[v] w1 fun e w' => e = .returned (.int .i64 (F : Nat)) ∧ Below w1.heap.size w1 w') := Lib.hid fun w1 v hb o => by
    rw [hF]
    exact last12 w1 B (en.move hb.size fun k hk => hb.block k (by have := en.hi; omega)) L hs v ns w.heap.size o hm hf (by omega)
  have W0 : Hid (∀ x, Below w.heap.size w x → WS (x.alloc (.cells #[.pointer (some ⟨g, 0, none⟩), .int .i64 (F : Nat), .slice none 0 0, .bool false] 67)) (fun k => S k ∨ k = x.heap.size) B x.heap.size g N V ⟨F, []⟩ false) := Lib.hid fun x hx => ws_new h u en hS hx ⟨_, rfl⟩
  have LO : Hid (∀ y U p, WS y U B p g N V ⟨F, []⟩ false → Calls Tryz.prog 32 #[.pointer (some ⟨p, 0, none⟩)] y fun e w' => e = .returned (.int .i64 0) ∧ WS w' (New U y w') B p g N V L false ∧ Chg y w' U) := Lib.hid fun y U p k => load14 y U B p g N V L false (by rw [hF] at k; exact k) hc hd hs hu hln
  have CL : Hid (∀ y U p, WS y U B p g N V L false → Calls Tryz.prog 33 #[.pointer (some ⟨p, 0, none⟩)] y _) := Lib.hid fun y U p k => clean15 y U B p g N V L false k hc hd hs hN
  have FN : Hid (∀ x y z V', Below w.heap.size w x → x.heap.size < y.heap.size → Below w.heap.size w y → ∀ w4, Chg y w4 (fun k => S k ∨ k = x.heap.size) → Chg w4 z (New (fun k => S k ∨ k = x.heap.size) y w4) → WS z (New (New (fun k => S k ∨ k = x.heap.size) y w4) w4 z) B x.heap.size g N V' L false → WS z (New S w z) B x.heap.size g N V' L false ∧ Chg w z S) := Lib.hid fun x y z V' hx hxy hy w4 c1 c2 k => by
    have s1 := hx.size
    have s2 := hy.size
    have s3 := c1.size
    have s4 := c2.size
    have k2 := k.two s3 s4
    refine ⟨WS.set k2 (fun j hj => ?_) (fun j hj => ?_) (fun j hj => ?_), ?_⟩
    · rcases hj with (e | e) | e
      · exact .inl e
      · exact .inr ⟨by omega, by omega⟩
      · exact .inr ⟨by omega, e.2⟩
    · have := en.hi
      exact hj.elim (hS j) fun e => by omega
    · exact hj.elim (fun e => by have := h.lt e; omega) fun e => e.2
    · exact ((Chg.of_below hy (Nat.le_refl _) S).trans c1 fun j hj hl => hj.elim id fun e => by omega).trans c2 fun j hj hl => by
        rcases hj with (e | e) | e
        · exact e
        · omega
        · omega
  clear h u u1 u2 u3 en hS hc hd hs hu hln hN hn hm hf hF hnl
  go_enter Tryz.func16, Tryz.ntmps16
  go_wp2_with (first | (go_at_call 31; refine (LI.out).mono ?_; rintro e w1 ⟨v, rfl, hrow, hb1⟩) | (go_at_call 30; refine (LM.out w1 v hb1 hrow).mono ?_; rintro e w2 ⟨rfl, hb⟩; have hb2 := hb1.trans (hb.mono hb1.size); have K0 := Lib.hid (W0.out w2 hb2); clear hrow hb hb1; try have HB2 := Lib.hid hb2))
  obtain ⟨y, hy⟩ : ∃ y, y = w2.alloc (.cells #[.pointer (some ⟨g, 0, none⟩), .int .i64 (F : Nat), .slice none 0 0, .bool false] 67) := ⟨_, rfl⟩
  have YB : Hid (w2.heap.size < y.heap.size ∧ Below w.heap.size w y) := Lib.hid (by rw [hy]; exact ⟨by simp, HB2.out.alloc HB2.out.size _⟩)
  rw [← hy] at K0 ⊢
  obtain ⟨p, hp⟩ : ∃ p, p = w2.heap.size := ⟨_, rfl⟩
  have HP : Hid (p = w2.heap.size) := Lib.hid hp
  rw [← hp] at K0 ⊢
  have LO1 := Lib.hid (LO.out y _ p K0.out)
  clear hy hp hb2
  go_wp2_with (go_at_call 32; refine (LO1.out).mono ?_; rintro e w4 ⟨rfl, j1, j2⟩; have CL1 := Lib.hid (CL.out w4 _ p j1); have J2 := Lib.hid j2; clear j1 j2)
  go_wp2_with (go_at_call 33; refine (CL1.out).mono ?_; rintro e z ⟨er, V', rfl, m1, m2, m3⟩; have E := Lib.hid (show WS z (New S w z) B p g N V' L false ∧ Chg w z S from by
    rw [HP.out]; rw [HP.out] at m1
    exact FN.out w2 y z V' HB2.out YB.out.1 YB.out.2 w4 (by have := J2.out; rw [HP.out] at this; exact this) (by rw [HP.out] at m2; exact m2) m1); have M := Lib.hid m3; clear m1 m2; rcases m3.2.2 with ⟨rfl, _⟩ | ⟨rfl, _⟩ <;> clear m3)
  · refine bodyPost_ret (v := .tuple #[.pointer none, .int .i64 8]) (by simp [results, Tryz.results16, go_sem]) rfl ⟨p, 8, V', .inl ⟨rfl, rfl⟩, E.out.1, E.out.2, M.out⟩
  · refine bodyPost_ret (v := .tuple #[.pointer (some ⟨p, 0, none⟩), .int .i64 0]) (by simp [results, Tryz.results16, go_sem]) rfl ⟨p, 0, V', .inr ⟨rfl, rfl⟩, E.out.1, E.out.2, M.out⟩
end Ve
end Go.Proofs.YtdaknlmnelfedaaGreatDoor
