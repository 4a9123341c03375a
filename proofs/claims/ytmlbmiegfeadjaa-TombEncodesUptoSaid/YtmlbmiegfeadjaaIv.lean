/- The document's Decode. -/
import Derived.Test.YtmlbmiegfeadjaaIr
import Derived.Test.YtmlbmiegfeadjaaIe
import Derived.Test.YtmlbmiegfeadjaaIc
import Derived.Deep.LoopGhost
import Derived.Deep.RegionHeldLaw
namespace Go.Proofs.Ytmlbmiegfeadjaa
open Go.RowKit
namespace Iv
open Ga Gm Gt
open Mt (eight eight_lt num8)
open Ia Ib Ix Ie Ic Ir
open Jb (Src str conv_src conv_cells g)

theorem part_two (bs : List Nat) (p : Nat) : Ir.part bs p 2 = n2 bs p := by simp [Ir.part, n2]
/-- What Decode answers. -/
def DecR (w w' : World) (bs : List Nat) (e : Ending) : Prop :=
  (∃ r L, e = .returned (.tuple #[r, .int .i64 0]) ∧ w'.ownsRow w.heap.size 44 4 r L.length (tcs L) ∧ Of bs L ∧ L.length * 20 ≤ bs.length) ∨ ((∀ M, ¬ Of bs M) ∧ e = .returned (.tuple #[.slice none 0 0, .int .i64 2]))
theorem gtx_none {m : Nat} {bs : List Nat} {p : Nat} (h : bs.length < p + 2 ∨ m < n2 bs p ∨ bs.length < p + 2 + n2 bs p) : gtx m bs p = none := by
  unfold gtx; rw [if_neg (by omega)]
theorem gtx_yes {m : Nat} {bs : List Nat} {p : Nat} (h1 : p + 2 ≤ bs.length) (h2 : n2 bs p ≤ m) (h3 : p + 2 + n2 bs p ≤ bs.length) : gtx m bs p = some (str ((bs.drop (p + 2)).take (n2 bs p)), p + 2 + n2 bs p) := by
  unfold gtx; rw [if_pos ⟨h1, h2, h3⟩]
theorem gtb_no1 {m : Nat} {bs : List Nat} {p : Nat} (h : gtx m bs p = none) : gtb m bs p = none := by unfold gtb; rw [h]; rfl
theorem gtb_no2 {m : Nat} {bs : List Nat} {p q : Nat} {S : ByteArray} (h : gtx m bs p = some (S, q)) (h2 : gtx m bs q = none) : gtb m bs p = none := by unfold gtb; rw [h, Option.bind_some]; simp only; rw [h2]; rfl
theorem gtb_no3 {m : Nat} {bs : List Nat} {p q r : Nat} {S F : ByteArray} (h : gtx m bs p = some (S, q)) (h2 : gtx m bs q = some (F, r)) (h3 : bs.length < r + 16) : gtb m bs p = none := by
  unfold gtb; rw [h, Option.bind_some]; simp only; rw [h2, Option.bind_some]; simp only; rw [if_neg (by omega)]
theorem gtb_yes {m : Nat} {bs : List Nat} {p q r : Nat} {S F : ByteArray} (h : gtx m bs p = some (S, q)) (h2 : gtx m bs q = some (F, r)) (h3 : r + 16 ≤ bs.length) : gtb m bs p = some ((S, F, wrap64 (num8 bs r), wrap64 (num8 bs (r + 8))), r + 16) := by
  unfold gtb; rw [h, Option.bind_some]; simp only; rw [h2, Option.bind_some]; simp only; rw [if_pos h3]
structure RD (w0 wr : World) (v : Value) (bs : List Nat) (p : Nat) (L : List Tmb) : Prop where
  below : Below w0.heap.size w0 wr
  row : wr.ownsRow w0.heap.size 44 4 v L.length (tcs L)
  st : it 4000 bs L.length = some (p, L)
theorem RD.step {w0 wa w6 : World} {v v' : Value} {bs : List Nat} {p p' X : Nat} {L : List Tmb} {x : Tmb} {o1 o2 : Obj} (h : RD w0 wa v bs p L) (hp : p < bs.length) (hX : X = wa.heap.size) (hg : gtb 4000 bs p = some (x, p'))
    (row : w6.ownsRow w0.heap.size 44 4 v' (L.length + 1) (tcs L ++ tc x)) (gr : ((wa.alloc o1).drew.alloc o2).grownBy w6 v.ownBlock) : RD w0 w6 v' bs p' (L ++ [x]) ∧ w6.heap[X]? = (wa.alloc o1).heap[X]? := by
  have b1 : Below w0.heap.size w0 ((wa.alloc o1).drew.alloc o2) := ((h.below.alloc h.below.size o1).drew).alloc (by have := h.below.size; simp; omega) o2
  refine ⟨⟨b1.grown gr (by have := h.below.size; simp; omega) (fun j ej => (Gt.own_lt h.row ej).1), ?_, ?_⟩, ?_⟩
  · rw [tcs_snoc, List.length_append]; exact row
  · rw [List.length_append]
    show (it 4000 bs L.length).bind _ = _
    rw [h.st, Option.bind_some]
    simp only
    rw [if_pos hp, hg]
    rfl
  · rw [gr.block X (by rw [hX]; simp; omega) (fun e => by have := (Gt.own_lt h.row e.symm).2; omega)]
    exact Below.heap_alloc (wa.alloc o1).drew o2 X (by rw [hX]; simp)
set_option maxRecDepth 100000
set_option maxHeartbeats 16000000
theorem decode14n (w : World) (b off c n : Nat) (bs : List Nat) (hn : n = bs.length) (hc : n ≤ c) (hX : ∀ b ∈ bs, b < 256) (hb : n ≤ 100000000) (hbw : b < w.heap.size)
    (hcell : ∀ i, i < n → w.cell? ⟨b, off + i, none⟩ = some (.int .u8 (bs.getD i 0 : Nat))) :
    Calls Try.prog 14 #[.slice (some ⟨b, off, none⟩) n c] w fun e w' => DecR w w' bs e ∧ Below w.heap.size w w' := by
  obtain ⟨i0, hi, hz0, hz1, hz2⟩ := info_parts info44
  have CE := Lib.hid (show ∀ y, Below w.heap.size w y → ∀ i, i < n → y.cell? ⟨b, off + i, none⟩ = some (.int .u8 (bs.getD i 0 : Nat)) from fun y hy i hi => (World.cell?_of_block (hy.block b hbw)).trans (hcell i hi))
  have R2 := Lib.hid (show ∀ (y : World) (p : Nat), Below w.heap.size w y → p + 2 ≤ n → Calls Try.prog 28 #[.slice (some ⟨b, off, none⟩) n c, .int .i64 (p : Nat), .int .i64 2] y fun e w' => e = .returned (.int .u64 (n2 bs p : Nat)) ∧ w' = y from fun y p hy hp => by
    have := readat38 y b off n c bs p 2 (by decide) hX (by omega) hp (CE.out y hy)
    rwa [part_two] at this)
  have SM := Lib.hid (fun p => n2_lt hX p)
  have HN := Lib.hid hn
  have HX := Lib.hid hX
  clear hX hn hcell
  go_enter Try.func14, Try.ntmps14
  go_wp2_with fail
  go_loopg [4, 5] (n + 1) (fun kx o at' wr => ∃ p L, at' = .int .i64 (p : Nat) ∧ p ≤ n ∧ n - p ≤ kx ∧ Hid (RD w wr o bs p L))
  case atStart => exact ⟨0, [], rfl, Nat.zero_le _, by omega, Lib.hid ⟨Below.refl _ _, World.ownsRow_nil _ _ _ _, rfl⟩⟩
  case round =>
    obtain ⟨p, L, rfl, hpn, hgk, HR⟩ := hrel
    obtain ⟨wa, rfl⟩ : ∃ wa, wa = wr := ⟨_, rfl⟩
    obtain ⟨oa, oc, rfl⟩ := own_forms HR.out.row
    by_cases hp : p < n
    case neg =>
      obtain rfl : p = n := by omega
      have OFL := Lib.hid (show Of bs L ∧ L.length * 20 ≤ bs.length from by
        have hs := HR.out.st
        have hf := of_fm rfl HX.out hs
        have hq := hs
        rw [HN.out] at hs
        exact ⟨(of_done (m := 4000) (by decide) (by decide) HX.out hs).1 hf, by have := (it_some HX.out hs).2.2.2.2.1; omega⟩)
      go_wp2_with fail
      go_ret2
      exact ⟨.inl ⟨_, L, rfl, HR.out.row, OFL.out⟩, HR.out.below⟩
    have NO := Lib.hid (show gtb 4000 bs p = none → ∀ M, ¬ Of bs M from fun hg => of_stuck (m := 4000) (by decide) (by decide) HR.out.st (by rw [← HN.out]; exact hp) hg)
    have BA := Lib.hid (fun (o : Obj) => HR.out.below.alloc HR.out.below.size o)
    by_cases a1 : p + 2 ≤ n
    case neg =>
      have NOX := Lib.hid (NO.out (gtb_no1 (gtx_none (.inl (by rw [← HN.out]; omega)))))
      have e1 : decide ((p : Int) + 2 > (n : Int)) = true := decide_eq_true (by omega)
      clear NO a1
      go_wp2_with fail
      refine wp_loop_rounds 1 ?_
      rw [rounds_succ]
      go_wp2_with fail
      go_ret2
      exact ⟨.inr ⟨NOX.out, rfl⟩, BA.out _⟩
    have e1 : decide ((p : Int) + 2 > (n : Int)) = false := decide_eq_false (by omega)
    have RA := Lib.hid (fun (o : Obj) => R2.out (wa.alloc o) p (BA.out o) a1)
    obtain ⟨m, hm⟩ : ∃ m, m = n2 bs p := ⟨_, rfl⟩
    rw [← hm] at RA
    have hm9 : m ≤ 65535 := by rw [hm]; exact SM.out p
    by_cases a2 : m ≤ 4000
    case neg =>
      have NOX := Lib.hid (NO.out (gtb_no1 (gtx_none (.inr (.inl (by rw [← hm]; omega))))))
      have e2 : decide ((m : Int) > 4000) = true := decide_eq_true (by omega)
      clear NO a1 a2 hm
      go_wp2_with fail
      refine wp_loop_rounds 1 ?_
      rw [rounds_succ]
      go_wp2_with fail
      refine (RA.out _).mono ?_
      rintro e w' ⟨rfl, rfl⟩
      go_wp2_with fail
      go_ret2
      exact ⟨.inr ⟨NOX.out, rfl⟩, BA.out _⟩
    have e2 : decide ((m : Int) > 4000) = false := decide_eq_false (by omega)
    by_cases a3 : p + 2 + m ≤ n
    case neg =>
      have NOX := Lib.hid (NO.out (gtb_no1 (gtx_none (.inr (.inr (by rw [← hm, ← HN.out]; omega))))))
      have e3 : decide ((p : Int) + 2 + (m : Int) > (n : Int)) = true := decide_eq_true (by omega)
      clear NO a1 a2 a3 hm
      go_wp2_with fail
      refine wp_loop_rounds 1 ?_
      rw [rounds_succ]
      go_wp2_with fail
      refine (RA.out _).mono ?_
      rintro e w' ⟨rfl, rfl⟩
      go_wp2_with fail
      go_ret2
      exact ⟨.inr ⟨NOX.out, rfl⟩, BA.out _⟩
    have e3 : decide ((p : Int) + 2 + (m : Int) > (n : Int)) = false := decide_eq_false (by omega)
    have GX := Lib.hid (gtx_yes (m := 4000) (bs := bs) (p := p) (by rw [← HN.out]; exact a1) (by rw [← hm]; exact a2) (by rw [← hm, ← HN.out]; exact a3))
    rw [← hm] at GX
    obtain ⟨S, hS⟩ : ∃ S, S = str ((bs.drop (p + 2)).take m) := ⟨_, rfl⟩
    rw [← hS] at GX
    have CV0 : Hid (m = 0 → ∀ a c' (y : World), (convert 23 9 (.slice a 0 c')).run Try.prog y = .ok (.string S) y) := Lib.hid (fun h0 a c' y => by
      rw [hS, h0, List.take_zero]
      exact conv_src (R := fun _ => True) (.inl ⟨rfl, a, c', rfl⟩))
    have CV1 : Hid (∀ c' (o : Obj), (convert 23 9 (.slice (some ⟨b, off + (p + 2), none⟩) m c')).run Try.prog (wa.alloc o) = .ok (.string S) (wa.alloc o)) := Lib.hid (fun c' o => by
      have hl : ((bs.drop (p + 2)).take m).length = m := by rw [List.length_take, List.length_drop, ← HN.out]; omega
      have := conv_cells (wa.alloc o) 23 Try.underlying23 b (off + (p + 2)) c' ((bs.drop (p + 2)).take m) (fun i hi => by
        rw [hl] at hi
        rw [Nat.add_assoc, CE.out _ (BA.out o) (p + 2 + i) (by omega)]
        unfold g
        simp only [List.getD_eq_getElem?_getD]
        rw [List.getElem?_take_of_lt hi, List.getElem?_drop])
      rw [hl] at this
      rw [hS]; exact this)
    have hcp : p + 2 + m ≤ c := by omega
    clear hm hS
    by_cases hroom : c = p + 2
    case pos =>
      have NOX := Lib.hid (NO.out (gtb_no2 GX.out (gtx_none (.inl (by rw [← HN.out]; omega)))))
      have hcv := CV0.out (by omega) (some ⟨b, off, none⟩) 0 (wa.alloc (.cells #[.string ⟨#[]⟩, .string ⟨#[]⟩] 66))
      have e4 : decide ((p : Int) + 2 + (m : Int) + 2 > (n : Int)) = true := decide_eq_true (by omega)
      clear NO GX CV0 CV1
      subst hroom
      go_wp2_with fail
      refine wp_loop_rounds 2 ?_
      rw [rounds_succ]
      go_wp2_with fail
      refine (RA.out _).mono ?_
      rintro e w' ⟨rfl, rfl⟩
      go_wp2_with fail
      rw [rounds_succ]
      go_wp2_with fail
      go_ret2
      exact ⟨.inr ⟨NOX.out, rfl⟩, BA.out _⟩
    have hcv := CV1.out (c - (p + 2)) (.cells #[.string ⟨#[]⟩, .string ⟨#[]⟩] 66)
    clear CV0 CV1
    go_wp2_with fail
    refine wp_loop_rounds 3 ?_
    rw [rounds_succ]
    go_wp2_with fail
    refine (RA.out _).mono ?_
    rintro e w' ⟨rfl, rfl⟩
    go_upto_region 15 with (fail)
    obtain ⟨p1, hp1⟩ : ∃ p1, p1 = p + 2 + m := ⟨_, rfl⟩
    have hp1i : (p : Int) + 2 + (m : Int) = (p1 : Int) := by omega
    have hp1n : p1 ≤ n := by omega
    rw [← hp1] at GX
    have HP1 := Lib.hid hp1
    rw [hp1i]
    clear hp1 hcv RA a1 a2 a3 e1 e2 e3 hm9 hp1i hcp hroom
    by_cases b1 : p1 + 2 ≤ n
    case neg =>
      have NOX := Lib.hid (NO.out (gtb_no2 GX.out (gtx_none (.inl (by rw [← HN.out]; omega)))))
      have e1 : decide ((p1 : Int) + 2 > (n : Int)) = true := decide_eq_true (by omega)
      clear NO b1
      go_wp2_with fail
      rw [rounds_succ]
      go_wp2_with fail
      go_ret2
      exact ⟨.inr ⟨NOX.out, rfl⟩, BA.out _⟩
    have e1 : decide ((p1 : Int) + 2 > (n : Int)) = false := decide_eq_false (by omega)
    have RB := Lib.hid (fun (o : Obj) => R2.out (wa.alloc o) p1 (BA.out o) b1)
    obtain ⟨k, hk⟩ : ∃ k, k = n2 bs p1 := ⟨_, rfl⟩
    rw [← hk] at RB
    have hk9 : k ≤ 65535 := by rw [hk]; exact SM.out p1
    by_cases b2 : k ≤ 4000
    case neg =>
      have NOX := Lib.hid (NO.out (gtb_no2 GX.out (gtx_none (.inr (.inl (by rw [← hk]; omega))))))
      have e2 : decide ((k : Int) > 4000) = true := decide_eq_true (by omega)
      clear NO b1 b2 hk
      go_wp2_with fail
      rw [rounds_succ]
      go_wp2_with fail
      refine (RB.out _).mono ?_
      rintro e w' ⟨rfl, rfl⟩
      go_wp2_with fail
      go_ret2
      exact ⟨.inr ⟨NOX.out, rfl⟩, BA.out _⟩
    have e2 : decide ((k : Int) > 4000) = false := decide_eq_false (by omega)
    by_cases b3 : p1 + 2 + k ≤ n
    case neg =>
      have NOX := Lib.hid (NO.out (gtb_no2 GX.out (gtx_none (.inr (.inr (by rw [← hk, ← HN.out]; omega))))))
      have e3 : decide ((p1 : Int) + 2 + (k : Int) > (n : Int)) = true := decide_eq_true (by omega)
      clear NO b1 b2 b3 hk
      go_wp2_with fail
      rw [rounds_succ]
      go_wp2_with fail
      refine (RB.out _).mono ?_
      rintro e w' ⟨rfl, rfl⟩
      go_wp2_with fail
      go_ret2
      exact ⟨.inr ⟨NOX.out, rfl⟩, BA.out _⟩
    have e3 : decide ((p1 : Int) + 2 + (k : Int) > (n : Int)) = false := decide_eq_false (by omega)
    have GY := Lib.hid (gtx_yes (m := 4000) (bs := bs) (p := p1) (by rw [← HN.out]; exact b1) (by rw [← hk]; exact b2) (by rw [← hk, ← HN.out]; exact b3))
    rw [← hk] at GY
    obtain ⟨F, hF⟩ : ∃ F, F = str ((bs.drop (p1 + 2)).take k) := ⟨_, rfl⟩
    rw [← hF] at GY
    have CV0 : Hid (k = 0 → ∀ a c' (y : World), (convert 23 9 (.slice a 0 c')).run Try.prog y = .ok (.string F) y) := Lib.hid (fun h0 a c' y => by
      rw [hF, h0, List.take_zero]
      exact conv_src (R := fun _ => True) (.inl ⟨rfl, a, c', rfl⟩))
    have CV1 : Hid (∀ c' (o : Obj), (convert 23 9 (.slice (some ⟨b, off + (p1 + 2), none⟩) k c')).run Try.prog (wa.alloc o) = .ok (.string F) (wa.alloc o)) := Lib.hid (fun c' o => by
      have hl : ((bs.drop (p1 + 2)).take k).length = k := by rw [List.length_take, List.length_drop, ← HN.out]; omega
      have := conv_cells (wa.alloc o) 23 Try.underlying23 b (off + (p1 + 2)) c' ((bs.drop (p1 + 2)).take k) (fun i hi => by
        rw [hl] at hi
        rw [Nat.add_assoc, CE.out _ (BA.out o) (p1 + 2 + i) (by omega)]
        unfold g
        simp only [List.getD_eq_getElem?_getD]
        rw [List.getElem?_take_of_lt hi, List.getElem?_drop])
      rw [hl] at this
      rw [hF]; exact this)
    have hcp : p1 + 2 + k ≤ c := by omega
    clear hk hF
    by_cases hroom : c = p1 + 2
    case pos =>
      have NOX := Lib.hid (NO.out (gtb_no3 GX.out GY.out (by rw [← HN.out]; omega)))
      have hcv := CV0.out (by omega) (some ⟨b, off, none⟩) 0 (wa.alloc (.cells #[.string S, .string ⟨#[]⟩] 66))
      have e4 : decide ((p1 : Int) + 2 + (k : Int) + 16 > (n : Int)) = true := decide_eq_true (by omega)
      clear NO GX GY CV0 CV1
      subst hroom
      go_wp2_with fail
      rw [rounds_succ]
      go_wp2_with fail
      refine (RB.out _).mono ?_
      rintro e w' ⟨rfl, rfl⟩
      go_wp2_with fail
      rw [rounds_succ]
      go_wp2_with fail
      go_ret2
      exact ⟨.inr ⟨NOX.out, rfl⟩, BA.out _⟩
    have hcv := CV1.out (c - (p1 + 2)) (.cells #[.string S, .string ⟨#[]⟩] 66)
    clear CV0 CV1
    go_wp2_with fail
    rw [rounds_succ]
    go_wp2_with fail
    refine (RB.out _).mono ?_
    rintro e w' ⟨rfl, rfl⟩
    go_upto_region 15 with (fail)
    obtain ⟨p2, hp2⟩ : ∃ p2, p2 = p1 + 2 + k := ⟨_, rfl⟩
    have hp2i : (p1 : Int) + 2 + (k : Int) = (p2 : Int) := by omega
    have hp2n : p2 ≤ n := by omega
    have hpp : p ≤ p2 := by have := HP1.out; omega
    rw [← hp2] at GY
    rw [hp2i]
    clear hp2 hcv RB b1 b2 b3 e1 e2 e3 hk9 hp2i hcp hroom hp1n
    by_cases c1 : p2 + 16 ≤ n
    case neg =>
      have NOX := Lib.hid (NO.out (gtb_no3 GX.out GY.out (by rw [← HN.out]; omega)))
      have e4 : decide ((p2 : Int) + 16 > (n : Int)) = true := decide_eq_true (by omega)
      clear NO c1
      go_wp2_with fail
      rw [rounds_succ]
      go_wp2_with fail
      go_ret2
      exact ⟨.inr ⟨NOX.out, rfl⟩, BA.out _⟩
    have e4 : decide ((p2 : Int) + 16 > (n : Int)) = false := decide_eq_false (by omega)
    obtain ⟨V, hV⟩ : ∃ V : Int → Nat, V = fun j => num8 bs j.toNat := ⟨_, rfl⟩
    obtain ⟨W, hW⟩ : ∃ W, W = wa.alloc (.cells #[.string S, .string F] 66) := ⟨_, rfl⟩
    have R8 := Lib.hid (show ∀ (j : Int), (j = (p2 : Int) ∨ j = (p2 : Int) + 8) → Calls Try.prog 28 #[.slice (some ⟨b, off, none⟩) n c, .int .i64 j, .int .i64 8] W.drew fun e w' => e = .returned (.int .u64 (V j : Nat)) ∧ w' = W.drew from fun j hj => by
      obtain ⟨q, hq, hq8⟩ : ∃ q : Nat, j = (q : Int) ∧ q + 8 ≤ n := by
        rcases hj with rfl | rfl
        · exact ⟨p2, rfl, by omega⟩
        · exact ⟨p2 + 8, by push_cast; rfl, by omega⟩
      have := readat38 W.drew b off n c bs q 8 (by decide) HX.out (by omega) hq8 (CE.out W.drew (by rw [hW]; exact (BA.out _).drew))
      rw [part_eight] at this
      subst hq
      rw [hV]
      simpa using this)
    have GZ := Lib.hid (gtb_yes GX.out GY.out (by rw [← HN.out]; exact c1))
    have HVs := Lib.hid (show wrap64 (V (p2 : Int) : Nat) = wrap64 (num8 bs p2 : Nat) ∧ wrap64 (V ((p2 : Int) + 8) : Nat) = wrap64 (num8 bs (p2 + 8) : Nat) from by
      rw [hV]
      constructor
      · simp
      · simp only [show ((p2 : Int) + 8).toNat = p2 + 8 by omega])
    rw [← HVs.out.1, ← HVs.out.2] at GZ
    go_wp2_with fail
    rw [rounds_succ]
    go_wp2_with fail
    rw [← hW]
    have HWs := Lib.hid (show W.heap.size = wa.heap.size + 1 from by rw [hW]; simp)
    have ha := heap_alloc_new wa (.cells #[.string S, .string F] 66)
    rw [← hW] at ha
    have CB := Lib.hid (show ∀ y : World, y.heap[wa.heap.size]? = W.heap[wa.heap.size]? → y.cell? ⟨wa.heap.size, 0, none⟩ = some (.string S) ∧ y.cell? ⟨wa.heap.size, 1, none⟩ = some (.string F) from fun y hy => ⟨cell_at (hy.trans ha) 0, cell_at (hy.trans ha) 1⟩)
    have kX := CB.out W.drew rfl
    have NEWC : ∀ j u, (tc (S, F, wrap64 (V (p2 : Int) : Nat), wrap64 (V ((p2 : Int) + 8) : Nat)))[j]? = some u → (W.drew.alloc (.cells #[.string S, .string F, .int .i64 (wrap64 (V (p2 : Int) : Nat)), .int .i64 (wrap64 (V ((p2 : Int) + 8) : Nat))] 44)).cell? ((⟨W.heap.size, 0, none⟩ : Addr).add j) = some u := fun j u hj => by
      have hn := heap_alloc_new W.drew (.cells #[.string S, .string F, .int .i64 (wrap64 (V (p2 : Int) : Nat)), .int .i64 (wrap64 (V ((p2 : Int) + 8) : Nat))] 44)
      have e : ((⟨W.heap.size, 0, none⟩ : Addr).add j) = ⟨W.heap.size, j, none⟩ := by cases j <;> simp [Addr.add]
      rw [e]
      refine (cell_at hn j).trans ?_
      rw [← Array.getElem?_toList]
      exact hj
    have OWN : Hid ((W.drew.alloc (.cells #[.string S, .string F, .int .i64 (wrap64 (V (p2 : Int) : Nat)), .int .i64 (wrap64 (V ((p2 : Int) + 8) : Nat))] 44)).ownsRow w.heap.size 44 4 (.slice oa L.length oc) L.length (tcs L)) := Lib.hid (by
      rw [hW]
      exact ((HR.out.row.alloc _).drew).alloc _)
    have hln : L.length * 20 ≤ 100000000 := by
      have := (it_some HX.out HR.out.st).2.2.2.2.1
      omega
    have hwW : w.heap.size ≤ W.heap.size := by have := HWs.out; have := HR.out.below.size; omega
    have XB := Lib.hid (show ∀ (v' : Value) (w6 : World), w6.ownsRow w.heap.size 44 4 v' (L.length + 1) (tcs L ++ tc (S, F, wrap64 (V (p2 : Int) : Nat), wrap64 (V ((p2 : Int) + 8) : Nat))) → (W.drew.alloc (.cells #[.string S, .string F, .int .i64 (wrap64 (V (p2 : Int) : Nat)), .int .i64 (wrap64 (V ((p2 : Int) + 8) : Nat))] 44)).grownBy w6 (Value.slice oa L.length oc).ownBlock → RD w w6 v' bs (p2 + 16) (L ++ [(S, F, wrap64 (V (p2 : Int) : Nat), wrap64 (V ((p2 : Int) + 8) : Nat))]) ∧ w6.heap[wa.heap.size]? = W.heap[wa.heap.size]? from fun v' w6 hr hg => by
      rw [hW] at hg ⊢
      exact RD.step HR.out (by rw [← HN.out]; exact hp) rfl GZ.out hr hg)
    have hw8 : IntKind.i64.wrap ((p2 : Int) + 8) = (p2 : Int) + 8 := by rw [IntKind.wrap_i64]; omega
    have hwa : IntKind.i64.wrap (V (p2 : Int) : Nat) = wrap64 (V (p2 : Int) : Nat) := IntWalk.i64_left _
    have hwb : IntKind.i64.wrap (V ((p2 : Int) + 8) : Nat) = wrap64 (V ((p2 : Int) + 8) : Nat) := IntWalk.i64_left _
    have HGK := Lib.hid (show n - (p2 + 16) < gk ∧ p2 + 16 ≤ n from ⟨by omega, c1⟩)
    clear hV hW ha GZ HVs GX GY e4 NO hgk hpp hp2n hp hpn
    go_region_held_law (fun y : World => y.cell? ⟨wa.heap.size, 0, none⟩ = some (.string S) ∧ y.cell? ⟨wa.heap.size, 1, none⟩ = some (.string F))
      (first | exact kX | exact kY | exact CB.out _ (Below.heap_alloc W.drew _ _ (by have := HWs.out; simp; omega)))
      (first
        | (go_at_call 28; refine (R8.out _ (by first | exact .inl rfl | exact .inr rfl)).mono ?_; rintro e w' ⟨rfl, rfl⟩)
        | (refine Gt.step_append_own rfl (.tmp 57) (.tmp 72) 22 rfl w.heap.size 44 i0 _ 4 48 Try.underlying22 hi hz0 hz1 hz2 rfl (by decide) (.slice oa L.length oc) L.length (tcs L) (by simp [Act.eval]) OWN.out ⟨W.heap.size, 0, none⟩ 1 1 (tc (S, F, wrap64 (V (p2 : Int) : Nat), wrap64 (V ((p2 : Int) + 8) : Nat))) (by simp [Act.eval]) rfl NEWC (tc_one _) (by unfold maxLen; omega) (by omega) (by simp; omega) ?_; intro v' w6 hown6 hgrow; have N6 := Lib.hid (XB.out v' w6 hown6 hgrow); have kY := CB.out w6 N6.out.2; clear hown6 hgrow))
    all_goals
      obtain ⟨hgk2, hc16⟩ := HGK.out
      go_wp2_with fail
      go_roundg (n - (p2 + 16))
      case measure => exact hgk2
      case rel => exact ⟨p2 + 16, _, by go_num, hc16, Nat.le_refl _, Lib.hid N6.out.1⟩
end Iv
end Go.Proofs.Ytmlbmiegfeadjaa
