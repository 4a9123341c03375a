/- read: tombs out of bytes. -/
import Derived.Test.YtmlbmiegfeadjaaIg
import Derived.Deep.LoopGhost
namespace Go.Proofs.Ytmlbmiegfeadjaa
open Go.RowKit
namespace Ih
open Ga Gm Gt
open Mt (eight eight_lt num8 bb has_bb num_byte)
open Bm (Has num num_add)
open Wr (Is u8s u8s_len u8s_get)
open Rd (Rh Only left21 bad20 new16)
open Ia Ib Ix Ie Ig
open Jb (str)

def Stk (bs : List Nat) : Prop := ∃ k p L0, it 65535 bs k = some (p, L0) ∧ p < bs.length ∧ gtb 65535 bs p = none
def St (bs : List Nat) (L : List Tmb) : Option Nat → Prop
  | some p => it 65535 bs L.length = some (p, L)
  | none => Stk bs
structure RI (w0 wr : World) (g B : Nat) (s v : Value) (bs : List Nat) (q : Option Nat) (L : List Tmb) : Prop where
  below : Below w0.heap.size w0 wr
  size : B ≤ wr.heap.size
  row : wr.ownsRow B 57 4 v L.length (tcs L)
  sq : Sq wr g s bs q
  wt : ∀ x ∈ L, Wt x
  len : L.length * 20 ≤ bs.length + 20
  st : St bs L q
def lf (bs : List Nat) : Option Nat → Nat
  | some p => 8 * bs.length - 8 * p
  | none => 0
def gh (bs : List Nat) : Option Nat → Nat
  | some p => bs.length - p + 1
  | none => 0
def bd : Option Nat → Bool
  | some _ => false
  | none => true
theorem left_sq (w : World) (g : Nat) (s : Value) (bs : List Nat) (q : Option Nat) (h : Sq w g s bs q) (hb : bs.length ≤ 100000000000) :
    Calls Try.prog 38 #[.pointer (some ⟨g, 0, none⟩)] w fun e w' => e = .returned (.int .i64 ((lf bs q : Nat) : Int)) ∧ ∃ n, w' = w.drewN n := by
  cases q with
  | some p => exact left21 w g s bs (8 * p) false h.1 (by have := h.2; omega) (by omega)
  | none => exact left21 w g (.slice none 0 0) [] 0 true h (by simp) (by simp)
theorem bad_sq (w : World) (g : Nat) (s : Value) (bs : List Nat) (q : Option Nat) (h : Sq w g s bs q) :
    Calls Try.prog 41 #[.pointer (some ⟨g, 0, none⟩)] w fun e w' => e = .returned (.bool (bd q)) ∧ w' = w := by
  cases q with
  | some p => exact bad20 w g s bs (8 * p) false h.1
  | none => exact bad20 w g (.slice none 0 0) [] 0 true h
theorem RI.row_only {w0 wr w4 : World} {g B : Nat} {s v : Value} {bs : List Nat} {q : Option Nat} {L : List Tmb} (h : RI w0 wr g B s v bs q L) (hg : g < B) (o : Only wr w4 g) : w4.ownsRow B 57 4 v L.length (tcs L) :=
  own_of_block h.row fun k hk => by
    have := Gt.own_lt h.row hk
    exact o.block k this.2 (by omega)
theorem RI.step {w0 wr w4 w6 : World} {g B p : Nat} {s v v' : Value} {bs : List Nat} {q : Option Nat} {L : List Tmb} {x : Tmb} (h : RI w0 wr g B s v bs (some p) L) (hX : ∀ b ∈ bs, b < 256) (hp : p < bs.length)
    (hG : w0.heap.size ≤ g ∧ g < B ∧ (∀ k, s.ownBlock = some k → w0.heap.size ≤ k ∧ k < B)) (o : Only wr w4 g) (sq : Sq w4 g s bs q) (hg : gtb 65535 bs p = q.map fun p' => (x, p')) (hx : Wt x)
    (row : w6.ownsRow B 57 4 v' (L.length + 1) (tcs L ++ tc x)) (gr : w4.grownBy w6 v.ownBlock) : RI w0 w6 g B s v' bs q (L ++ [x]) ∧ gh bs q < gh bs (some p) := by
  obtain ⟨g1, g2, g3⟩ := hG
  have hz := h.size
  have hz4 := o.size
  have blk : ∀ k, k < B → w6.heap[k]? = w4.heap[k]? := fun k hk => gr.block k (by omega) (fun e => by have := (Gt.own_lt h.row e.symm).1; omega)
  have hst : it 65535 bs L.length = some (p, L) := h.st
  obtain ⟨_, _, _, _, c5, c6⟩ := it_some hX hst
  refine ⟨⟨?_, ?_, ?_, ?_, ?_, ?_, ?_⟩, ?_⟩
  · refine ⟨gr.os.trans (o.os.trans h.below.os), gr.tape.trans (o.tape.trans h.below.tape), gr.output.trans (o.output.trans h.below.output), Nat.le_trans h.below.size (Nat.le_trans o.size gr.size), fun k hk => ?_⟩
    have := h.below.size
    rw [blk k (by omega), o.block k (by omega) (by omega)]
    exact h.below.block k hk
  · exact Nat.le_trans hz (Nat.le_trans o.size gr.size)
  · rw [tcs_snoc, List.length_append]; exact row
  · exact Sq.kept sq (blk g g2) (fun k hk => blk k (g3 k hk).2) gr.size
  · intro y hy
    rcases List.mem_append.1 hy with hy | hy
    · exact h.wt y hy
    · obtain rfl : y = x := by simpa using hy
      exact hx
  · rw [List.length_append]; simp only [List.length_cons, List.length_nil]; omega
  · cases q with
    | none => exact ⟨_, p, L, hst, hp, hg⟩
    | some p' =>
      show it 65535 bs (L ++ [x]).length = some (p', L ++ [x])
      rw [List.length_append]
      show (it 65535 bs L.length).bind _ = _
      rw [hst, Option.bind_some]
      simp only
      rw [if_pos hp, hg]
      rfl
  · cases q with
    | none => show 0 < bs.length - p + 1; omega
    | some p' =>
      obtain ⟨_, _, _, h4, h5⟩ := gtb_some hX hg
      show bs.length - p' + 1 < bs.length - p + 1
      omega
/-- What read answers. -/
def Rdd (bs : List Nat) (L : List Tmb) (ok : Bool) : Prop := (ok = true ∧ it 65535 bs L.length = some (bs.length, L)) ∨ (ok = false ∧ Stk bs)
set_option maxRecDepth 100000
set_option maxHeartbeats 8000000
theorem read27 (w : World) (v0 : Value) (bs : List Nat) (h : Is w v0 bs) (hX : ∀ b ∈ bs, b < 256) (hb : bs.length ≤ 100000000000) :
    Calls Try.prog 27 #[v0] w fun e w' => ∃ v L ok, e = .returned (.tuple #[v, .bool ok]) ∧ w'.ownsRow w.heap.size 57 4 v L.length (tcs L) ∧ (∀ x ∈ L, Wt x) ∧ L.length * 20 ≤ bs.length + 20 ∧ Below w.heap.size w w' ∧ Rdd bs L ok := by
  have N := Lib.hid (new16 w v0 bs h (by omega))
  have HX := Lib.hid hX
  obtain ⟨i0, hi, hz0, hz1, hz2⟩ := info_parts info57
  clear h hX
  go_enter Try.func27, Try.ntmps27
  go_wp2_with fail
  refine N.out.mono ?_
  rintro e w1 ⟨g, s, rfl, hr, hgw, hsw, hbw⟩
  obtain ⟨B, hB⟩ : ∃ B, B = w1.heap.size := ⟨_, rfl⟩
  have OK0 : Ok w1 g s bs 0 := ⟨hr, Nat.zero_le _⟩
  have I0 := Lib.hid (show RI w w1 g B s (.slice none 0 0) bs (some 0) [] from ⟨hbw, by omega, World.ownsRow_nil _ _ _ _, OK0, by simp, by simp, rfl⟩)
  have HG := Lib.hid (show w.heap.size ≤ g ∧ g < B ∧ (∀ k, s.ownBlock = some k → w.heap.size ≤ k ∧ k < B) from ⟨hgw, by have := OK0.lt.1; omega, fun k hk => ⟨hsw k hk, by have := (OK0.lt.2 k hk).1; omega⟩⟩)
  clear hr hgw hsw hbw OK0 hB N
  go_wp2_with fail
  go_loopg [4] (bs.length + 1) (fun kx s4 wr => ∃ q L, gh bs q ≤ kx ∧ Hid (RI w wr g B s s4 bs q L))
  case atStart => exact ⟨some 0, [], by simp [gh], I0⟩
  case round =>
    obtain ⟨q, L, hgx, HI⟩ := hrel
    obtain ⟨wa, rfl⟩ : ∃ wa, wa = wr := ⟨_, rfl⟩
    obtain ⟨ai, ci, rfl⟩ := own_forms HI.out.row
    have LF := Lib.hid (left_sq wa g s bs q HI.out.sq (by omega))
    by_cases h0 : lf bs q = 0
    · rw [h0] at LF
      have FIN := Lib.hid (show ∀ n, Calls Try.prog 41 #[.pointer (some ⟨g, 0, none⟩)] (wa.drewN n) fun e w' => e = .returned (.bool (bd q)) ∧ w' = wa.drewN n from fun n => bad_sq _ g s bs q (HI.out.sq.kept (w' := wa.drewN n) rfl (fun _ _ => rfl) (Nat.le_refl _)))
      have RD := Lib.hid (show Rdd bs L (!bd q) from by
        have hs := HI.out.st
        cases q with
        | none => exact .inr ⟨rfl, hs⟩
        | some p =>
          have hs' : it 65535 bs L.length = some (p, L) := hs
          obtain ⟨_, _, _, _, _, c6⟩ := it_some HX.out hs'
          have : 8 * bs.length - 8 * p = 0 := h0
          obtain rfl : p = bs.length := by omega
          exact .inl ⟨rfl, hs'⟩)
      clear h0
      go_wp2_with fail
      refine LF.out.mono ?_
      rintro e w2 ⟨rfl, n, rfl⟩
      go_wp2_with fail
      refine (FIN.out n).mono ?_
      rintro e w3 ⟨rfl, rfl⟩
      go_wp2_with fail
      go_ret2
      have HI2 := HI.out
      have HG2 := HG.out.1
      have HG3 := HG.out.2.1
      exact ⟨_, L, _, rfl, Go.Joins.ownsRow_le (own_of_block HI2.row (w' := wa.drewN n) fun _ _ => rfl) (by omega), HI2.wt, HI2.len, ⟨HI2.below.os, HI2.below.tape, HI2.below.output, HI2.below.size, HI2.below.block⟩, RD.out⟩
    obtain ⟨p, rfl, hp⟩ : ∃ p, q = some p ∧ p < bs.length := by
      cases q with
      | none => exact absurd rfl h0
      | some p => exact ⟨p, rfl, by have : ¬ (8 * bs.length - 8 * p = 0) := h0; omega⟩
    have hlf : ((lf bs (some p) : Nat) : Int) > 0 := by omega
    generalize lf bs (some p) = lft at LF h0 hlf
    have T1 := Lib.hid (fun n => text (wa.drewN n) g s bs (some p) (HI.out.sq.kept (w' := wa.drewN n) rfl (fun _ _ => rfl) (Nat.le_refl _)) HX.out (by omega))
    have T2 := Lib.hid (fun (y : World) q' (h : Sq y g s bs q') => text y g s bs q' h HX.out (by omega))
    have T3 := Lib.hid (fun (y : World) q' (h : Sq y g s bs q') => get64 y g s bs q' h HX.out (by omega))
    have HP := Lib.hid hp
    have HGX := Lib.hid hgx
    clear h0 hp hgx
    go_wp2_with fail
    refine LF.out.mono ?_
    rintro e w1' ⟨rfl, n, rfl⟩
    have T1' := Lib.hid (T1.out n)
    clear T1 LF
    go_wp2_with fail
    refine T1'.out.mono ?_
    rintro e w2 ⟨S, q1, rfl, t1, s1, o1⟩
    have T2' := Lib.hid (T2.out w2 q1 s1)
    clear T1'
    go_wp2_with fail
    refine T2'.out.mono ?_
    rintro e w3 ⟨F, q2, rfl, t2, s2, o2⟩
    have T3' := Lib.hid (T3.out w3 q2 s2)
    clear T2' T2
    go_wp2_with fail
    refine T3'.out.mono ?_
    rintro e w4 ⟨a, q3, rfl, ha, t3, s3, o3⟩
    have T4' := Lib.hid (T3.out w4 q3 s3)
    clear T3'
    go_wp2_with fail
    refine T4'.out.mono ?_
    rintro e w5 ⟨b, q4, rfl, hb4, t4, s4, o4⟩
    have GT := Lib.hid (comb t1 t2 t3 t4)
    have S4 := Lib.hid s4
    have O4 := Lib.hid ((((Only.refl wa g).drewN n).trans (o1.trans (o2.trans (o3.trans o4)))))
    have OWN := Lib.hid (HI.out.row_only HG.out.2.1 O4.out)
    have WX := Lib.hid (show Wt (S, F, wrap64 (a : Nat), wrap64 (b : Nat)) from ⟨wrap_bnd _, wrap_bnd _⟩)
    have NEWC : ∀ j u, (tc (S, F, wrap64 (a : Nat), wrap64 (b : Nat)))[j]? = some u → (w5.alloc (.cells #[.string S, .string F, .int .i64 (wrap64 (a : Nat)), .int .i64 (wrap64 (b : Nat))] 57)).cell? ((⟨w5.heap.size, 0, none⟩ : Addr).add j) = some u := fun j u hj => by
      have hn := heap_alloc_new w5 (.cells #[.string S, .string F, .int .i64 (wrap64 (a : Nat)), .int .i64 (wrap64 (b : Nat))] 57)
      have e : ((⟨w5.heap.size, 0, none⟩ : Addr).add j) = ⟨w5.heap.size, j, none⟩ := by cases j <;> simp [Addr.add]
      rw [e, cell_at hn j, ← Array.getElem?_toList]
      exact hj
    have OWN2 := Lib.hid (OWN.out.alloc (.cells #[.string S, .string F, .int .i64 (wrap64 (a : Nat)), .int .i64 (wrap64 (b : Nat))] 57))
    have hsz : B ≤ w5.heap.size := Nat.le_trans HI.out.size O4.out.size
    have hlen : L.length * 20 ≤ 100000000020 := by have := HI.out.len; omega
    have STEP := Lib.hid (fun (v' : Value) (w6 : World) (hr : w6.ownsRow B 57 4 v' (L.length + 1) (tcs L ++ tc (S, F, wrap64 (a : Nat), wrap64 (b : Nat)))) (hgr : (w5.alloc (.cells #[.string S, .string F, .int .i64 (wrap64 (a : Nat)), .int .i64 (wrap64 (b : Nat))] 57)).grownBy w6 (Value.slice ai L.length ci).ownBlock) =>
      RI.step HI.out HX.out HP.out HG.out O4.out S4.out GT.out WX.out hr (World.grownBy.trans (World.grownBy_alloc w5 _ _) hgr))
    clear T4' T3 t1 t2 t3 t4 s1 s2 s3 s4 o1 o2 o3 o4 ha hb4 GT S4 OWN WX
    go_wp2_with (at_builtin; refine wpList_append_own _ rfl (.tmp 25) (.tmp 31) 29 rfl B 57 i0 _ 4 48 Try.underlying29 hi hz0 hz1 hz2 rfl (by decide) (.slice ai L.length ci) L.length (tcs L) (by simp [Act.eval]) OWN2.out ⟨w5.heap.size, 0, none⟩ 1 1 (tc (S, F, wrap64 (a : Nat), wrap64 (b : Nat))) rfl rfl NEWC ?c2 ?c3 ?c4 ?c5 ?_)
    case c2 => exact tc_one _
    case c3 => unfold maxLen; omega
    case c4 => omega
    case c5 => simp; omega
    intro v' w6 hown6 hgrow _
    obtain ⟨ri, hgh⟩ := STEP.out v' w6 hown6 hgrow
    have RI6 := Lib.hid ri
    have hgk := HGX.out
    clear ri hown6 hgrow STEP NEWC OWN2
    go_wp2_with fail
    go_roundg (gh bs q4)
    case measure => omega
    case rel => exact ⟨q4, _, Nat.le_refl _, RI6⟩
end Ih
end Go.Proofs.Ytmlbmiegfeadjaa
