/- Tombs read by the program. -/
import Derived.Test.YtmlbmiegfeadjaaIe
namespace Go.Proofs.Ytmlbmiegfeadjaa
open Go.RowKit
namespace Ig
open Ga Gm Gt
open Mt (eight eight_lt num8 bb has_bb num_byte)
open Bm (Has num num_add)
open Wr (Is u8s u8s_len u8s_get info5)
open Rd (Rh Only left21 bad20 new16)
open Ia Ib Ix Ie
open Jb (str)

/-- The reader at q: bad, if there is none. -/
def Sq (w : World) (g : Nat) (s : Value) (bs : List Nat) : Option Nat → Prop
  | some p => Ok w g s bs p
  | none => Bad w g
theorem Sq.kept {w w' : World} {g : Nat} {s : Value} {bs : List Nat} {q : Option Nat} (h : Sq w g s bs q) (hg : w'.heap[g]? = w.heap[g]?) (ho : ∀ k, s.ownBlock = some k → w'.heap[k]? = w.heap[k]?) (hs : w.heap.size ≤ w'.heap.size) : Sq w' g s bs q := by
  cases q with
  | none => exact Bad.kept h hg hs
  | some p => exact Ok.kept h hg ho hs
def TG (bs : List Nat) (S : ByteArray) : Option Nat → Option Nat → Prop
  | some p, q => gtx 65535 bs p = q.map fun p' => (S, p')
  | none, q => q = none
def NG (bs : List Nat) (v : Nat) : Option Nat → Option Nat → Prop
  | some p, q => (p + 8 ≤ bs.length ∧ q = some (p + 8) ∧ v = num8 bs p) ∨ (bs.length < p + 8 ∧ q = none)
  | none, q => q = none
theorem comb {bs : List Nat} {p : Nat} {S F : ByteArray} {a b : Nat} {q1 q2 q3 q4 : Option Nat} (h1 : TG bs S (some p) q1) (h2 : TG bs F q1 q2) (h3 : NG bs a q2 q3) (h4 : NG bs b q3 q4) :
    gtb 65535 bs p = q4.map fun p' => ((S, F, wrap64 (a : Nat), wrap64 (b : Nat)), p') := by
  unfold gtb
  have h1' : gtx 65535 bs p = q1.map fun p' => (S, p') := h1
  rw [h1']
  cases q1 with
  | none => obtain rfl : q2 = none := h2; obtain rfl : q3 = none := h3; obtain rfl : q4 = none := h4; rfl
  | some p1 =>
    have h2' : gtx 65535 bs p1 = q2.map fun p' => (F, p') := h2
    rw [Option.map_some, Option.bind_some]
    simp only
    rw [h2']
    cases q2 with
    | none => obtain rfl : q3 = none := h3; obtain rfl : q4 = none := h4; rfl
    | some p2 =>
      rw [Option.map_some, Option.bind_some]
      simp only
      rcases h3 with ⟨c1, rfl, rfl⟩ | ⟨c1, rfl⟩
      · rcases h4 with ⟨d1, rfl, rfl⟩ | ⟨d1, rfl⟩
        · rw [if_pos (by omega)]; rfl
        · rw [if_neg (by omega)]; rfl
      · obtain rfl : q4 = none := h4
        rw [if_neg (by omega)]; rfl
set_option maxRecDepth 100000
set_option maxHeartbeats 8000000
theorem text_bad (w : World) (g : Nat) (h : Bad w g) : Calls Try.prog 39 #[.pointer (some ⟨g, 0, none⟩)] w fun e w' => Only w w' g ∧ (∃ S, e = .returned (.string S)) ∧ Bad w' g := by
  have G := Lib.hid (get2_bad w g 16 h)
  have H := Lib.hid h
  obtain ⟨w2, hmk, hown, hbel⟩ := make_c w 0 (by decide)
  have hmk2 : (Instr.makeSlice 23 (.int .u64 0) (.int .u64 0)).run Try.prog w = .ok (.slice (some ⟨w.heap.size, 0, none⟩) 0 0) w2 := hmk
  have hcv : (convert 23 9 (.slice (some ⟨w.heap.size, 0, none⟩) 0 0)).run Try.prog w2 = .ok (.string (str [])) w2 := Jb.conv_own (B := w.heap.size) (bs := []) (by exact hown)
  have FIN := Lib.hid (show Only w w2 g ∧ Bad w2 g from ⟨⟨hbel.os, hbel.tape, hbel.output, hbel.size, fun k hk _ => hbel.block k hk⟩, h.kept (hbel.block g h.lt) hbel.size⟩)
  clear h hown hbel hmk
  go_enter Try.func39, Try.ntmps39
  go_wp2_with fail
  refine G.out.mono ?_
  rintro e w1 ⟨rfl, rfl⟩
  go_wp2_with fail
  refine wp_loop_rounds 1 ?_
  rw [rounds_succ]
  go_wp2_with fail
  go_ret
  exact ⟨FIN.out.1, ⟨_, rfl⟩, FIN.out.2⟩
theorem text (w : World) (g : Nat) (s : Value) (bs : List Nat) (q : Option Nat) (h : Sq w g s bs q) (hX : ∀ b ∈ bs, b < 256) (hb : bs.length ≤ 100000000000) :
    Calls Try.prog 39 #[.pointer (some ⟨g, 0, none⟩)] w fun e w' => ∃ S q', e = .returned (.string S) ∧ TG bs S q q' ∧ Sq w' g s bs q' ∧ Only w w' g := by
  cases q with
  | none =>
    refine (text_bad w g h).mono ?_
    rintro e w' ⟨o, ⟨S, rfl⟩, hb⟩
    exact ⟨S, none, rfl, rfl, hb, o⟩
  | some p =>
    refine (getText39 w g s bs p h hX hb).mono ?_
    rintro e w' ⟨o, ⟨S, p', h1, rfl, h2⟩ | ⟨h1, ⟨S, rfl⟩, h2⟩⟩
    · exact ⟨S, some p', rfl, h1, h2, o⟩
    · exact ⟨S, none, rfl, h1, h2, o⟩
theorem get64 (w : World) (g : Nat) (s : Value) (bs : List Nat) (q : Option Nat) (h : Sq w g s bs q) (hX : ∀ b ∈ bs, b < 256) (hb : bs.length ≤ 100000000000) :
    Calls Try.prog 40 #[.pointer (some ⟨g, 0, none⟩), .int .i64 64] w fun e w' => ∃ v q', e = .returned (.int .u64 (v : Nat)) ∧ v < 18446744073709551616 ∧ NG bs v q q' ∧ Sq w' g s bs q' ∧ Only w w' g := by
  cases q with
  | none =>
    refine (get2_bad w g 64 h).mono ?_
    rintro e w' ⟨rfl, rfl⟩
    exact ⟨0, none, rfl, by decide, rfl, h, Only.refl _ _⟩
  | some p =>
    refine (get2 w g s bs p 8 64 (num8 bs p) rfl (by decide) (by decide) h hX (by omega) (fun _ => num_eight hX p)).mono ?_
    rintro e w' ⟨o, ⟨h1, rfl, h2⟩ | ⟨h1, rfl, h2⟩⟩
    · exact ⟨_, some (p + 8), rfl, num8_lt hX p, .inl ⟨h1, rfl, rfl⟩, h2, o⟩
    · exact ⟨0, none, rfl, by decide, .inr ⟨h1, rfl⟩, h2, o⟩
end Ig
end Go.Proofs.Ytmlbmiegfeadjaa
