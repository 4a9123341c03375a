/- A restart: plain mathematics. -/
import Derived.Test.YtdaknlmnelfedaaGreatDoorJq
namespace Go.Proofs.YtdaknlmnelfedaaGreatDoor
namespace J1
open Jg

def nm (x : List UInt8) : ByteArray := ⟨x.toArray⟩
theorem nm_inj {x y : List UInt8} (h : nm x = nm y) : x = y := by
  unfold nm at h
  injection h with h
  simpa using h
abbrev FT := ByteArray → Option (List Nat × Nat)
def lenAt (F : FT) (x : List UInt8) : Nat := ((F (nm x)).getD ([], 0)).1.length
/-- The sum of all lengths. -/
def tot (F : FT) (ns : List (List UInt8)) : Nat := (ns.map (lenAt F)).sum
def upd (F : FT) (s : ByteArray) (v : List Nat × Nat) : FT := fun y => if y = s then some v else F y
theorem upd_same (F : FT) (s : ByteArray) (v : List Nat × Nat) : upd F s v s = some v := if_pos rfl
theorem upd_other {F : FT} {s t : ByteArray} {v : List Nat × Nat} (h : t ≠ s) : upd F s v t = F t := if_neg h
theorem tot_miss {F : FT} {x : List UInt8} {v : List Nat × Nat} : ∀ {ns : List (List UInt8)}, x ∉ ns → tot (upd F (nm x) v) ns = tot F ns := by
  intro ns h
  unfold tot
  congr 1
  refine List.map_congr_left fun y hy => ?_
  unfold lenAt
  rw [upd_other (fun e => h (by rw [← nm_inj e]; exact hy))]
theorem tot_upd {F : FT} {x : List UInt8} {v : List Nat × Nat} : ∀ {ns : List (List UInt8)}, ns.Nodup → x ∈ ns → tot (upd F (nm x) v) ns + lenAt F x = tot F ns + v.1.length := by
  intro ns
  induction ns with
  | nil => intro _ h; simp at h
  | cons y r ih =>
    intro hn hx
    obtain ⟨h1, h2⟩ := List.nodup_cons.1 hn
    have e : ∀ G : FT, tot G (y :: r) = lenAt G y + tot G r := fun G => by simp [tot]
    rw [e, e]
    by_cases hxy : x = y
    · subst hxy
      rw [tot_miss h1]
      have : lenAt (upd F (nm x) v) x = v.1.length := by unfold lenAt; rw [upd_same]; rfl
      omega
    · have hx' : x ∈ r := by
        rcases List.mem_cons.1 hx with h | h
        · exact absurd h hxy
        · exact h
      have := ih h2 hx'
      have e2 : lenAt (upd F (nm x) v) y = lenAt F y := by unfold lenAt; rw [upd_other fun e => hxy (nm_inj e).symm]
      omega
theorem le_tot {F : FT} {x : List UInt8} : ∀ {ns : List (List UInt8)}, x ∈ ns → lenAt F x ≤ tot F ns := by
  intro ns
  induction ns with
  | nil => intro h; simp at h
  | cons y r ih =>
    intro h
    have e : tot F (y :: r) = lenAt F y + tot F r := by simp [tot]
    rcases List.mem_cons.1 h with h | h
    · subst h; omega
    · have := ih h; omega
structure Rs where
  F : FT
  used : Nat
  ch : List Nat
/-- How many bytes of a file stay. -/
def stays (b : List Nat × Nat) (ch : List Nat) : Nat := b.2 + ch.headD 0 % (b.1.length - b.2 + 1)
theorem stays_le (b : List Nat × Nat) (ch : List Nat) (h : b.2 ≤ b.1.length) : stays b ch ≤ b.1.length := by
  unfold stays
  have := Nat.mod_lt (ch.headD 0) (show 0 < b.1.length - b.2 + 1 by omega)
  omega
def stp (r : Rs) (x : List UInt8) : Rs :=
  match r.F (nm x) with
  | none => r
  | some b => if b.1.length = b.2 then r else ⟨upd r.F (nm x) (b.1.take (stays b r.ch), stays b r.ch), r.used - (b.1.length - stays b r.ch), r.ch.tail⟩
def rs (r : Rs) (ns : List (List UInt8)) : Rs := ns.foldl stp r
theorem rs_snoc (r : Rs) (ns : List (List UInt8)) (k : Nat) (h : k < ns.length) : rs r (ns.take (k + 1)) = stp (rs r (ns.take k)) ns[k] := by
  unfold rs
  rw [List.take_succ_eq_append_getElem h, List.foldl_append]
  rfl
theorem stp_same {r : Rs} {x : List UInt8} {b : List Nat × Nat} (h : r.F (nm x) = some b) (e : b.1.length = b.2) : stp r x = r := by
  unfold stp; rw [h]; exact if_pos e
theorem stp_cut {r : Rs} {x : List UInt8} {b : List Nat × Nat} (h : r.F (nm x) = some b) (e : b.1.length ≠ b.2) :
    stp r x = ⟨upd r.F (nm x) (b.1.take (stays b r.ch), stays b r.ch), r.used - (b.1.length - stays b r.ch), r.ch.tail⟩ := by
  unfold stp; rw [h]; exact if_neg e
/-- What a restart keeps. -/
def Inv (F0 : FT) (ns : List (List UInt8)) (r : Rs) : Prop :=
  r.used = tot r.F ns ∧ (∀ s, r.F s = none ↔ F0 s = none) ∧ (∀ s b, r.F s = some b → b.2 ≤ b.1.length)
theorem inv_stp {F0 : FT} {ns : List (List UInt8)} {r : Rs} (hn : ns.Nodup) (h : Inv F0 ns r) {x : List UInt8} (hx : x ∈ ns) : Inv F0 ns (stp r x) := by
  obtain ⟨h1, h2, h3⟩ := h
  cases hf : r.F (nm x) with
  | none =>
    have : stp r x = r := by unfold stp; rw [hf]
    rw [this]; exact ⟨h1, h2, h3⟩
  | some b =>
    by_cases e : b.1.length = b.2
    · rw [stp_same hf e]; exact ⟨h1, h2, h3⟩
    · rw [stp_cut hf e]
      have hs := stays_le b r.ch (h3 _ _ hf)
      have hl : (b.1.take (stays b r.ch)).length = stays b r.ch := by rw [List.length_take]; omega
      have ht := tot_upd (F := r.F) (v := (b.1.take (stays b r.ch), stays b r.ch)) hn hx
      have ha : lenAt r.F x = b.1.length := by unfold lenAt; rw [hf]; rfl
      rw [ha] at ht
      dsimp only at ht
      rw [hl] at ht
      refine ⟨by dsimp only; omega, fun s => ?_, fun s c hc => ?_⟩
      · dsimp only
        by_cases es : s = nm x
        · rw [es, upd_same]
          have := h2 (nm x)
          rw [hf] at this
          simp at this
          simp [this]
        · rw [upd_other es]; exact h2 s
      · dsimp only at hc
        by_cases es : s = nm x
        · rw [es, upd_same] at hc
          cases hc
          dsimp only
          rw [hl]
          exact Nat.le_refl _
        · rw [upd_other es] at hc; exact h3 s c hc
theorem inv_rs {F0 : FT} {ns : List (List UInt8)} {r : Rs} (hn : ns.Nodup) (h : Inv F0 ns r) : ∀ k, k ≤ ns.length → Inv F0 ns (rs r (ns.take k)) := by
  intro k
  induction k with
  | zero => intro _; simpa [rs] using h
  | succ k ih =>
    intro hk
    rw [rs_snoc r ns k (by omega)]
    exact inv_stp hn (ih (by omega)) (List.getElem_mem _)
end J1
end Go.Proofs.YtdaknlmnelfedaaGreatDoor
