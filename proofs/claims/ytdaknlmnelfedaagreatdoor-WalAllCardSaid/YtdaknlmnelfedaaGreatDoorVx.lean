/- The disk's calls by what is seen, each in all its ways. The log's remove, undo and lay. -/
import Derived.Test.YtdaknlmnelfedaaGreatDoorV2
namespace Go.Proofs.YtdaknlmnelfedaaGreatDoor
open Go.RowKit Go.Maps Go.ChangeMaps Go.MapKept
namespace V3
open Jb Jm Jd Jw Jx Jn Je Jf Jg Jh Jk Jc Jl Jo Jq Jr J1 J2 J3 J4 W1 W2 W3 V1 V2

/-- Room and fuse's being there are kept. -/
structure Kp (V V' : Vw) : Prop where
  room : V'.room = V.room
  fused : V'.fused = V.fused
theorem Kp.refl (V : Vw) : Kp V V := ⟨rfl, rfl⟩
theorem Kp.trans {A B C : Vw} (h : Kp A B) (k : Kp B C) : Kp A C := ⟨k.room.trans h.room, k.fused.trans h.fused⟩
theorem kp_op (V : Vw) : Kp V V.op := by
  refine ⟨Vw.op_room V, ?_⟩
  unfold Vw.op
  split
  · rfl
  · split
    · rename_i h; exact h.symm ▸ rfl
    · rfl
theorem op_up {V : Vw} (h : V.lost = false) : V.op.down = V.down := by
  unfold Vw.op
  rw [h, if_neg (by simp)]
  split <;> rfl
theorem op_dn {V : Vw} (h : V.lost = true) : V.op.down = true := by unfold Vw.op; rw [if_pos h]
theorem lost_fused {V : Vw} (h : V.lost = true) : V.fused = true := by
  unfold Vw.lost at h
  cases hf : V.fused
  · rw [hf] at h; simp at h
  · rfl
/-- The power failed at it. -/
structure Lost (V V' : Vw) : Prop where
  fused : V.fused = true
  down : V'.down = true
  F : V'.F = V.F
  used : V'.used = V.used
theorem lost_op {V : Vw} (h : V.lost = true) : Lost V V.op := ⟨lost_fused h, op_dn h, Vw.op_F V, Vw.op_used V⟩
theorem UOk.lost {V V' : Vw} {N : Nat} (h : UOk V N) (k : Lost V V') : UOk V' N := by
  obtain ⟨l, h1, h2, h3⟩ := h
  exact ⟨l, by rw [k.F]; exact h1, by rw [k.F, k.used]; exact h2, h3⟩
theorem vF {d : St} {s : ByteArray} {b : List Nat × Nat} (h : (vw d).F s = some b) : ∃ f, d.F s = some f ∧ ab f = b := by
  cases hf : d.F s with
  | none => simp [vw, hf] at h
  | some f => exact ⟨f, rfl, by simpa [vw, hf] using h⟩
theorem DV.le {w : World} {S : Nat → Prop} {g N : Nat} {V : Vw} (h : DV w S g N V) (s : ByteArray) (b : List Nat × Nat) (hb : V.F s = some b) : b.2 ≤ b.1.length := by
  obtain ⟨d, h, rfl⟩ := h
  obtain ⟨f, hf, rfl⟩ := vF hb
  exact (h.fm s f hf).1.syn
theorem sync_v (w : World) (S : Nat → Prop) (g N : Nat) (V : Vw) (h : DV w S g N V) (u : UOk V N) (s : ByteArray) (hs : s.size ≤ 64) (b : List Nat) (k : Nat) (hd : V.down = false) (hF : V.F s = some (b, k)) :
    Calls Tryz.prog 50 #[.pointer (some ⟨g, 0, none⟩), .string s] w fun e w' => ∃ (er : Nat) (V' : Vw), e = .returned (.int .i64 (er : Nat)) ∧ DV w' (New S w w') g N V' ∧ Chg w w' S ∧ UOk V' N ∧ Kp V V' ∧
      ((er = 8 ∧ Lost V V') ∨ (er = 0 ∧ V'.down = false ∧ V'.used = V.used ∧ ∀ x, V'.F x = if x = s then some (b, b.length) else V.F x)) := by
  obtain ⟨d, h, rfl⟩ := h
  obtain ⟨f, hf, hfb⟩ := vF hF
  have hb : f.bs = b := congrArg Prod.fst hfb
  by_cases hl : (vw d).lost = true
  · refine (sync_lost w S g N d h s (by omega) f hd hf hl).mono ?_
    rintro e w' ⟨rfl, h1, h2⟩
    have L := lost_op hl
    rw [← vw_op] at L
    exact ⟨8, _, rfl, DV.new ⟨_, h1, rfl⟩, h2, UOk.lost u L, by rw [vw_op]; exact kp_op _, .inl ⟨rfl, L⟩⟩
  · have hl' : (vw d).lost = false := by simpa using hl
    refine (sync_on w S g N d h s (by omega) f hd hf hl').mono ?_
    rintro e w' ⟨rfl, d', h1, h2, h3⟩
    have hFx : ∀ x, (vw d').F x = if x = s then some (b, b.length) else (vw d).F x := fun x => by rw [h1, ← hb]
    have hus : (vw d').used = (vw d).used := by rw [h1]; exact Vw.op_used _
    have hdn : (vw d').down = false := by rw [h1]; exact (op_up hl').trans hd
    have hkp : Kp (vw d) (vw d') := by have := kp_op (vw d); rw [h1]; exact ⟨this.room, this.fused⟩
    refine ⟨0, _, rfl, ⟨d', h2, rfl⟩, h3, ?_, hkp, .inr ⟨rfl, hdn, hus, hFx⟩⟩
    obtain ⟨l, u1, u2, u3⟩ := u
    have hdom : ∀ x, (vw d').F x = none ↔ (vw d).F x = none := fun x => by
      rw [hFx]
      by_cases e : x = s
      · rw [if_pos e, e, hF]; simp
      · rw [if_neg e]
    refine ⟨l, ⟨u1.1, fun x => (u1.2 x).trans (not_congr (hdom _).symm)⟩, ?_, u3⟩
    rw [hus, u2]
    unfold tot
    congr 1
    refine List.map_congr_left fun x _ => ?_
    unfold lenAt
    rw [hFx]
    by_cases e : nm x = s
    · rw [if_pos e, e, hF]; rfl
    · rw [if_neg e]
theorem remove_v (w : World) (S : Nat → Prop) (g N : Nat) (V : Vw) (h : DV w S g N V) (u : UOk V N) (s : ByteArray) (hs : s.size ≤ 64) (b : List Nat) (k : Nat) (hd : V.down = false) (hF : V.F s = some (b, k)) :
    Calls Tryz.prog 61 #[.pointer (some ⟨g, 0, none⟩), .string s] w fun e w' => ∃ (er : Nat) (V' : Vw), e = .returned (.int .i64 (er : Nat)) ∧ DV w' (New S w w') g N V' ∧ Chg w w' S ∧ UOk V' N ∧ Kp V V' ∧
      ((er = 8 ∧ Lost V V') ∨ (er = 0 ∧ V'.down = false ∧ V'.used ≤ V.used ∧ ∀ x, V'.F x = if x = s then none else V.F x)) := by
  obtain ⟨d, h, rfl⟩ := h
  obtain ⟨f, hf, hfb⟩ := vF hF
  have hb : f.bs = b := congrArg Prod.fst hfb
  have hle := u.le s
  have hln : len (vw d).F s = f.bs.length := by unfold len; rw [hF, hb]; rfl
  rw [hln] at hle
  by_cases hl : (vw d).lost = true
  · refine (remove_lost w S g N d h s (by omega) f hd hf hl).mono ?_
    rintro e w' ⟨rfl, h1, h2⟩
    have L := lost_op hl
    rw [← vw_op] at L
    exact ⟨8, _, rfl, DV.new ⟨_, h1, rfl⟩, h2, UOk.lost u L, by rw [vw_op]; exact kp_op _, .inl ⟨rfl, L⟩⟩
  · have hl' : (vw d).lost = false := by simpa using hl
    refine (remove_on w S g N d h s (by omega) f hd hf hl' hle).mono ?_
    rintro e w' ⟨rfl, d', h1, h2, h3⟩
    have hFx : ∀ x, (vw d').F x = if x = s then none else (vw d).F x := fun x => by rw [h1]
    have hus : (vw d').used = (vw d).used - f.bs.length := by rw [h1]; rfl
    have hdn : (vw d').down = false := by rw [h1]; exact (op_up hl').trans hd
    have hkp : Kp (vw d) (vw d') := by have := kp_op (vw d); rw [h1]; exact ⟨this.room, this.fused⟩
    refine ⟨0, _, rfl, ⟨d', h2, rfl⟩, h3, u.del s (funext hFx) (by rw [hln, hus]; omega), hkp, .inr ⟨rfl, hdn, by omega, hFx⟩⟩
theorem remove_none (w : World) (S : Nat → Prop) (g N : Nat) (V : Vw) (h : DV w S g N V) (s : ByteArray) (hs : s.size ≤ 64) (hF : V.F s = none) :
    Calls Tryz.prog 61 #[.pointer (some ⟨g, 0, none⟩), .string s] w fun e w' => ∃ (er : Nat), e = .returned (.int .i64 (er : Nat)) ∧ w' = w ∧ ((V.down = true ∧ er = 8) ∨ (V.down = false ∧ er = 6)) := by
  obtain ⟨d, h, rfl⟩ := h
  have e0 : finE (vw d) s = if d.down then 8 else 6 := by
    unfold finE
    show (if d.down then 8 else _) = _
    rw [hF]; rfl
  have hne : finE (vw d) s ≠ 0 := by rw [e0]; split <;> simp
  refine (remove_bad w S g N d h s (by omega) hne).mono ?_
  rintro e w' ⟨rfl, rfl⟩
  refine ⟨_, rfl, rfl, ?_⟩
  rw [e0]
  cases hd : d.down
  · exact .inr ⟨hd, by simp⟩
  · exact .inl ⟨hd, by simp⟩
theorem remove_down (w : World) (S : Nat → Prop) (g N : Nat) (V : Vw) (h : DV w S g N V) (s : ByteArray) (hs : s.size ≤ 64) (hd : V.down = true) :
    Calls Tryz.prog 61 #[.pointer (some ⟨g, 0, none⟩), .string s] w fun e w' => e = .returned (.int .i64 8) ∧ w' = w := by
  obtain ⟨d, h, rfl⟩ := h
  have e0 : finE (vw d) s = 8 := if_pos hd
  have := remove_bad w S g N d h s (by omega) (by rw [e0]; decide)
  rw [e0] at this
  exact this
theorem rename_v (w : World) (S : Nat → Prop) (g N : Nat) (V : Vw) (h : DV w S g N V) (u : UOk V N) (s t : ByteArray) (hs : s.size ≤ 64) (ht : isNm t = true) (hst : s ≠ t) (b : List Nat) (k : Nat) (hd : V.down = false) (hF : V.F s = some (b, k)) (hN : N ≤ 140737488353000) :
    Calls Tryz.prog 51 #[.pointer (some ⟨g, 0, none⟩), .string s, .string t] w fun e w' => ∃ (er : Nat) (V' : Vw), e = .returned (.int .i64 (er : Nat)) ∧ DV w' (New S w w') g (N + 1) V' ∧ Chg w w' S ∧ UOk V' (N + 1) ∧ Kp V V' ∧
      ((er = 8 ∧ Lost V V') ∨ (er = 0 ∧ V'.down = false ∧ V'.used ≤ V.used ∧ ∀ x, V'.F x = if x = t then some (b, k) else if x = s then none else V.F x)) := by
  obtain ⟨d, h, rfl⟩ := h
  obtain ⟨f, hf, hfb⟩ := vF hF
  have h64 := nm64 ht
  have hol : ol d t = len (vw d).F t := by
    unfold ol len vw
    dsimp only
    cases d.F t <;> rfl
  have hle := u.le t
  have hls := u.le s
  have hlb : len (vw d).F s = b.length := by unfold len; rw [hF]; rfl
  by_cases hl : (vw d).lost = true
  · refine (rename_lost w S g N d h s t (by omega) f hd hf ht (by omega) hl).mono ?_
    rintro e w' ⟨rfl, h1, h2⟩
    have L := lost_op hl
    rw [← vw_op] at L
    obtain ⟨l, u1, u2, u3⟩ := UOk.lost u L
    exact ⟨8, _, rfl, DV.mono (DV.new ⟨_, h1, rfl⟩) (Nat.le_succ _), h2, ⟨l, u1, u2, by omega⟩, by rw [vw_op]; exact kp_op _, .inl ⟨rfl, L⟩⟩
  · have hl' : (vw d).lost = false := by simpa using hl
    refine (rename_on w S g N d h s t hs ht f hd hf hl' hst (by rw [hol]; exact hle) hN).mono ?_
    rintro e w' ⟨rfl, d', h1, h2, h3⟩
    have hFx : ∀ x, (vw d').F x = if x = t then some (b, k) else if x = s then none else (vw d).F x := fun x => by rw [h1, ← hfb]
    have hus : (vw d').used = (vw d).used - len (vw d).F t := by rw [h1, ← hol]; rfl
    have hdn : (vw d').down = false := by rw [h1]; exact (op_up hl').trans hd
    have hkp : Kp (vw d) (vw d') := by have := kp_op (vw d); rw [h1]; exact ⟨this.room, this.fused⟩
    have u1 : UOk { vw d with F := del (vw d).F s, used := (vw d).used - b.length } N := u.del s rfl (by show (vw d).used - b.length + _ = _; rw [hlb] at hls ⊢; omega)
    have e1 : len (del (vw d).F s) t = len (vw d).F t := by unfold len; rw [del_other fun e => hst e.symm]
    have hle2 := u1.le t
    dsimp only at hle2
    rw [e1] at hle2
    have u2 : UOk (vw d') (N + 1) := u1.upd t (b, k) (funext fun x => by
      rw [hFx]
      show _ = if x = t then _ else if x = s then _ else _
      rfl) (by
        show (vw d').used + len (del (vw d).F s) t = (vw d).used - b.length + b.length
        rw [e1, hus]
        rw [hlb] at hls
        omega)
    exact ⟨0, _, rfl, ⟨d', h2, rfl⟩, h3, u2, hkp, .inr ⟨rfl, hdn, by omega, hFx⟩⟩
theorem append_v (w : World) (S : Nat → Prop) (g N : Nat) (V : Vw) (h : DV w S g N V) (u : UOk V N) (s : ByteArray) (ht : isNm s = true) (hd : V.down = false) (R : Nat → Prop) (hR : ∀ k, R k → ¬ S k) (v : Value) (bs : List Nat) (hv : Src w R v bs) (hcap : ∀ c, v = .slice none bs.length c → c = 0) (hby : ∀ x ∈ bs, x < 256)
    (hN : N ≤ 140737488353000) (hB : V.used + bs.length ≤ 140737488355328) :
    Calls Tryz.prog 48 #[.pointer (some ⟨g, 0, none⟩), .string s, v] w fun e w' => ∃ (n er : Nat) (V' : Vw), e = .returned (.tuple #[.int .i64 (n : Nat), .int .i64 (er : Nat)]) ∧ DV w' (New S w w') g (N + 1) V' ∧ Chg w w' S ∧ UOk V' (N + 1) ∧ Kp V V' ∧
      ((er = 8 ∧ Lost V V') ∨ (er = 7 ∧ V'.down = false ∧ (V.room < V.used + bs.length ∧ 0 < bs.length) ∧ V'.used ≤ V.used + bs.length ∧ ∃ m, ∀ x, V'.F x = if x = s then some ((old V s).1 ++ bs.take m, (old V s).2) else V.F x)
        ∨ (er = 0 ∧ V'.down = false ∧ V'.used = V.used + bs.length ∧ ∀ x, V'.F x = if x = s then some ((old V s).1 ++ bs, (old V s).2) else V.F x)) := by
  have h64 := nm64 ht
  have hlo : (old V s).1.length ≤ V.used := u.le s
  refine (Append_c w S g N V h s (by omega) R hR v bs hv hcap hby hN (by omega) (by omega)).mono ?_
  rintro e w' ⟨rfl, h1, h2⟩
  by_cases hl : V.lost = true
  · have e1 : appV V s bs = V.op := by unfold appV; rw [if_neg (by simp [hd]), if_pos ht, if_pos hl]
    have e2 : appE V s bs.length = 8 := by unfold appE; rw [if_neg (by simp [hd]), if_pos ht, if_pos hl]
    rw [e1] at h1
    have L := lost_op hl
    obtain ⟨l, u1, u2, u3⟩ := UOk.lost u L
    exact ⟨_, _, _, rfl, h1, h2, ⟨l, u1, u2, by omega⟩, kp_op _, .inl ⟨e2, L⟩⟩
  · have hl' : V.lost = false := by simpa using hl
    have e1 : appV V s bs = { V.op with F := fun x => if x = s then some ((old V s).1 ++ bs.take (min bs.length (Vw.free V)), (old V s).2) else V.F x, used := V.used + min bs.length (Vw.free V) } := by
      unfold appV; rw [if_neg (by simp [hd]), if_pos ht, if_neg hl]
    have e2 : appE V s bs.length = if Vw.free V < bs.length then 7 else 0 := by unfold appE; rw [if_neg (by simp [hd]), if_pos ht, if_neg hl]
    rw [e1] at h1
    have hkp := kp_op V
    have hdn := (op_up hl').trans hd
    have hfree : Vw.free V = V.room - V.used := rfl
    have hu : UOk { V.op with F := fun x => if x = s then some ((old V s).1 ++ bs.take (min bs.length (Vw.free V)), (old V s).2) else V.F x, used := V.used + min bs.length (Vw.free V) } (N + 1) :=
      u.upd s ((old V s).1 ++ bs.take (min bs.length (Vw.free V)), (old V s).2) rfl (by
        show V.used + min bs.length (Vw.free V) + (old V s).1.length = V.used + ((old V s).1 ++ bs.take (min bs.length (Vw.free V))).length
        rw [List.length_append, List.length_take]
        omega)
    by_cases hf : Vw.free V < bs.length
    · exact ⟨_, _, _, rfl, h1, h2, hu, ⟨hkp.room, hkp.fused⟩, .inr (.inl ⟨by rw [e2, if_pos hf], hdn, ⟨by omega, by omega⟩, by dsimp only; omega, _, fun x => rfl⟩)⟩
    · have hm : min bs.length (Vw.free V) = bs.length := Nat.min_eq_left (by omega)
      refine ⟨_, _, _, rfl, h1, h2, hu, ⟨hkp.room, hkp.fused⟩, .inr (.inr ⟨by rw [e2, if_neg hf], hdn, by dsimp only; omega, fun x => ?_⟩)⟩
      dsimp only
      rw [hm, List.take_length]
end V3
end Go.Proofs.YtdaknlmnelfedaaGreatDoor
namespace Go.Proofs.YtdaknlmnelfedaaGreatDoor
open Go.RowKit Go.Maps Go.ChangeMaps Go.MapKept
namespace V4
open Jb Jm Jd Jw Jx Jn Je Jf Jg Jh Jk Jc Jl Jo Jq Jr J1 J2 J3 J4 W1 W2 W3 V1 V2 V3

/-- What a removal leaves. -/
def Rem (V : Vw) (s : ByteArray) (er : Nat) (V' : Vw) : Prop :=
  Kp V V' ∧ ((er = 8 ∧ V'.down = true ∧ (V.down = true ∨ V.fused = true) ∧ V'.F = V.F ∧ V'.used = V.used) ∨ (er = 0 ∧ V.down = false ∧ V'.down = false ∧ V'.used ≤ V.used ∧ ∀ x, V'.F x = if x = s then none else V.F x))
theorem disk_remove (w : World) (S : Nat → Prop) (g N : Nat) (V : Vw) (h : DV w S g N V) (u : UOk V N) (s : ByteArray) (hs : s.size ≤ 64) :
    Calls Tryz.prog 61 #[.pointer (some ⟨g, 0, none⟩), .string s] w fun e w' => ∃ (er : Nat) (V' : Vw), e = .returned (.int .i64 (er : Nat)) ∧ DV w' (New S w w') g N V' ∧ Chg w w' S ∧ UOk V' N ∧
      ((er = 6 ∧ Rem V s 0 V') ∨ (er ≠ 6 ∧ Rem V s er V')) := by
  by_cases hd : V.down = true
  · refine (remove_down w S g N V h s hs hd).mono ?_
    rintro e w' ⟨rfl, rfl⟩
    exact ⟨8, V, rfl, h.new, Chg.refl _ _, u, .inr ⟨by decide, Kp.refl _, .inl ⟨rfl, hd, .inl hd, rfl, rfl⟩⟩⟩
  · have hd' : V.down = false := by simpa using hd
    cases hF : V.F s with
    | none =>
      refine (remove_none w S g N V h s hs hF).mono ?_
      rintro e w' ⟨er, rfl, rfl, ⟨a, _⟩ | ⟨_, rfl⟩⟩
      · exact absurd a hd
      · refine ⟨6, V, rfl, h.new, Chg.refl _ _, u, .inl ⟨rfl, Kp.refl _, .inr ⟨rfl, hd', hd', Nat.le_refl _, fun x => ?_⟩⟩⟩
        by_cases e : x = s
        · rw [if_pos e, e, hF]
        · rw [if_neg e]
    | some b =>
      refine (remove_v w S g N V h u s hs b.1 b.2 hd' hF).mono ?_
      rintro e w' ⟨er, V', rfl, h1, h2, h3, h4, ⟨rfl, L⟩ | ⟨rfl, a, b, c⟩⟩
      · exact ⟨8, V', rfl, h1, h2, h3, .inr ⟨by decide, h4, .inl ⟨rfl, L.down, .inr L.fused, L.F, L.used⟩⟩⟩
      · exact ⟨0, V', rfl, h1, h2, h3, .inr ⟨by decide, h4, .inr ⟨rfl, hd', a, b, c⟩⟩⟩
theorem remove29 (w : World) (U : Nat → Prop) (B p g N : Nat) (V : Vw) (L : Lg) (ov : Bool) (h : WS w U B p g N V L ov) (s : ByteArray) (hs : s.size ≤ 64) :
    Calls Tryz.prog 47 #[.pointer (some ⟨p, 0, none⟩), .string s] w fun e w' => ∃ (er : Nat) (V' : Vw), e = .returned (.int .i64 (er : Nat)) ∧ WS w' (New U w w') B p g N V' L ov ∧ Chg w w' U ∧ Rem V s er V' := by
  obtain ⟨S, T, h1, h2, h3, h4, h5⟩ := h.ex
  have c0 := h2.c0
  have D := Lib.hid (disk_remove w S g N V h1 h.uok s hs)
  have FIN : Hid (∀ w' V' er, DV w' (New S w w') g N V' → Chg w w' S → UOk V' N → Rem V s er V' → ∃ (er' : Nat) (V' : Vw), Ending.returned (.int .i64 (er : Nat)) = .returned (.int .i64 (er' : Nat)) ∧ WS w' (New U w w') B p g N V' L ov ∧ Chg w w' U ∧ Rem V s er' V') := Lib.hid fun w' V' er k1 k2 k3 k4 => by
    obtain ⟨a, b⟩ := h.disk h2 h3 h4 h5 k1 k2 k3
    exact ⟨er, V', rfl, a, b, k4⟩
  clear h h1 h2 h3 h4 h5 hs
  go_enter Tryz.func47, Tryz.ntmps47
  go_wp2_with (go_at_call 61; refine (D.out).mono ?_; rintro e w' ⟨er, V', rfl, k1, k2, k3, ⟨rfl, k4⟩ | ⟨k5, k4⟩⟩)
  · go_wp2_with fail
    go_ret
    exact FIN.out _ _ 0 k1 k2 k3 k4
  · have k6 : ¬ ((er : Int) = 6) := by omega
    have K := Lib.hid (FIN.out _ _ er k1 k2 k3 k4)
    clear k1 k2 k3 k4
    go_wp2_with fail
    go_ret
    exact K.out
theorem newB : ({ data := #[119, 97, 108, 46, 110, 101, 119] } : ByteArray) = newN := rfl
theorem undo31 (w : World) (U : Nat → Prop) (B p g N : Nat) (V : Vw) (L : Lg) (ov : Bool) (h : WS w U B p g N V L ov) (er0 : Nat) (_ : er0 = 7 ∨ er0 = 8) :
    Calls Tryz.prog 49 #[.pointer (some ⟨p, 0, none⟩), .int .i64 (er0 : Nat)] w fun e w' => ∃ (er : Nat) (V' : Vw), e = .returned (.int .i64 (er : Nat)) ∧ WS w' (New U w w') B p g N V' L ov ∧ Chg w w' U ∧ ((er = 8 ∧ Rem V newN 8 V') ∨ (er = er0 ∧ Rem V newN 0 V')) := by
  have D := Lib.hid (remove29 w U B p g N V L ov h newN (by decide))
  clear h
  go_enter Tryz.func49, Tryz.ntmps49
  go_wp2_with (go_at_call 47; refine (D.out).mono ?_; rintro e w' ⟨er, V', rfl, k1, k2, k3⟩)
  · have hne : er ≠ 0 := by
      rename_i hh
      intro e; subst e; simp at hh
    go_ret
    refine ⟨er, V', rfl, k1, k2, .inl ?_⟩
    have h8 : er = 8 := by
      rcases k3.2 with a | a
      · exact a.1
      · exact absurd a.1 hne
    subst h8
    exact ⟨rfl, k3⟩
  · have h0 : er = 0 := by
      rename_i hh
      simp at hh
      omega
    subst h0
    go_ret
    exact ⟨er0, V', rfl, k1, k2, .inr ⟨rfl, k3⟩⟩
theorem fail18 (w : World) (U : Nat → Prop) (B p g N : Nat) (V : Vw) (L : Lg) (ov : Bool) (h : WS w U B p g N V L ov) (er : Nat) :
    Calls Tryz.prog 36 #[.pointer (some ⟨p, 0, none⟩), .int .i64 (er : Nat)] w fun e w' => e = .returned (.int .i64 (er : Nat)) ∧ WS w' (New U w w') B p g N V L ((er : Int) == 8) ∧ Chg w w' U := by
  obtain ⟨S, T, h1, h2, h3, h4, h5⟩ := h.ex
  have c3 := h2.c3
  have z3 := h2.z 3
  have FIN : Hid (∀ w', w' = w.setCell ⟨p, 3, none⟩ (.bool ((er : Int) == 8)) → WS w' (New U w w') B p g N V L ((er : Int) == 8) ∧ Chg w w' U) := Lib.hid fun w' hw => by
    have c : Chg w w' T := by rw [hw]; exact (Chg.refl w T).setCell h2.tp _
    refine h.mem h1 h3 h4 h5 ?_ (fun k hk => .inl hk) c
    obtain ⟨ev, a, b⟩ := h2.c2
    have ne : ∀ i, i ≠ 3 → w'.cell? ⟨p, i, none⟩ = w.cell? ⟨p, i, none⟩ := fun i hi => by rw [hw]; exact cell_other (by simp <;> omega)
    refine ⟨(ne 0 (by decide)).trans h2.c0, (ne 1 (by decide)).trans h2.c1, ⟨ev, (ne 2 (by decide)).trans a, b.move (fun _ hk => hk) fun k _ hk => by rw [hw]; exact heap_setCell_ne hk⟩, by rw [hw]; exact cell_same c3, fun i => by rw [hw]; simpa using h2.z i, h2.tp, fun k hk => by rw [hw]; simpa using h2.lt k hk, h2.byte, h2.len⟩
  clear h h1 h2 h3 h4 h5
  go_enter Tryz.func36, Tryz.ntmps36
  go_wp2_with fail
  go_ret
  exact ⟨rfl, FIN.out _ rfl⟩
end V4
end Go.Proofs.YtdaknlmnelfedaaGreatDoor
