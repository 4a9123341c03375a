import Derived.Test.YtcjfdebjgaohlaaG12
import Derived.Test.YtcjfdebjgaohlaaG06

/- The disk and the document's disk tell one thing; each call keeps that. -/
namespace Go.Proofs.Ytcjfdebjgaohlaa
open Go.RowKit Go.Maps Go.ChangeMaps Go.MapKept
namespace Yp
open Jb Jm Jd Jw Jx Jn Je Jf Jg Jh Jk Jc Jl Jo Jq J1 J2 J3 J4 Jr J6 J9 Ya Yb Yc Yd Ye Yf Yg Yh Yi Yj Yk Yl Yn Yo

structure MT (V : Vw) (t : Dt) : Prop where
  F : V.F = lkL t.L
  up : Up t.L
  used : V.used = sumL t.L
  room : V.room = t.room
  lit : V.fused = t.lit
  fuse : t.lit = true → (V.fuse : Int) = t.fuse
  down : V.down = t.down
  nm : ∀ e ∈ t.L, isNm e.name = true
theorem MT.lost {V : Vw} {t : Dt} (h : MT V t) : opTE t = if V.lost then 8 else 0 := by
  unfold opTE Vw.lost
  rw [h.lit]
  cases hl : t.lit
  · simp
  · have := h.fuse hl
    by_cases h0 : t.fuse = 0
    · have e : V.fuse = 0 := by omega
      simp [h0, e]
    · have e : V.fuse ≠ 0 := by omega
      simp [h0, e]
theorem MT.op {V : Vw} {t : Dt} (h : MT V t) : MT V.op (opT t) := by
  refine ⟨by rw [Vw.op_F, opT_L]; exact h.F, by unfold Up; rw [opT_L]; exact h.up, by rw [Vw.op_used, opT_L]; exact h.used, by rw [Vw.op_room, opT_room]; exact h.room, ?_, ?_, ?_, by rw [opT_L]; exact h.nm⟩
  all_goals
    unfold Vw.op Vw.lost opT
    rw [h.lit]
    cases hl : t.lit
    · first
        | (simp [h.lit, hl]; done)
        | simpa using h.down
        | (intro e; simp [hl] at e)
    · have hf := h.fuse hl
      have hd := h.down
      have hlit := h.lit
      by_cases h0 : t.fuse = 0
      · have e : V.fuse = 0 := by omega
        simp_all
      · have e : V.fuse ≠ 0 := by omega
        first
          | (simp [h0, e]; done)
          | (simp [h0, e, hd]; done)
          | (intro _; simp [h0, e]; omega)
/-- Another row in the same disk. -/
theorem MT.row {V : Vw} {t : Dt} (h : MT V t) {F : FT} {u : Nat} {L : List En} (v : Value) (hF : F = lkL L) (hu : Up L) (hs : u = sumL L) (hn : ∀ e ∈ L, isNm e.name = true) : MT { V with F := F, used := u } { t with fvv := v, L := L } :=
  ⟨hF, hu, hs, h.room, h.lit, h.fuse, h.down, hn⟩
theorem sum_set (L : List En) : ∀ (k : Nat) (e : En), k < L.length → sumL (L.set k e) + (L.getD k e0).bs.length = sumL L + e.bs.length := by
  induction L with
  | nil => intro k e h; simp at h
  | cons x r ih =>
    intro k e h
    have e1 : ∀ (y : En) (M : List En), sumL (y :: M) = y.bs.length + sumL M := fun y M => by simp [sumL]
    cases k with
    | zero => show sumL (e :: r) + x.bs.length = _; rw [e1, e1]; omega
    | succ k =>
      have := ih k e (by simpa using h)
      show sumL (x :: r.set k e) + _ = _
      rw [e1, e1]
      have e2 : (x :: r).getD (k + 1) e0 = r.getD k e0 := by simp [List.getD_eq_getElem?_getD]
      rw [e2]
      omega
theorem sum_del {L : List En} {A : Nat} (h : A < L.length) : sumL (del L A) + (L.getD A e0).bs.length = sumL L := by
  have hs := split_at h
  have e1 : sumL L = sumL (L.take A) + ((L.getD A e0).bs.length + sumL (L.drop (A + 1))) := by
    conv => lhs; rw [hs]
    simp [sumL]
  have e2 : sumL (del L A) = sumL (L.take A) + sumL (L.drop (A + 1)) := by simp [sumL, del]
  omega
theorem nm_set {L : List En} (h : ∀ e ∈ L, isNm e.name = true) {k : Nat} (hk : k < L.length) (bv : Value) (bs : List Nat) (m : Nat) : ∀ e ∈ L.set k ⟨(L.getD k e0).name, bv, bs, m⟩, isNm e.name = true := by
  intro e he
  rcases List.mem_or_eq_of_mem_set he with he | he
  · exact h e he
  · rw [he]; exact h (L.getD k e0) (mem_getD hk)
theorem nm_del {L : List En} (h : ∀ e ∈ L, isNm e.name = true) (A : Nat) : ∀ e ∈ del L A, isNm e.name = true := by
  intro e he
  rcases List.mem_append.1 he with he | he
  · exact h e (List.mem_of_mem_take he)
  · exact h e (List.mem_of_mem_drop he)
theorem up_set {L : List En} (h : Up L) {k : Nat} (hk : k < L.length) (bv : Value) (bs : List Nat) (m : Nat) : Up (L.set k ⟨(L.getD k e0).name, bv, bs, m⟩) := by
  unfold Up; rw [ns_set hk]; exact h
/-- Where a name stands, and what the program's disk says of it. -/
theorem MT.find {V : Vw} {t : Dt} (h : MT V t) (s : ByteArray) : ∃ A, At1 t.L s A ∧ ((A = t.L.length ∧ V.F s = none) ∨ (A < t.L.length ∧ (t.L.getD A e0).name = s ∧ V.F s = some ((t.L.getD A e0).bs, (t.L.getD A e0).syn))) := by
  obtain ⟨A, hA⟩ := at1 t.L s
  refine ⟨A, hA, ?_⟩
  by_cases hl : A < t.L.length
  · exact .inr ⟨hl, hA.2.1 hl, by rw [h.F]; exact at1_some h.up.nodup hA hl⟩
  · have e : A = t.L.length := by have := hA.1; omega
    refine .inl ⟨e, ?_⟩
    rw [h.F]
    rw [e] at hA
    exact at1_none hA
/-- Both calls answer r, and then tell one thing again. -/
def Both (fp fd : Nat) (args : Array Value) (r : Value) (V : Vw) (t : Dt) (N N' : Nat) : Prop :=
  ∃ V' : Vw, V'.used ≤ V.used ∧ (∀ w S g, DV w S g N V → Calls Try.prog fp (#[.pointer (some ⟨g, 0, none⟩)] ++ args) w fun e w' => e = .returned r ∧ DV w' (New S w w') g N' V' ∧ Chg w w' S) ∧
    (∀ w T g, Wk w T g t → Calls Try.prog fd (#[.pointer (some ⟨g, 0, none⟩)] ++ args) w fun e w' => e = .returned r ∧ (∃ t', MT V' t' ∧ Wk w' (New T w w') g t' ∧ t'.L.length ≤ t.L.length) ∧ Chg w w' T)
theorem Wk.new {w w' : World} {T : Nat → Prop} {g : Nat} {t : Dt} (h : Wk w' T g t) : Wk w' (New T w w') g t := h.set (fun _ hk => .inl hk) (fun _ hk => hk.elim (fun e => h.lt _ e) (fun e => e.2))
theorem set_fn {F : FT} {s : ByteArray} {a : List Nat × Nat} : (fun x => if x = s then some a else F x) = upd F s a := rfl
theorem vw_file {d : St} {s : ByteArray} {b : List Nat × Nat} (h : (vw d).F s = some b) : ∃ f, d.F s = some f ∧ ab f = b := by
  cases hf : d.F s with
  | none => simp [vw, hf] at h
  | some f => exact ⟨f, rfl, by simpa [vw, hf] using h⟩
theorem sync_both (V : Vw) (t : Dt) (m : MT V t) (s : ByteArray) (hs : s.size ≤ 140737488355328) (hb : t.L.length ≤ 1000000000) (N : Nat) : ∃ r : Nat, Both 11 14 #[.string s] (.int .i64 (r : Nat)) V t N N := by
  by_cases hd : V.down = true
  · refine ⟨8, V, Nat.le_refl _, fun w S g h => ?_, fun w T g h => ?_⟩
    · have hE : finE V s = 8 := by unfold finE; rw [if_pos hd]
      have := Sync_bad w S g N V h s hs (by omega)
      rw [hE] at this
      exact this.mono (by rintro e w' ⟨rfl, rfl⟩; exact ⟨rfl, h.new, Chg.refl _ _⟩)
    · exact (rsync_down w T g s t h (by rw [← m.down]; exact hd)).mono (by rintro e w' ⟨rfl, rfl⟩; exact ⟨rfl, ⟨t, m, Wk.new h, Nat.le_refl _⟩, Chg.refl _ _⟩)
  have hd' : V.down = false := by simpa using hd
  have htd : t.down = false := by rw [← m.down]; exact hd'
  obtain ⟨A, hA, ⟨e, hF⟩ | ⟨hl, hnm, hF⟩⟩ := m.find s
  · refine ⟨6, V, Nat.le_refl _, fun w S g h => ?_, fun w T g h => ?_⟩
    · have hE : finE V s = 6 := by unfold finE; rw [if_neg hd, hF]; rfl
      have := Sync_bad w S g N V h s hs (by omega)
      rw [hE] at this
      exact this.mono (by rintro e w' ⟨rfl, rfl⟩; exact ⟨rfl, h.new, Chg.refl _ _⟩)
    · exact (rsync_none w T g s t h htd (e ▸ hA) hb).mono (by rintro e w' ⟨rfl, rfl⟩; exact ⟨rfl, ⟨t, m, Wk.new h, Nat.le_refl _⟩, Chg.refl _ _⟩)
  have hlost := m.lost
  cases hv : V.lost
  · rw [hv] at hlost
    refine ⟨0, { V.op with F := fun x => if x = s then some ((t.L.getD A e0).bs, (t.L.getD A e0).bs.length) else V.F x }, by show V.op.used ≤ _; rw [Vw.op_used]; exact Nat.le_refl _, fun w S g h => ?_, fun w T g h => ?_⟩
    · exact Sync_c w S g N V h s hs _ _ hd' hF hv
    · refine (rsync_on w T g s t h htd A hA hl hb hlost).mono ?_
      rintro e w' ⟨rfl, k, c⟩
      refine ⟨rfl, ⟨_, ?_, Wk.new k, by simp⟩, c⟩
      have mo := m.op
      have h1 := sum_set t.L A ⟨(t.L.getD A e0).name, (t.L.getD A e0).bv, (t.L.getD A e0).bs, (t.L.getD A e0).bs.length⟩ hl
      have := mo.row (F := fun x => if x = s then some ((t.L.getD A e0).bs, (t.L.getD A e0).bs.length) else V.F x) (u := V.used) (L := t.L.set A ⟨(t.L.getD A e0).name, (t.L.getD A e0).bv, (t.L.getD A e0).bs, (t.L.getD A e0).bs.length⟩) (opT t).fvv
        (by rw [lk_set m.up.nodup hl, hnm, m.F]; rfl) (up_set m.up hl _ _ _) (by rw [m.used]; dsimp only at h1; omega) (nm_set m.nm hl _ _ _)
      rw [show ({ V.op with F := fun x => if x = s then some ((t.L.getD A e0).bs, (t.L.getD A e0).bs.length) else V.F x, used := V.used } : Vw) = { V.op with F := fun x => if x = s then some ((t.L.getD A e0).bs, (t.L.getD A e0).bs.length) else V.F x } from by rw [← Vw.op_used V]] at this
      exact this
  · rw [hv] at hlost
    refine ⟨8, V.op, by rw [Vw.op_used]; exact Nat.le_refl _, fun w S g h => ?_, fun w T g h => ?_⟩
    · obtain ⟨d, h, rfl⟩ := h
      obtain ⟨f, hf, _⟩ := vw_file hF
      refine (sync_lost w S g N d h s hs f hd' hf hv).mono ?_
      rintro e w' ⟨rfl, k1, k2⟩
      exact ⟨rfl, DV.new ⟨_, k1, vw_op d⟩, k2⟩
    · refine (rsync_lost w T g s t h htd A hA hl hb hlost).mono ?_
      rintro e w' ⟨rfl, k, c⟩
      exact ⟨rfl, ⟨_, m.op, Wk.new k, by rw [opT_L]; exact Nat.le_refl _⟩, c⟩
end Yp
end Go.Proofs.Ytcjfdebjgaohlaa

/- Remove, Cut, Rename of both disks. -/
namespace Go.Proofs.Ytcjfdebjgaohlaa
open Go.RowKit Go.Maps Go.ChangeMaps Go.MapKept
namespace Yq
open Jb Jm Jd Jw Jx Jn Je Jf Jg Jh Jk Jc Jl Jo Jq J1 J2 J3 J4 Jr J6 J9 Ya Yb Yc Yd Ye Yf Yg Yh Yi Yj Yk Yl Yn Yo Yp

theorem sum_ge {L : List En} {A : Nat} (h : A < L.length) : (L.getD A e0).bs.length ≤ sumL L := by have := sum_del h; omega
theorem remove_both (V : Vw) (t : Dt) (m : MT V t) (s : ByteArray) (hs : s.size ≤ 140737488355328) (hb : t.L.length ≤ 1000000000) (N : Nat) : ∃ r : Nat, Both 17 18 #[.string s] (.int .i64 (r : Nat)) V t N N := by
  by_cases hd : V.down = true
  · refine ⟨8, V, Nat.le_refl _, fun w S g h => ?_, fun w T g h => ?_⟩
    · obtain ⟨d, h, rfl⟩ := h
      have hE : finE (vw d) s = 8 := by unfold finE; rw [if_pos hd]
      have := remove_bad w S g N d h s hs (by omega)
      rw [hE] at this
      exact this.mono (by rintro e w' ⟨rfl, rfl⟩; exact ⟨rfl, DV.new ⟨d, h, rfl⟩, Chg.refl _ _⟩)
    · exact (rrem_down w T g s t h (by rw [← m.down]; exact hd)).mono (by rintro e w' ⟨rfl, rfl⟩; exact ⟨rfl, ⟨t, m, Wk.new h, Nat.le_refl _⟩, Chg.refl _ _⟩)
  have hd' : V.down = false := by simpa using hd
  have htd : t.down = false := by rw [← m.down]; exact hd'
  obtain ⟨A, hA, ⟨e, hF⟩ | ⟨hl, hnm, hF⟩⟩ := m.find s
  · refine ⟨6, V, Nat.le_refl _, fun w S g h => ?_, fun w T g h => ?_⟩
    · obtain ⟨d, h, rfl⟩ := h
      have hE : finE (vw d) s = 6 := by unfold finE; rw [if_neg hd, hF]; rfl
      have := remove_bad w S g N d h s hs (by omega)
      rw [hE] at this
      exact this.mono (by rintro e w' ⟨rfl, rfl⟩; exact ⟨rfl, DV.new ⟨d, h, rfl⟩, Chg.refl _ _⟩)
    · exact (rrem_none w T g s t h htd (e ▸ hA) hb).mono (by rintro e w' ⟨rfl, rfl⟩; exact ⟨rfl, ⟨t, m, Wk.new h, Nat.le_refl _⟩, Chg.refl _ _⟩)
  have hlost := m.lost
  cases hv : V.lost
  · rw [hv] at hlost
    refine ⟨0, { V.op with F := fun x => if x = s then none else V.F x, used := V.used - (t.L.getD A e0).bs.length }, Nat.sub_le _ _, fun w S g h => ?_, fun w T g h => ?_⟩
    · obtain ⟨d, h, rfl⟩ := h
      obtain ⟨f, hf, hab⟩ := vw_file hF
      have e1 : f.bs = (t.L.getD A e0).bs := congrArg Prod.fst hab
      refine (remove_on w S g N d h s hs f hd' hf hv (by rw [e1]; have := sum_ge hl; rw [← m.used] at this; exact this)).mono ?_
      rintro e w' ⟨rfl, d', k1, k2, k3⟩
      rw [e1] at k1
      exact ⟨rfl, ⟨d', k2, k1⟩, k3⟩
    · refine (rrem_on w T g s t h htd A hA hl hb hlost).mono ?_
      rintro e w' ⟨rfl, ⟨v, k⟩, c⟩
      refine ⟨rfl, ⟨_, ?_, k, by have := del_len hl; show (del t.L A).length ≤ _; omega⟩, c⟩
      have h1 := sum_del hl
      exact m.op.row (F := fun x => if x = s then none else V.F x) (L := del t.L A) v (by rw [lk_del m.up.nodup hl, hnm, m.F]) (m.up.del A) (by rw [m.used]; omega) (nm_del m.nm A)
  · rw [hv] at hlost
    refine ⟨8, V.op, by rw [Vw.op_used]; exact Nat.le_refl _, fun w S g h => ?_, fun w T g h => ?_⟩
    · obtain ⟨d, h, rfl⟩ := h
      obtain ⟨f, hf, _⟩ := vw_file hF
      refine (remove_lost w S g N d h s hs f hd' hf hv).mono ?_
      rintro e w' ⟨rfl, k1, k2⟩
      exact ⟨rfl, DV.new ⟨_, k1, vw_op d⟩, k2⟩
    · refine (rrem_lost w T g s t h htd A hA hl hb hlost).mono ?_
      rintro e w' ⟨rfl, k, c⟩
      exact ⟨rfl, ⟨_, m.op, Wk.new k, by rw [opT_L]; exact Nat.le_refl _⟩, c⟩
theorem cut_both (V : Vw) (t : Dt) (m : MT V t) (s : ByteArray) (n : Int) (hs : s.size ≤ 140737488355328) (hb : t.L.length ≤ 1000000000) (hbd : sumL t.L ≤ 140737488355328) (N : Nat) : ∃ r : Nat, Both 19 20 #[.string s, .int .i64 n] (.int .i64 (r : Nat)) V t N N := by
  by_cases hd : V.down = true
  · refine ⟨8, V, Nat.le_refl _, fun w S g h => ?_, fun w T g h => ?_⟩
    · obtain ⟨d, h, rfl⟩ := h
      have hE : finE (vw d) s = 8 := by unfold finE; rw [if_pos hd]
      have := cut_bad w S g N d h s n hs (by omega)
      rw [hE] at this
      exact this.mono (by rintro e w' ⟨rfl, rfl⟩; exact ⟨rfl, DV.new ⟨d, h, rfl⟩, Chg.refl _ _⟩)
    · exact (rcut_down w T g s n t h (by rw [← m.down]; exact hd)).mono (by rintro e w' ⟨rfl, rfl⟩; exact ⟨rfl, ⟨t, m, Wk.new h, Nat.le_refl _⟩, Chg.refl _ _⟩)
  have hd' : V.down = false := by simpa using hd
  have htd : t.down = false := by rw [← m.down]; exact hd'
  obtain ⟨A, hA, ⟨e, hF⟩ | ⟨hl, hnm, hF⟩⟩ := m.find s
  · refine ⟨6, V, Nat.le_refl _, fun w S g h => ?_, fun w T g h => ?_⟩
    · obtain ⟨d, h, rfl⟩ := h
      have hE : finE (vw d) s = 6 := by unfold finE; rw [if_neg hd, hF]; rfl
      have := cut_bad w S g N d h s n hs (by omega)
      rw [hE] at this
      exact this.mono (by rintro e w' ⟨rfl, rfl⟩; exact ⟨rfl, DV.new ⟨d, h, rfl⟩, Chg.refl _ _⟩)
    · exact (rcut_none w T g s n t h htd (e ▸ hA) hb).mono (by rintro e w' ⟨rfl, rfl⟩; exact ⟨rfl, ⟨t, m, Wk.new h, Nat.le_refl _⟩, Chg.refl _ _⟩)
  have hge := sum_ge hl
  by_cases hr : n < 0 ∨ ((t.L.getD A e0).bs.length : Int) < n
  · refine ⟨3, V, Nat.le_refl _, fun w S g h => ?_, fun w T g h => ?_⟩
    · obtain ⟨d, h, rfl⟩ := h
      obtain ⟨f, hf, hab⟩ := vw_file hF
      have e1 : f.bs = (t.L.getD A e0).bs := congrArg Prod.fst hab
      exact (cut_range w S g N d h s n hs f hd' hf (by rw [e1]; exact hr)).mono (by rintro e w' ⟨rfl, rfl⟩; exact ⟨rfl, DV.new ⟨d, h, rfl⟩, Chg.refl _ _⟩)
    · exact (rcut_range w T g s n t h htd A hA hl hb hr).mono (by rintro e w' ⟨rfl, rfl⟩; exact ⟨rfl, ⟨t, m, Wk.new h, Nat.le_refl _⟩, Chg.refl _ _⟩)
  obtain ⟨k, rfl⟩ : ∃ k : Nat, n = (k : Nat) := ⟨n.toNat, by omega⟩
  have hk : k ≤ (t.L.getD A e0).bs.length := by omega
  have hlost := m.lost
  cases hv : V.lost
  · rw [hv] at hlost
    refine ⟨0, { V.op with F := fun x => if x = s then some ((t.L.getD A e0).bs.take k, min (t.L.getD A e0).syn k) else V.F x, used := V.used - ((t.L.getD A e0).bs.length - k) }, Nat.sub_le _ _, fun w S g h => ?_, fun w T g h => ?_⟩
    · obtain ⟨d, h, rfl⟩ := h
      obtain ⟨f, hf, hab⟩ := vw_file hF
      have e1 : f.bs = (t.L.getD A e0).bs := congrArg Prod.fst hab
      have e2 : f.syn = (t.L.getD A e0).syn := congrArg Prod.snd hab
      refine (cut_on w S g N d h s k hs f hd' hf (by rw [e1]; exact hk) hv (by rw [e1]; rw [← m.used] at hge; exact hge) (by rw [e1]; omega)).mono ?_
      rintro e w' ⟨rfl, d', k1, k2, k3⟩
      rw [e1, e2] at k1
      exact ⟨rfl, ⟨d', k2, k1⟩, k3⟩
    · refine (rcut_on w T g s k t h htd A hA hl hb hk hlost).mono ?_
      rintro e w' ⟨rfl, ⟨bv, k1⟩, c⟩
      refine ⟨rfl, ⟨_, ?_, Wk.new k1, by simp⟩, c⟩
      have h1 := sum_set t.L A ⟨(t.L.getD A e0).name, bv, (t.L.getD A e0).bs.take k, min (t.L.getD A e0).syn k⟩ hl
      have h2 : ((t.L.getD A e0).bs.take k).length = k := by rw [List.length_take]; omega
      dsimp only at h1
      rw [h2] at h1
      exact m.op.row (F := fun x => if x = s then some ((t.L.getD A e0).bs.take k, min (t.L.getD A e0).syn k) else V.F x) (L := t.L.set A ⟨(t.L.getD A e0).name, bv, (t.L.getD A e0).bs.take k, min (t.L.getD A e0).syn k⟩) (opT t).fvv
        (by rw [lk_set m.up.nodup hl, hnm, m.F]; rfl) (up_set m.up hl _ _ _) (by rw [m.used]; omega) (nm_set m.nm hl _ _ _)
  · rw [hv] at hlost
    refine ⟨8, V.op, by rw [Vw.op_used]; exact Nat.le_refl _, fun w S g h => ?_, fun w T g h => ?_⟩
    · obtain ⟨d, h, rfl⟩ := h
      obtain ⟨f, hf, hab⟩ := vw_file hF
      have e1 : f.bs = (t.L.getD A e0).bs := congrArg Prod.fst hab
      refine (cut_lost w S g N d h s k hs f hd' hf (by rw [e1]; exact hk) hv).mono ?_
      rintro e w' ⟨rfl, k1, k2⟩
      exact ⟨rfl, DV.new ⟨_, k1, vw_op d⟩, k2⟩
    · refine (rcut_lost w T g s k t h htd A hA hl hb hk hlost).mono ?_
      rintro e w' ⟨rfl, k, c⟩
      exact ⟨rfl, ⟨_, m.op, Wk.new k, by rw [opT_L]; exact Nat.le_refl _⟩, c⟩
end Yq
end Go.Proofs.Ytcjfdebjgaohlaa

/- Rename of both disks. -/
namespace Go.Proofs.Ytcjfdebjgaohlaa
open Go.RowKit Go.Maps Go.ChangeMaps Go.MapKept
namespace Yr
open Jb Jm Jd Jw Jx Jn Je Jf Jg Jh Jk Jc Jl Jo Jq J1 J2 J3 J4 Jr J6 J9 Ya Yb Yc Yd Ye Yf Yg Yh Yi Yj Yk Yl Yn Yo Yp Yq

theorem rename_arg (w : World) (S : Nat → Prop) (g N : Nat) (d : St) (h : Dk w S g N d) (s : ByteArray) (t : ByteArray) (hs : s.size ≤ 140737488355328) (f : Fi) (hd : d.down = false) (hF : d.F s = some f) (ht : isNm t = false) (hts : t.size ≤ 140737488355328) :
    Calls Try.prog 15 #[.pointer (some ⟨g, 0, none⟩), .string s, .string t] w fun e w' => e = .returned (.int .i64 1) ∧ w' = w := by
  have FS := Lib.hid (find42_some w S g N s (by unfold maxLen; omega) d h hd f hF)
  have I := isName39 w t hts
  rw [ht] at I
  replace I := Lib.hid I
  clear h hs hd hF ht hts
  go_enter Try.func15, Try.ntmps15
  go_wp2_with (first | (go_at_call 37; refine (FS.out).mono ?_; rintro e w ⟨rfl, rfl⟩) | (go_at_call 34; refine (I.out).mono ?_; rintro e w ⟨rfl, rfl⟩))
  go_ret
  first | trivial | exact ⟨rfl, rfl⟩
theorem rename_same (w : World) (S : Nat → Prop) (g N : Nat) (d : St) (h : Dk w S g N d) (s : ByteArray) (hs : s.size ≤ 140737488355328) (f : Fi) (hd : d.down = false) (hF : d.F s = some f) (ht : isNm s = true) (hl : (vw d).lost = false) :
    Calls Try.prog 15 #[.pointer (some ⟨g, 0, none⟩), .string s, .string s] w fun e w' => e = .returned (.int .i64 0) ∧ Dk w' S g N (opD d) ∧ Chg w w' S := by
  have FS := Lib.hid (find42_some w S g N s (by unfold maxLen; omega) d h hd f hF)
  have O := Lib.hid (op_on w S g N d h hl)
  have I := isName39 w s hs
  rw [ht] at I
  replace I := Lib.hid I
  have e2 := beq_same s
  clear h hs hd hF hl ht
  go_enter Try.func15, Try.ntmps15
  go_wp2_with (first | (go_at_call 37; refine (FS.out).mono ?_; rintro e w ⟨rfl, rfl⟩) | (go_at_call 35; refine (O.out).mono ?_; rintro e w' ⟨rfl, k1, k2⟩) | (go_at_call 34; refine (I.out).mono ?_; rintro e w ⟨rfl, rfl⟩))
  go_ret
  exact ⟨rfl, k1, k2⟩
theorem nm_ins {L : List En} (h : ∀ e ∈ L, isNm e.name = true) (C : Nat) {e : En} (he : isNm e.name = true) : ∀ x ∈ ins L C e, isNm x.name = true := by
  intro x hx
  rcases List.mem_append.1 hx with hx | hx
  · rcases List.mem_append.1 hx with hx | hx
    · exact h x (List.mem_of_mem_take hx)
    · obtain rfl : x = e := by simpa using hx
      exact he
  · exact h x (List.mem_of_mem_drop hx)
theorem not_in {L : List En} (h : Up L) {s : ByteArray} (hF : lkL L s = none) : s.data.toList ∉ nsL L := fun hm => by
  have := (names_lk h).2 s.data.toList |>.1 hm
  rw [nm_name] at this
  exact this hF
theorem rename_both (V : Vw) (t : Dt) (m : MT V t) (s z : ByteArray) (hs : s.size ≤ 140737488355328) (hz : z.size ≤ 140737488355328) (hb : t.L.length ≤ 1000000000) (N : Nat) (hN : N ≤ 140737488353000) : ∃ r : Nat, Both 15 16 #[.string s, .string z] (.int .i64 (r : Nat)) V t N (N + 1) := by
  by_cases hd : V.down = true
  · refine ⟨8, V, Nat.le_refl _, fun w S g h => ?_, fun w T g h => ?_⟩
    · obtain ⟨d, h, rfl⟩ := h
      have hE : finE (vw d) s = 8 := by unfold finE; rw [if_pos hd]
      have := rename_bad w S g N d h s z hs (by omega)
      rw [hE] at this
      exact this.mono (by rintro e w' ⟨rfl, rfl⟩; exact ⟨rfl, (DV.mono ⟨d, h, rfl⟩ (Nat.le_succ _)).new, Chg.refl _ _⟩)
    · exact (rren_down w T g s z t h (by rw [← m.down]; exact hd)).mono (by rintro e w' ⟨rfl, rfl⟩; exact ⟨rfl, ⟨t, m, Wk.new h, Nat.le_refl _⟩, Chg.refl _ _⟩)
  have hd' : V.down = false := by simpa using hd
  have htd : t.down = false := by rw [← m.down]; exact hd'
  obtain ⟨A, hA, ⟨e, hF⟩ | ⟨hl, hnm, hF⟩⟩ := m.find s
  · refine ⟨6, V, Nat.le_refl _, fun w S g h => ?_, fun w T g h => ?_⟩
    · obtain ⟨d, h, rfl⟩ := h
      have hE : finE (vw d) s = 6 := by unfold finE; rw [if_neg hd, hF]; rfl
      have := rename_bad w S g N d h s z hs (by omega)
      rw [hE] at this
      exact this.mono (by rintro e w' ⟨rfl, rfl⟩; exact ⟨rfl, (DV.mono ⟨d, h, rfl⟩ (Nat.le_succ _)).new, Chg.refl _ _⟩)
    · exact (rren_none w T g s z t h htd (e ▸ hA) hb).mono (by rintro e w' ⟨rfl, rfl⟩; exact ⟨rfl, ⟨t, m, Wk.new h, Nat.le_refl _⟩, Chg.refl _ _⟩)
  have hsn : isNm s = true := by rw [← hnm]; exact m.nm _ (mem_getD hl)
  cases hzn : isNm z
  · refine ⟨1, V, Nat.le_refl _, fun w S g h => ?_, fun w T g h => ?_⟩
    · obtain ⟨d, h, rfl⟩ := h
      obtain ⟨f, hf, _⟩ := vw_file hF
      exact (rename_arg w S g N d h s z hs f hd' hf hzn hz).mono (by rintro e w' ⟨rfl, rfl⟩; exact ⟨rfl, (DV.mono ⟨d, h, rfl⟩ (Nat.le_succ _)).new, Chg.refl _ _⟩)
    · exact (rren_bad w T g s z t h htd A hA hl hb hz hzn).mono (by rintro e w' ⟨rfl, rfl⟩; exact ⟨rfl, ⟨t, m, Wk.new h, Nat.le_refl _⟩, Chg.refl _ _⟩)
  have hlost := m.lost
  cases hv : V.lost
  · rw [hv] at hlost
    by_cases hsz : s = z
    · subst hsz
      refine ⟨0, V.op, by rw [Vw.op_used]; exact Nat.le_refl _, fun w S g h => ?_, fun w T g h => ?_⟩
      · obtain ⟨d, h, rfl⟩ := h
        obtain ⟨f, hf, _⟩ := vw_file hF
        refine (rename_same w S g N d h s hs f hd' hf hzn hv).mono ?_
        rintro e w' ⟨rfl, k1, k2⟩
        exact ⟨rfl, (DV.mono ⟨_, k1, vw_op d⟩ (Nat.le_succ _)).new, k2⟩
      · refine (rren_same w T g s t h htd A hA hl hb hs hzn hlost).mono ?_
        rintro e w' ⟨rfl, k, c⟩
        exact ⟨rfl, ⟨_, m.op, Wk.new k, by rw [opT_L]; exact Nat.le_refl _⟩, c⟩
    have mz : ∃ B, At1 (del t.L A) z B := at1 _ _
    obtain ⟨B, hB⟩ := mz
    have hup := m.up.del A
    have hD := lk_del m.up.nodup hl
    rw [hnm] at hD
    have hlz : lkL (del t.L A) z = V.F z := by rw [hD, m.F]; exact if_neg (fun e => hsz e.symm)
    have hsd := sum_del hl
    -- what the program's disk makes of it
    have PR : ∀ (ul : Nat), ul = ((V.F z).map fun b => b.1.length).getD 0 → ul ≤ V.used → ∀ w S g, DV w S g N V → Calls Try.prog 15 (#[.pointer (some ⟨g, 0, none⟩)] ++ #[.string s, .string z]) w fun e w' => e = .returned (.int .i64 0) ∧
        DV w' (New S w w') g (N + 1) { V.op with F := fun x => if x = z then some ((t.L.getD A e0).bs, (t.L.getD A e0).syn) else if x = s then none else V.F x, used := V.used - ul } ∧ Chg w w' S := by
      intro ul hul hle w S g h
      obtain ⟨d, h, rfl⟩ := h
      obtain ⟨f, hf, hab⟩ := vw_file hF
      have hol : ol d z = ul := by
        rw [hul]
        unfold ol
        show _ = ((((d.F z).map ab)).map fun b => b.1.length).getD 0
        cases d.F z <;> rfl
      refine (rename_on w S g N d h s z (nm64 hsn) hzn f hd' hf hv hsz (by rw [hol]; exact hle) hN).mono ?_
      rintro e w' ⟨rfl, d', k1, k2, k3⟩
      rw [hol, hab] at k1
      exact ⟨rfl, ⟨d', k2, k1⟩, k3⟩
    by_cases hBl : B < (del t.L A).length
    · have hFz := at1_some hup.nodup hB hBl
      rw [hlz] at hFz
      have hul : ((del t.L A).getD B e0).bs.length = ((V.F z).map fun b => b.1.length).getD 0 := by rw [hFz]; rfl
      have hge := sum_ge hBl
      have hsd2 := sum_del hBl
      have hD2 := lk_del hup.nodup hBl
      rw [hB.2.1 hBl] at hD2
      have hup2 := hup.del B
      obtain ⟨C, hC⟩ := pos_at (del (del t.L A) B) z
      have hno : z.data.toList ∉ nsL (del (del t.L A) B) := not_in hup2 (by rw [hD2]; exact if_pos rfl)
      refine ⟨0, _, by exact Nat.sub_le _ _, PR _ hul (by rw [m.used]; omega), fun w T g h => ?_⟩
      refine (rren_over w T g s z t h htd A hA hl hb hz hzn hlost hsz B hB hBl C hC).mono ?_
      rintro e w' ⟨rfl, ⟨v, k⟩, c⟩
      refine ⟨rfl, ⟨_, ?_, k, by have := del_len hl; have := del_len hBl; have := hC.1; show (ins (del (del t.L A) B) C _).length ≤ _; simp only [ins, List.length_append, List.length_take, List.length_drop, List.length_singleton]; omega⟩, c⟩
      refine m.op.row v ?_ (Up.ins hup2 hC hno) ?_ (nm_ins (nm_del (nm_del m.nm A) B) C hzn)
      · rw [lk_ins hno, hD2, hD, m.F]
        funext x
        show _ = upd _ z _ x
        unfold upd
        by_cases hx : x = z
        · rw [if_pos hx, if_pos hx]
        · rw [if_neg hx, if_neg hx]; exact (if_neg hx).symm
      · rw [sumL_ins, m.used]
        show _ = _ + (t.L.getD A e0).bs.length
        omega
    · have hBe : B = (del t.L A).length := by have := hB.1; omega
      rw [hBe] at hB
      have hFz := at1_none hB
      have hno : z.data.toList ∉ nsL (del t.L A) := not_in hup hFz
      rw [hlz] at hFz
      obtain ⟨C, hC⟩ := pos_at (del t.L A) z
      refine ⟨0, _, by exact Nat.sub_le _ _, PR 0 (by rw [hFz]; rfl) (Nat.zero_le _), fun w T g h => ?_⟩
      refine (rren_new w T g s z t h htd A hA hl hb hz hzn hlost hsz hB C hC).mono ?_
      rintro e w' ⟨rfl, ⟨v, k⟩, c⟩
      refine ⟨rfl, ⟨_, ?_, k, by have := del_len hl; have := hC.1; show (ins (del t.L A) C _).length ≤ _; simp only [ins, List.length_append, List.length_take, List.length_drop, List.length_singleton]; omega⟩, c⟩
      refine m.op.row v ?_ (Up.ins hup hC hno) ?_ (nm_ins (nm_del m.nm A) C hzn)
      · rw [lk_ins hno, hD, m.F]
        rfl
      · rw [sumL_ins, m.used]
        show _ = _ + (t.L.getD A e0).bs.length
        omega
  · rw [hv] at hlost
    refine ⟨8, V.op, by rw [Vw.op_used]; exact Nat.le_refl _, fun w S g h => ?_, fun w T g h => ?_⟩
    · obtain ⟨d, h, rfl⟩ := h
      obtain ⟨f, hf, _⟩ := vw_file hF
      refine (rename_lost w S g N d h s z hs f hd' hf hzn hz hv).mono ?_
      rintro e w' ⟨rfl, k1, k2⟩
      exact ⟨rfl, (DV.mono ⟨_, k1, vw_op d⟩ (Nat.le_succ _)).new, k2⟩
    · refine (rren_lost w T g s z t h htd A hA hl hb hz hzn hlost).mono ?_
      rintro e w' ⟨rfl, k, c⟩
      exact ⟨rfl, ⟨_, m.op, Wk.new k, by rw [opT_L]; exact Nat.le_refl _⟩, c⟩
end Yr
end Go.Proofs.Ytcjfdebjgaohlaa
