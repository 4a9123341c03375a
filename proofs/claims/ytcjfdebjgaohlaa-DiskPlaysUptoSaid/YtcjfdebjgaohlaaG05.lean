import Derived.Test.YtcjfdebjgaohlaaG04
import Derived.Lib.SlBytesConst
import Derived.Lib.LaidU8

/- The disk's Sync, Remove, Cut, Rename, List, where they are done. -/
namespace Go.Proofs.Ytcjfdebjgaohlaa
open Go.RowKit Go.Maps Go.ChangeMaps Go.MapKept
namespace Jo
open Jb Jm Jd Jw Jx Jn Je Jf Jg Jh Jk Jc Jl

theorem new_of {w w1 w' : World} {S : Nat → Prop} (h1 : w.heap.size ≤ w1.heap.size) {k : Nat} (hk : New S w1 w' k) : New S w w' k := hk.imp id fun e => ⟨by omega, e.2⟩
theorem Dk.wide {w w1 w' : World} {S : Nat → Prop} {g N : Nat} {d : St} (h : Dk w' (New S w1 w') g N d) (c : Chg w w1 S) (hlt : ∀ k, S k → k < w.heap.size) (c2 : w1.heap.size ≤ w'.heap.size) : Dk w' (New S w w') g N d :=
  h.set (fun k hk => new_of c.size hk) (fun k hk => hk.elim (fun e => by have := hlt k e; have := c.size; omega) (fun e => e.2))
theorem opF {d : St} {s : ByteArray} {f : Fi} (h : d.F s = some f) : (opD d).F s = some f := by rw [opD_F]; exact h
set_option maxRecDepth 100000 in
theorem sync_on (w : World) (S : Nat → Prop) (g N : Nat) (d : St) (h : Dk w S g N d) (s : ByteArray) (hs : s.size ≤ 140737488355328) (f : Fi) (hd : d.down = false) (hF : d.F s = some f) (hl : (vw d).lost = false) :
    Calls Try.prog 11 #[.pointer (some ⟨g, 0, none⟩), .string s] w fun e w' => e = .returned (.int .i64 0) ∧ ∃ d', vw d' = { (vw d).op with F := fun x => if x = s then some (f.bs, f.bs.length) else (vw d).F x } ∧ Dk w' (New S w w') g N d' ∧ Chg w w' S := by
  have FS := Lib.hid (find42_some w S g N s (by unfold maxLen; omega) d h hd f hF)
  have O := Lib.hid (op_on w S g N d h hl)
  obtain ⟨fm, _, _⟩ := h.fm s f hF
  obtain ⟨va, vc, hva⟩ := own_forms fm.own
  obtain ⟨L, hL⟩ : ∃ L, L = f.bs.length := ⟨_, rfl⟩
  obtain ⟨b, hb⟩ : ∃ b, b = f.blk := ⟨_, rfl⟩
  have CE : Hid (∀ w1, Dk w1 S g N (opD d) → w1.cell? ⟨b, 0, none⟩ = some (.slice va L vc) ∧ w1.cell? ⟨b, 1, none⟩ = some (.int .i64 (f.syn : Nat)) ∧ w1.frozen? ⟨b, 1, none⟩ = false) := Lib.hid fun w1 k => by
    obtain ⟨m, _, _⟩ := k.fm s f (opF hF)
    rw [hb, hL, ← hva]
    exact ⟨m.c0, m.c1, m.z1⟩
  have FIN : Hid (∀ w1 w', Dk w1 S g N (opD d) → Chg w w1 S → w' = w1.setCell ⟨b, 1, none⟩ (.int .i64 (L : Nat)) → ∃ d', vw d' = { (vw d).op with F := fun x => if x = s then some (f.bs, f.bs.length) else (vw d).F x } ∧ Dk w' (New S w w') g N d' ∧ Chg w w' S) := Lib.hid fun w1 w' k1 k2 hw => by
    obtain ⟨m, mg, ms⟩ := k1.fm s f (opF hF)
    have c1 : Chg w1 w' (fun k => k = g ∨ foot f k) := by rw [hw]; exact (Chg.refl w1 _).setCell (.inr (.inl hb)) _
    have hf' : Fm w' ⟨f.blk, f.v, f.bs, f.bs.length⟩ := by rw [hw, hb, hL]; exact m.set1 _ (Nat.le_refl _)
    have hc := (k1.cs.off (b := b) (i := 1) (v := .int .i64 (L : Nat)) (fun e => mg (.inl (by rw [← e, hb]))))
    rw [← hw] at hc
    have k3 := k1.file (d' := { opD d with F := fun x => if x = s then some ⟨f.blk, f.v, f.bs, f.bs.length⟩ else (opD d).F x }) (opF hF) c1 ⟨hc.c0, hc.c1, hc.c2, hc.c3, hc.c4, hc.c5, hc.z, hc.bu, hc.br, hc.bf⟩ rfl rfl rfl hf' (fun k hk => .inl hk)
    refine ⟨_, ?_, Dk.wide k3 k2 h.lt c1.size, k2.trans c1 fun k hk _ => ?_⟩
    · have e0 := vw_op d
      rw [← e0]
      refine vw_ext (fun x => ?_) rfl rfl rfl rfl rfl
      show Option.map ab (if x = s then _ else _) = if x = s then _ else (vw d).F x
      by_cases e : x = s
      · rw [if_pos e, if_pos e]; rfl
      · rw [if_neg e, if_neg e, opD_F]; rfl
    · rcases hk with rfl | hk
      · exact h.sg
      · exact ms k hk
  rw [← hb] at FS
  clear h hs hd hF hl fm hva hL hb
  go_enter Try.func11, Try.ntmps11
  go_wp2_with (first | (go_at_call 37; refine (FS.out).mono ?_; rintro e w ⟨rfl, rfl⟩) | (go_at_call 35; refine (O.out).mono ?_; rintro e w1 ⟨rfl, k1, k2⟩; obtain ⟨r1, r2, r3⟩ := CE.out w1 k1; have K1 := Lib.hid k1; have K2 := Lib.hid k2; clear k1 k2))
  go_ret
  exact ⟨rfl, FIN.out w1 _ K1.out K2.out rfl⟩
theorem remove_on (w : World) (S : Nat → Prop) (g N : Nat) (d : St) (h : Dk w S g N d) (s : ByteArray) (hs : s.size ≤ 140737488355328) (f : Fi) (hd : d.down = false) (hF : d.F s = some f) (hl : (vw d).lost = false) (hu : f.bs.length ≤ d.used) :
    Calls Try.prog 17 #[.pointer (some ⟨g, 0, none⟩), .string s] w fun e w' => e = .returned (.int .i64 0) ∧ ∃ d', vw d' = { (vw d).op with F := fun x => if x = s then none else (vw d).F x, used := d.used - f.bs.length } ∧ Dk w' (New S w w') g N d' ∧ Chg w w' S := by
  have FS := Lib.hid (find42_some w S g N s (by unfold maxLen; omega) d h hd f hF)
  have O := Lib.hid (op_on w S g N d h hl)
  have DR := Lib.hid (fun w1 (k : Dk w1 S g N (opD d)) => drop_some w1 S g N (opD d) k s hs f (opF hF) (by rw [opD_used]; exact hu))
  have FIN : Hid (∀ w1 w', Dk w1 S g N (opD d) → Chg w w1 S → Dk w' (New S w1 w') g N { opD d with F := fun x => if x = s then none else (opD d).F x, used := (opD d).used - f.bs.length } → Chg w1 w' S → ∃ d', vw d' = { (vw d).op with F := fun x => if x = s then none else (vw d).F x, used := d.used - f.bs.length } ∧ Dk w' (New S w w') g N d' ∧ Chg w w' S) := Lib.hid fun w1 w' k1 k2 k3 k4 => by
    refine ⟨_, ?_, Dk.wide k3 k2 h.lt k4.size, k2.trans k4 fun k hk _ => hk⟩
    have e0 := vw_op d
    rw [← e0]
    refine vw_ext (fun x => ?_) (by show (opD d).used - _ = _; rw [opD_used]) rfl rfl rfl rfl
    show Option.map ab (if x = s then _ else _) = if x = s then _ else (vw d).F x
    by_cases e : x = s
    · rw [if_pos e, if_pos e]; rfl
    · rw [if_neg e, if_neg e, opD_F]; rfl
  clear h hs hd hF hl hu
  go_enter Try.func17, Try.ntmps17
  go_wp2_with (first | (go_at_call 37; refine (FS.out).mono ?_; rintro e w ⟨rfl, rfl⟩) | (go_at_call 35; refine (O.out).mono ?_; rintro e w1 ⟨rfl, k1, k2⟩; have K1 := Lib.hid k1; have K2 := Lib.hid k2; clear k1 k2) | (go_at_call 43; refine (DR.out w1 K1.out).mono ?_; rintro e w2 ⟨rfl, k3, k4⟩))
  go_ret
  exact ⟨rfl, FIN.out w1 _ K1.out K2.out k3 k4⟩
theorem cut_on (w : World) (S : Nat → Prop) (g N : Nat) (d : St) (h : Dk w S g N d) (s : ByteArray) (n : Nat) (hs : s.size ≤ 140737488355328) (f : Fi) (hd : d.down = false) (hF : d.F s = some f) (hn : n ≤ f.bs.length) (hl : (vw d).lost = false) (hu : f.bs.length ≤ d.used) (hb : f.bs.length ≤ 140737488355328) :
    Calls Try.prog 19 #[.pointer (some ⟨g, 0, none⟩), .string s, .int .i64 (n : Nat)] w fun e w' => e = .returned (.int .i64 0) ∧ ∃ d', vw d' = { (vw d).op with F := fun x => if x = s then some (f.bs.take n, min f.syn n) else (vw d).F x, used := d.used - (f.bs.length - n) } ∧ Dk w' (New S w w') g N d' ∧ Chg w w' S := by
  have FS := Lib.hid (find42_some w S g N s (by unfold maxLen; omega) d h hd f hF)
  have O := Lib.hid (op_on w S g N d h hl)
  have DR := Lib.hid (fun w1 (k : Dk w1 S g N (opD d)) => cut44 w1 S g N (opD d) k s f (opF hF) n hn (by rw [opD_used]; exact hu) hb)
  have FIN : Hid (∀ w1 w' f', Dk w1 S g N (opD d) → Chg w w1 S → f'.bs = f.bs.take n → f'.syn = min f.syn n → Dk w' (New S w1 w') g N { opD d with F := fun x => if x = s then some f' else (opD d).F x, used := (opD d).used - (f.bs.length - n) } → Chg w1 w' (fun k => k = g ∨ foot f k) → ∃ d', vw d' = { (vw d).op with F := fun x => if x = s then some (f.bs.take n, min f.syn n) else (vw d).F x, used := d.used - (f.bs.length - n) } ∧ Dk w' (New S w w') g N d' ∧ Chg w w' S) := Lib.hid fun w1 w' f' k1 k2 e1 e2 k3 k4 => by
    refine ⟨_, ?_, Dk.wide k3 k2 h.lt k4.size, k2.trans k4 fun k hk _ => ?_⟩
    · have e0 := vw_op d
      rw [← e0]
      refine vw_ext (fun x => ?_) (by show (opD d).used - _ = _; rw [opD_used]) rfl rfl rfl rfl
      show Option.map ab (if x = s then _ else _) = if x = s then _ else (vw d).F x
      by_cases e : x = s
      · rw [if_pos e, if_pos e, ← e1, ← e2]; rfl
      · rw [if_neg e, if_neg e, opD_F]; rfl
    · rcases hk with rfl | hk
      · exact h.sg
      · exact (h.fm s f hF).2.2 k hk
  obtain ⟨fm, _, _⟩ := h.fm s f hF
  have f0 := fm.c0
  obtain ⟨va, vc, hva⟩ := own_forms fm.own
  rw [hva] at f0
  obtain ⟨L, hL⟩ : ∃ L, L = f.bs.length := ⟨_, rfl⟩
  obtain ⟨b, hb'⟩ : ∃ b, b = f.blk := ⟨_, rfl⟩
  rw [← hL] at f0 hn
  rw [← hb'] at f0 FS DR
  have q1 : ¬ (L : Int) < (n : Int) := by omega
  have q2 : ¬ L < n := by omega
  have q3 : ¬ (n : Int) < 0 := by omega
  clear h hs hd hF hl hu hb fm hva hL hb' hn
  go_enter Try.func19, Try.ntmps19
  go_wp2_with (first | (go_at_call 37; refine (FS.out).mono ?_; rintro e w ⟨rfl, rfl⟩) | (go_at_call 35; refine (O.out).mono ?_; rintro e w1 ⟨rfl, k1, k2⟩; have K1 := Lib.hid k1; have K2 := Lib.hid k2; clear k1 k2) | (go_at_call 46; refine (DR.out w1 K1.out).mono ?_; rintro e w2 ⟨rfl, f', e0, e1, e2, k3, k4⟩))
  go_ret
  exact ⟨rfl, FIN.out w1 _ f' K1.out K2.out e1 e2 k3 k4⟩
end Jo
end Go.Proofs.Ytcjfdebjgaohlaa

/- The disk by what is seen of it; the law's own test that the program is awake. -/
namespace Go.Proofs.Ytcjfdebjgaohlaa
open Go.RowKit Go.Maps Go.ChangeMaps Go.MapKept
namespace Jq
open Jb Jm Jd Jw Jx Jn Je Jf Jg Jh Jk Jc Jl Jo

/-- A disk of which V is seen. -/
def DV (w : World) (S : Nat → Prop) (g N : Nat) (V : Vw) : Prop := ∃ d, Dk w S g N d ∧ vw d = V
theorem DV.move {w w' : World} {S : Nat → Prop} {g N : Nat} {V : Vw} (h : DV w S g N V) (hs : w.heap.size ≤ w'.heap.size) (e : ∀ k, S k → k < w.heap.size → w'.heap[k]? = w.heap[k]?) : DV w' S g N V := by
  obtain ⟨d, h, rfl⟩ := h
  exact ⟨d, h.move hs fun k hk => e k hk (h.lt k hk), rfl⟩
theorem DV.below {w w' : World} {S : Nat → Prop} {g N B : Nat} {V : Vw} (h : DV w S g N V) (b : Below B w w') (hB : w.heap.size ≤ B) : DV w' S g N V :=
  h.move b.size fun k _ hk => b.block k (by omega)
theorem DV.lt {w : World} {S : Nat → Prop} {g N : Nat} {V : Vw} (h : DV w S g N V) {k : Nat} (hk : S k) : k < w.heap.size := by obtain ⟨d, h, _⟩ := h; exact h.lt k hk
theorem DV.set {w : World} {S S' : Nat → Prop} {g N : Nat} {V : Vw} (h : DV w S g N V) (f : ∀ k, S k → S' k) (hl : ∀ k, S' k → k < w.heap.size) : DV w S' g N V := by
  obtain ⟨d, h, e⟩ := h
  exact ⟨d, h.set f hl, e⟩
theorem DV.new {w w' : World} {S : Nat → Prop} {g N : Nat} {V : Vw} (h : DV w' S g N V) : DV w' (New S w w') g N V := h.set (fun _ hk => .inl hk) (fun _ hk => hk.elim (fun e => h.lt e) (fun e => e.2))
theorem DV.mono {w : World} {S : Nat → Prop} {g N N' : Nat} {V : Vw} (h : DV w S g N V) (hn : N ≤ N') : DV w S g N' V := by
  obtain ⟨d, h, e⟩ := h
  exact ⟨d, Dk.mono h hn, e⟩
/-- A disk without files. -/
def V0 (room : Nat) : Vw := ⟨fun _ => none, 0, room, false, 0, false⟩
theorem vw0 (room : Nat) : vw (st0 room) = V0 room := rfl
theorem New_c (w : World) (n : Int) (hn : -9223372036854775808 ≤ n ∧ n ≤ 9223372036854775807) :
    Calls Try.prog 5 #[.int .i64 n] w fun e w' => e = .returned (.pointer (some ⟨w.heap.size, 0, none⟩)) ∧ DV w' (fun k => w.heap.size ≤ k ∧ k < w'.heap.size) w.heap.size 0 (V0 n.toNat) ∧ Below w.heap.size w w' := by
  refine (new9 w n hn).mono ?_
  rintro e w' ⟨rfl, h1, h2⟩
  exact ⟨rfl, ⟨_, h1, vw0 _⟩, h2⟩
theorem Used_c (w : World) (S : Nat → Prop) (g N : Nat) (V : Vw) (h : DV w S g N V) : Calls Try.prog 10 #[.pointer (some ⟨g, 0, none⟩)] w fun e w' => e = .returned (.int .i64 (V.used : Nat)) ∧ w' = w := by
  obtain ⟨d, h, rfl⟩ := h
  exact used19 w g d h.cs
theorem Down_c (w : World) (S : Nat → Prop) (g N : Nat) (V : Vw) (h : DV w S g N V) : Calls Try.prog 29 #[.pointer (some ⟨g, 0, none⟩)] w fun e w' => e = .returned (.bool V.down) ∧ w' = w := by
  obtain ⟨d, h, rfl⟩ := h
  exact down24 w g d h.cs
theorem Append_c (w : World) (S : Nat → Prop) (g N : Nat) (V : Vw) (h : DV w S g N V) (s : ByteArray) (hs : s.size ≤ 140737488355328) (R : Nat → Prop) (hR : ∀ k, R k → ¬ S k) (v : Value) (bs : List Nat) (hv : Src w R v bs) (hcap : ∀ c, v = .slice none bs.length c → c = 0) (hby : ∀ x ∈ bs, x < 256)
    (hN : N ≤ 140737488353000) (hB : (old V s).1.length + bs.length ≤ 140737488355328) (hU : V.used + bs.length ≤ 9223372036854775807) :
    Calls Try.prog 9 #[.pointer (some ⟨g, 0, none⟩), .string s, v] w fun e w' => e = .returned (.tuple #[.int .i64 (appN V s bs.length : Nat), .int .i64 (appE V s bs.length : Nat)]) ∧ DV w' (New S w w') g (N + 1) (appV V s bs) ∧ Chg w w' S := by
  obtain ⟨d, h, rfl⟩ := h
  by_cases hoff : d.down = true ∨ isNm s = false ∨ (vw d).lost = true
  · refine (append_off w S g N d h s hs v bs.length hoff).mono ?_
    rintro e w' ⟨rfl, d', h1, h2, h3⟩
    have e1 : appN (vw d) s bs.length = 0 := by
      unfold appN
      split
      · rfl
      · rename_i hd
        split
        · rename_i hn
          rw [if_pos]
          rcases hoff with e | e | e
          · exact absurd e hd
          · rw [hn] at e; cases e
          · exact e
        · rfl
    have e2 : appV (vw d) s bs = offV (vw d) s := by
      unfold appV offV
      split
      · rfl
      · rename_i hd
        split
        · rename_i hn
          rw [if_pos]
          rcases hoff with e | e | e
          · exact absurd e hd
          · rw [hn] at e; cases e
          · exact e
        · rfl
    rw [e1, e2, ← h1]
    exact ⟨rfl, (DV.mono ⟨d', h2, rfl⟩ (Nat.le_succ _)).new, h3⟩
  · have hd : d.down = false := by
      cases e : d.down
      · rfl
      · exact absurd (.inl e) hoff
    have hn : isNm s = true := by
      cases e : isNm s
      · exact absurd (.inr (.inl e)) hoff
      · rfl
    have hl : (vw d).lost = false := by
      cases e : (vw d).lost
      · rfl
      · exact absurd (.inr (.inr e)) hoff
    refine (append_on w S g N d h s R hR v bs hv hcap hby hN hd hn hl hB hU).mono ?_
    rintro e w' ⟨rfl, d', h1, h2, h3⟩
    exact ⟨rfl, ⟨d', h2, h1⟩, h3⟩
def sa : ByteArray := ⟨#[97]⟩
def sb : ByteArray := ⟨#[98]⟩
theorem nm_sa : isNm sa = true := by kernel_rfl
theorem Read_c (w : World) (S : Nat → Prop) (g N : Nat) (V : Vw) (h : DV w S g N V) (s : ByteArray) (hs : s.size ≤ 140737488355328) (bs : List Nat) (k : Nat) (hd : V.down = false) (hF : V.F s = some (bs, k)) (hb : bs.length ≤ 140737488355328) :
    Calls Try.prog 26 #[.pointer (some ⟨g, 0, none⟩), .string s] w fun e w' => ∃ v, e = .returned (.tuple #[v, .int .i64 0]) ∧ w'.ownsRow w.heap.size 5 1 v bs.length (u8s bs) ∧ Below w.heap.size w w' := by
  obtain ⟨d, h, rfl⟩ := h
  cases hf : d.F s with
  | none => simp [vw, hf] at hF
  | some f =>
    have e : ab f = (bs, k) := by simpa [vw, hf] using hF
    have e1 : f.bs = bs := congrArg Prod.fst e
    rw [← e1] at hb ⊢
    exact read_on w S g N d h s hs f hd hf hb
theorem Read_bad (w : World) (S : Nat → Prop) (g N : Nat) (V : Vw) (h : DV w S g N V) (s : ByteArray) (hs : s.size ≤ 140737488355328) (hE : finE V s ≠ 0) :
    Calls Try.prog 26 #[.pointer (some ⟨g, 0, none⟩), .string s] w fun e w' => e = .returned (.tuple #[.slice none 0 0, .int .i64 (finE V s : Nat)]) ∧ w' = w := by
  obtain ⟨d, h, rfl⟩ := h
  exact read_bad w S g N d h s hs hE
theorem Sync_bad (w : World) (S : Nat → Prop) (g N : Nat) (V : Vw) (h : DV w S g N V) (s : ByteArray) (hs : s.size ≤ 140737488355328) (hE : finE V s ≠ 0) :
    Calls Try.prog 11 #[.pointer (some ⟨g, 0, none⟩), .string s] w fun e w' => e = .returned (.int .i64 (finE V s : Nat)) ∧ w' = w := by
  obtain ⟨d, h, rfl⟩ := h
  exact sync_bad w S g N d h s hs hE
def Vabc : Vw := appV (V0 3) sa [97, 98, 99, 100]
set_option maxRecDepth 100000 in
theorem awake8 (w : World) : Calls Try.prog 4 #[] w fun e w' => e = .returned (.bool true) ∧ Below w.heap.size w w' := by
  have NE := Lib.hid (New_c w 3 (by omega))
  have AP : Hid (∀ w1, DV w1 (fun k => w.heap.size ≤ k ∧ k < w1.heap.size) w.heap.size 0 (V0 3) → Below w.heap.size w w1 → Calls Try.prog 9 #[.pointer (some ⟨w.heap.size, 0, none⟩), .string { data := #[97] }, .slice (some ⟨w1.heap.size, 0, none⟩) 4 4] (w1.alloc (.cells #[.int .u8 97, .int .u8 98, .int .u8 99, .int .u8 100] 5 (4, 5)))
      fun e w' => e = .returned (.tuple #[.int .i64 3, .int .i64 7]) ∧ (∃ S, DV w' S w.heap.size 1 Vabc) ∧ Below w.heap.size w w') := Lib.hid fun w1 h1 b1 => by
    have hb := b1.size
    have hsrc : Src (w1.alloc (.cells #[.int .u8 97, .int .u8 98, .int .u8 99, .int .u8 100] 5 (4, 5))) (fun k => k = w1.heap.size) (.slice (some ⟨w1.heap.size, 0, none⟩) 4 4) [97, 98, 99, 100] := by
      refine .inr ⟨by decide, w1.heap.size, 0, 4, rfl, by decide, rfl, fun i hi => ?_⟩
      have hi : i < 4 := hi
      rw [World.cell?_alloc_mark]
      match i, hi with
      | 0, _ => rfl
      | 1, _ => rfl
      | 2, _ => rfl
      | 3, _ => rfl
    have h2 := h1.below ((Below.refl _ w1).alloc (Nat.le_refl _) (.cells #[.int .u8 97, .int .u8 98, .int .u8 99, .int .u8 100] 5 (4, 5))) (Nat.le_refl _)
    refine (Append_c _ _ _ 0 (V0 3) h2 sa (by decide) _ (fun k hk e => by subst hk; omega) _ [97, 98, 99, 100] hsrc (fun c e => by cases e) (by decide) (by decide) (by decide) (by decide)).mono ?_
    rintro e w' ⟨rfl, h3, h4⟩
    refine ⟨by kernel_rfl, ⟨_, h3⟩, ?_⟩
    exact (b1.alloc hb _).trans (h4.below (fun k hk _ => hk.1) (by simp; omega))
  have US := Lib.hid (fun w' S (h : DV w' S w.heap.size 1 Vabc) => Used_c w' S w.heap.size 1 Vabc h)
  have SY := Lib.hid (fun w' S (h : DV w' S w.heap.size 1 Vabc) => Sync_bad w' S w.heap.size 1 Vabc h sb (by decide) (by decide))
  have hcv := fun (y : World) => Lib.run_convert_bytes_const (P := Try.prog) y 29 5 #[.int .u8 97, .int .u8 98, .int .u8 99, .int .u8 100] 4 4 Try.underlying29 Try.underlying5
  go_enter Try.func4, Try.ntmps4
  go_wp2_with (first | (go_at_call 5; refine (NE.out).mono ?_; rintro e w1 ⟨rfl, k1, b1⟩) | (go_at_call 9; refine (AP.out _ k1 b1).mono ?_; rintro e w2 ⟨rfl, ⟨S2, k2⟩, b2⟩) | (go_at_call 10; refine (US.out _ S2 k2).mono ?_; rintro e w3 ⟨rfl, rfl⟩) | (go_at_call 11; refine (SY.out _ S2 k2).mono ?_; rintro e w3 ⟨rfl, rfl⟩))
  go_ret
  first | exact ⟨rfl, b2⟩ | (refine ⟨?_, b2⟩; rfl)
end Jq
end Go.Proofs.Ytcjfdebjgaohlaa

/- A restart: plain mathematics. -/
namespace Go.Proofs.Ytcjfdebjgaohlaa
namespace J1
open Jg

def nm (x : List UInt8) : ByteArray := ⟨x.toArray⟩
theorem nm_inj {x y : List UInt8} (h : nm x = nm y) : x = y := by
  unfold nm at h
  injection h with h
  simpa using h
abbrev FT := ByteArray → Option (List Nat × Nat)
def lenAt (F : FT) (x : List UInt8) : Nat := ((F (nm x)).getD ([], 0)).1.length
/-- The sum of all lengths. -/
def tot (F : FT) (ns : List (List UInt8)) : Nat := (ns.map (lenAt F)).sum
def upd (F : FT) (s : ByteArray) (v : List Nat × Nat) : FT := fun y => if y = s then some v else F y
theorem upd_same (F : FT) (s : ByteArray) (v : List Nat × Nat) : upd F s v s = some v := if_pos rfl
theorem upd_other {F : FT} {s t : ByteArray} {v : List Nat × Nat} (h : t ≠ s) : upd F s v t = F t := if_neg h
theorem tot_miss {F : FT} {x : List UInt8} {v : List Nat × Nat} : ∀ {ns : List (List UInt8)}, x ∉ ns → tot (upd F (nm x) v) ns = tot F ns := by
  intro ns h
  unfold tot
  congr 1
  refine List.map_congr_left fun y hy => ?_
  unfold lenAt
  rw [upd_other (fun e => h (by rw [← nm_inj e]; exact hy))]
theorem tot_upd {F : FT} {x : List UInt8} {v : List Nat × Nat} : ∀ {ns : List (List UInt8)}, ns.Nodup → x ∈ ns → tot (upd F (nm x) v) ns + lenAt F x = tot F ns + v.1.length := by
  intro ns
  induction ns with
  | nil => intro _ h; simp at h
  | cons y r ih =>
    intro hn hx
    obtain ⟨h1, h2⟩ := List.nodup_cons.1 hn
    have e : ∀ G : FT, tot G (y :: r) = lenAt G y + tot G r := fun G => by simp [tot]
    rw [e, e]
    by_cases hxy : x = y
    · subst hxy
      rw [tot_miss h1]
      have : lenAt (upd F (nm x) v) x = v.1.length := by unfold lenAt; rw [upd_same]; rfl
      omega
    · have hx' : x ∈ r := by
        rcases List.mem_cons.1 hx with h | h
        · exact absurd h hxy
        · exact h
      have := ih h2 hx'
      have e2 : lenAt (upd F (nm x) v) y = lenAt F y := by unfold lenAt; rw [upd_other fun e => hxy (nm_inj e).symm]
      omega
theorem le_tot {F : FT} {x : List UInt8} : ∀ {ns : List (List UInt8)}, x ∈ ns → lenAt F x ≤ tot F ns := by
  intro ns
  induction ns with
  | nil => intro h; simp at h
  | cons y r ih =>
    intro h
    have e : tot F (y :: r) = lenAt F y + tot F r := by simp [tot]
    rcases List.mem_cons.1 h with h | h
    · subst h; omega
    · have := ih h; omega
structure Rs where
  F : FT
  used : Nat
  ch : List Nat
/-- How many bytes of a file stay. -/
def stays (b : List Nat × Nat) (ch : List Nat) : Nat := b.2 + ch.headD 0 % (b.1.length - b.2 + 1)
theorem stays_le (b : List Nat × Nat) (ch : List Nat) (h : b.2 ≤ b.1.length) : stays b ch ≤ b.1.length := by
  unfold stays
  have := Nat.mod_lt (ch.headD 0) (show 0 < b.1.length - b.2 + 1 by omega)
  omega
def stp (r : Rs) (x : List UInt8) : Rs :=
  match r.F (nm x) with
  | none => r
  | some b => if b.1.length = b.2 then r else ⟨upd r.F (nm x) (b.1.take (stays b r.ch), stays b r.ch), r.used - (b.1.length - stays b r.ch), r.ch.tail⟩
def rs (r : Rs) (ns : List (List UInt8)) : Rs := ns.foldl stp r
theorem rs_snoc (r : Rs) (ns : List (List UInt8)) (k : Nat) (h : k < ns.length) : rs r (ns.take (k + 1)) = stp (rs r (ns.take k)) ns[k] := by
  unfold rs
  rw [List.take_succ_eq_append_getElem h, List.foldl_append]
  rfl
theorem stp_same {r : Rs} {x : List UInt8} {b : List Nat × Nat} (h : r.F (nm x) = some b) (e : b.1.length = b.2) : stp r x = r := by
  unfold stp; rw [h]; exact if_pos e
theorem stp_cut {r : Rs} {x : List UInt8} {b : List Nat × Nat} (h : r.F (nm x) = some b) (e : b.1.length ≠ b.2) :
    stp r x = ⟨upd r.F (nm x) (b.1.take (stays b r.ch), stays b r.ch), r.used - (b.1.length - stays b r.ch), r.ch.tail⟩ := by
  unfold stp; rw [h]; exact if_neg e
/-- What a restart keeps. -/
def Inv (F0 : FT) (ns : List (List UInt8)) (r : Rs) : Prop :=
  r.used = tot r.F ns ∧ (∀ s, r.F s = none ↔ F0 s = none) ∧ (∀ s b, r.F s = some b → b.2 ≤ b.1.length)
theorem inv_stp {F0 : FT} {ns : List (List UInt8)} {r : Rs} (hn : ns.Nodup) (h : Inv F0 ns r) {x : List UInt8} (hx : x ∈ ns) : Inv F0 ns (stp r x) := by
  obtain ⟨h1, h2, h3⟩ := h
  cases hf : r.F (nm x) with
  | none =>
    have : stp r x = r := by unfold stp; rw [hf]
    rw [this]; exact ⟨h1, h2, h3⟩
  | some b =>
    by_cases e : b.1.length = b.2
    · rw [stp_same hf e]; exact ⟨h1, h2, h3⟩
    · rw [stp_cut hf e]
      have hs := stays_le b r.ch (h3 _ _ hf)
      have hl : (b.1.take (stays b r.ch)).length = stays b r.ch := by rw [List.length_take]; omega
      have ht := tot_upd (F := r.F) (v := (b.1.take (stays b r.ch), stays b r.ch)) hn hx
      have ha : lenAt r.F x = b.1.length := by unfold lenAt; rw [hf]; rfl
      rw [ha] at ht
      dsimp only at ht
      rw [hl] at ht
      refine ⟨by dsimp only; omega, fun s => ?_, fun s c hc => ?_⟩
      · dsimp only
        by_cases es : s = nm x
        · rw [es, upd_same]
          have := h2 (nm x)
          rw [hf] at this
          simp at this
          simp [this]
        · rw [upd_other es]; exact h2 s
      · dsimp only at hc
        by_cases es : s = nm x
        · rw [es, upd_same] at hc
          cases hc
          dsimp only
          rw [hl]
          exact Nat.le_refl _
        · rw [upd_other es] at hc; exact h3 s c hc
theorem inv_rs {F0 : FT} {ns : List (List UInt8)} {r : Rs} (hn : ns.Nodup) (h : Inv F0 ns r) : ∀ k, k ≤ ns.length → Inv F0 ns (rs r (ns.take k)) := by
  intro k
  induction k with
  | zero => intro _; simpa [rs] using h
  | succ k ih =>
    intro hk
    rw [rs_snoc r ns k (by omega)]
    exact inv_stp hn (ih (by omega)) (List.getElem_mem _)
end J1
end Go.Proofs.Ytcjfdebjgaohlaa
