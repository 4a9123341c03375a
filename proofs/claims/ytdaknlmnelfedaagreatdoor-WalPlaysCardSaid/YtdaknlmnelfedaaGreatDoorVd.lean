/- The log's load. -/
import Derived.Test.YtdaknlmnelfedaaGreatDoorVc
namespace Go.Proofs.YtdaknlmnelfedaaGreatDoor
open Go.RowKit Go.Maps Go.ChangeMaps Go.MapKept
namespace Vd
open Jb Jm Jd Jw Jx Jn Je Jf Jg Jh Jk Jc Jl Jo Jq Jr J1 J2 J3 J4 W1 W2 W3 V1 V2 V3 V4 V5 V6 V7 V8 V9 Va Vb Vc

/-- An append at the operation. -/
theorem wpList_app {w : World} {ops : Array Oper} {rest : List Oper} {o : Oper} {a : Act} {Q : Exit → Act → World → Prop} (hg : o.guard = none) (s x : Operand) (hop : o.op = Op.call { callee := Callee.builtin Builtin.append, args := #[s, x], argTypes := #[29, 29] })
    (v y : Value) (hs : a.eval s = v) (hx : a.eval x = y) (R : Value → World → Prop) (hrun : ∀ ty, ∃ v' w', (Builtin.append_ #[29, 29] ty #[v, y]).run Tryz.prog w = .ok v' w' ∧ R v' w')
    (hK : ∀ v' w', R v' w' → wpList Tryz.prog ops Q rest (a.put o.dst v') w') : wpList Tryz.prog ops Q (o :: rest) a w := by
  refine wpList_plain hg fun K' hK' => ?_
  obtain ⟨v', w', hr, r1⟩ := hrun o.type
  unfold Oper.wp
  simp [execOp, hop, resolve, invoke, builtin, hs, hx, hr, Result.andThen]
  exact hK' _ _ (hK v' w' r1)
def lenP (w : World) (p : Nat) : Nat := match w.cell? ⟨p, 2, none⟩ with
  | some (.slice _ n _) => n
  | _ => 0
theorem ws_len {w : World} {U : Nat → Prop} {B p g N : Nat} {V : Vw} {L : Lg} {ov : Bool} (h : WS w U B p g N V L ov) : lenP w p = L.es.length := by
  obtain ⟨S, T, h1, h2, h3, h4, h5⟩ := h.ex
  obtain ⟨ev, c2, er⟩ := h2.c2
  obtain ⟨a, c, rfl⟩ := er.form
  unfold lenP
  rw [c2]
theorem DV.byte {w : World} {S : Nat → Prop} {g N : Nat} {V : Vw} (h : DV w S g N V) (s : ByteArray) (b : List Nat × Nat) (hb : V.F s = some b) : ∀ x ∈ b.1, x < 256 := by
  obtain ⟨d, h, rfl⟩ := h
  obtain ⟨f, hf, rfl⟩ := vF hb
  exact (h.fm s f hf).1.byte
theorem ws_read {w : World} {U : Nat → Prop} {B p g N : Nat} {V : Vw} {L : Lg} {ov : Bool} (h : WS w U B p g N V L ov) (hd : V.down = false) (s : ByteArray) (hs : s.size ≤ 64) (bs : List Nat) (k : Nat) (hF : V.F s = some (bs, k)) (hu : V.used ≤ 140737488355328) :
    (∀ x ∈ bs, x < 256) ∧ bs.length ≤ 140737488355328 ∧
    Calls Tryz.prog 43 #[.pointer (some ⟨g, 0, none⟩), .string s] w fun e w' => ∃ a c, e = .returned (.tuple #[.slice a bs.length c, .int .i64 0]) ∧ Src w' (fun k => w.heap.size ≤ k) (.slice a bs.length c) bs ∧ Below w.heap.size w w' := by
  obtain ⟨S, T, h1, h2, h3, h4, h5⟩ := h.ex
  have hl : bs.length ≤ V.used := by
    have := h.uok.le s
    unfold len at this
    rw [hF] at this
    exact this
  refine ⟨DV.byte h1 s _ hF, by omega, ?_⟩
  refine (Read_c w S g N V h1 s (by omega) bs k hd hF (by omega)).mono ?_
  rintro e w' ⟨v, rfl, o, b⟩
  have so := (src_own o).imp (R' := fun k => w.heap.size ≤ k) fun k hk => hk.1
  obtain ⟨a, c, rfl⟩ := so.forms
  exact ⟨a, c, rfl, so, b⟩
theorem ws_miss {w : World} {U : Nat → Prop} {B p g N : Nat} {V : Vw} {L : Lg} {ov : Bool} (h : WS w U B p g N V L ov) (hd : V.down = false) (s : ByteArray) (hs : s.size ≤ 64) (hF : V.F s = none) :
    Calls Tryz.prog 43 #[.pointer (some ⟨g, 0, none⟩), .string s] w fun e w' => e = .returned (.tuple #[.slice none 0 0, .int .i64 6]) ∧ w' = w := by
  obtain ⟨S, T, h1, h2, h3, h4, h5⟩ := h.ex
  have e6 : finE V s = 6 := by unfold finE; rw [hd, hF]; rfl
  have := Read_bad w S g N V h1 s (by omega) (by rw [e6]; decide)
  rw [e6] at this
  exact this
set_option maxRecDepth 100000 in
set_option maxHeartbeats 4000000 in
theorem load14 (w : World) (U : Nat → Prop) (B p g N : Nat) (V : Vw) (L : Lg) (ov : Bool) (h : WS w U B p g N V ⟨L.first, []⟩ ov) (hc : Dirt V L) (hd : V.down = false) (hs : Sm L.nx) (hu : V.used ≤ 140737488355328) (hln : L.es.length ≤ 1000000000) :
    Calls Tryz.prog 32 #[.pointer (some ⟨p, 0, none⟩)] w fun e w' => e = .returned (.int .i64 0) ∧ WS w' (New U w w') B p g N V L ov ∧ Chg w w' U := by
  obtain ⟨n, hn⟩ : ∃ n, n = L.es.length := ⟨_, rfl⟩
  have sm : ∀ k, k ≤ L.nx → Sm k := fun k hk => by unfold Sm at *; omega
  have ne : ∀ k, k ≤ n → (Lg.mk L.first (L.es.take k)).nx = L.first + k := fun k hk => by unfold Lg.nx; simp; omega
  have nxe : L.nx = L.first + n := by unfold Lg.nx; rw [hn]
  have ALL : L.es.take n = L.es := by rw [hn, List.take_length]
  have ST : Hid (WS w (New U w w) B p g N V ⟨L.first, L.es.take 0⟩ ov) := Lib.hid (by simpa using h.new (w := w) h.en.hi)
  have NX : Hid (∀ k y, k ≤ n → WS y (New U w y) B p g N V ⟨L.first, L.es.take k⟩ ov → Calls Tryz.prog 18 #[.pointer (some ⟨p, 0, none⟩)] y fun e y' => e = .returned (.int .i64 (L.first + k : Nat)) ∧ Below y.heap.size y y') := Lib.hid fun k y hk hy => by
    have := ws_next hy (by rw [ne k hk]; exact sm _ (by omega))
    rwa [ne k hk] at this
  have EN : Hid (∀ k y, k ≤ n → WS y (New U w y) B p g N V ⟨L.first, L.es.take k⟩ ov → Calls Tryz.prog 44 #[.int .i64 (L.first + k : Nat)] y _) := Lib.hid fun k y hk hy => ent26 y hy.en.tab (L.first + k) (sm _ (by omega))
  have CD : Hid (∀ k y, WS y (New U w y) B p g N V ⟨L.first, L.es.take k⟩ ov → y.cell? ⟨p, 0, none⟩ = some (.pointer (some ⟨g, 0, none⟩))) := Lib.hid fun k y hy => disk_call hy
  have RD : Hid (∀ k, k < n → ∃ bs, L.es[k]? = some bs ∧ (∀ y, WS y (New U w y) B p g N V ⟨L.first, L.es.take k⟩ ov → (∀ x ∈ bs, x < 256) ∧ bs.length ≤ 140737488355328 ∧ Calls Tryz.prog 43 #[.pointer (some ⟨g, 0, none⟩), .string (ent (L.first + k))] y fun e w' => ∃ a c, e = .returned (.tuple #[.slice a bs.length c, .int .i64 0]) ∧ Src w' (fun k => y.heap.size ≤ k) (.slice a bs.length c) bs ∧ Below y.heap.size y w')) := Lib.hid fun k hk => by
    have hk' : k < L.es.length := by omega
    refine ⟨L.es[k], List.getElem?_eq_getElem hk', fun y hy => ws_read hy hd (ent (L.first + k)) (by have := size_ent (sm (L.first + k) (by omega)); omega) L.es[k] _ (hc.ent k hk') hu⟩
  have MS : Hid (∀ y, WS y (New U w y) B p g N V ⟨L.first, L.es.take n⟩ ov → Calls Tryz.prog 43 #[.pointer (some ⟨g, 0, none⟩), .string (ent (L.first + n))] y fun e w' => e = .returned (.tuple #[.slice none 0 0, .int .i64 6]) ∧ w' = y) := Lib.hid fun y hy => ws_miss hy hd (ent (L.first + n)) (by have := size_ent (sm (L.first + n) (by omega)); omega) (by rw [← nxe]; exact hc.next hs)
  have TK : Hid (∀ k bs, L.es[k]? = some bs → (Lg.mk L.first (L.es.take k)).app bs = ⟨L.first, L.es.take (k + 1)⟩) := Lib.hid fun k bs hb => by
    unfold Lg.app
    obtain ⟨hk, e⟩ := List.getElem?_eq_some_iff.1 hb
    rw [List.take_succ_eq_append_getElem hk, e]
  have HN := Lib.hid hn
  have nb : n ≤ 1000000000 := by omega
  have AE : Hid (∀ y, WS y (New U w y) B p g N V ⟨L.first, L.es.take n⟩ ov → WS y (New U w y) B p g N V L ov) := Lib.hid fun y hy => by rw [ALL] at hy; exact hy
  clear h hc hd hs hu hln hn sm ne nxe ALL
  go_enter Tryz.func32, Tryz.ntmps32
  go_wp2_with fail
  go_loopw [3, 4] (fun _ _ wr => ∃ k, k ≤ n ∧ WS wr (New U w wr) B p g N V ⟨L.first, L.es.take k⟩ ov ∧ Chg w wr U) (fun _ _ wr => n - lenP wr p)
  case atStart => exact ⟨0, Nat.zero_le _, ST.out, Chg.refl _ _⟩
  case round =>
    obtain ⟨k, hk, j1, j2⟩ := hrel
    have J1 := Lib.hid j1
    have J2 := Lib.hid j2
    have MR : Hid (∀ y, Below wr.heap.size wr y → WS y (New U w y) B p g N V ⟨L.first, L.es.take k⟩ ov ∧ Chg w y U) := Lib.hid fun y hy => WS.more j1 j2 hy
    have NX1 := Lib.hid (fun y hy => NX.out k y hk (MR.out y hy).1)
    have EN1 := Lib.hid (fun y hy => EN.out k y hk (MR.out y hy).1)
    have CD1 := Lib.hid (fun y hy => CD.out k y (MR.out y hy).1)
    have HK := Lib.hid hk
    have LP : Hid (lenP wr p = k) := Lib.hid (by rw [ws_len j1]; simp; have := HN.out; omega)
    have b0 : Below wr.heap.size wr wr.drew := ⟨rfl, rfl, rfl, Nat.le_refl _, fun _ _ => rfl⟩
    have kX := CD1.out wr.drew b0
    by_cases hkn : k < n
    · obtain ⟨bs, hb, rd⟩ := RD.out k hkn
      obtain ⟨hby, hbl, _⟩ := rd wr j1
      have RD1 := Lib.hid (fun y hy => (rd y (MR.out y hy).1).2.2)
      obtain ⟨a, c, p1, p2, p3, p4⟩ := ws_push (bs := bs) j1 hbl hby (by simp; omega)
      have HB := Lib.hid hb
      have P3 := Lib.hid p3
      have P4 := Lib.hid p4
      have HKN := Lib.hid hkn
      obtain ⟨l, hl⟩ : ∃ l, l = bs.length := ⟨_, rfl⟩
      obtain ⟨m, hm⟩ : ∃ m, m = (L.es.take k).length := ⟨_, rfl⟩
      have EM : Hid (m = (L.es.take k).length) := Lib.hid hm
      rw [← hl] at RD1
      change Hid (∀ y, Below wr.heap.size wr y → y.cell? ⟨p, 2, none⟩ = some (.slice a (L.es.take k).length c)) at P3
      change Hid (∀ x xb cv, Below wr.heap.size wr x → Src x (fun k => wr.heap.size ≤ k) cv bs → x.cell? ⟨xb, 0, none⟩ = some cv → ∀ ty, ∃ v' x', (Builtin.append_ #[29, 29] ty #[.slice a (L.es.take k).length c, .slice (some ⟨xb, 0, none⟩) 1 1]).run Tryz.prog x = .ok v' x' ∧ _) at P4
      rw [← hm] at P3 P4
      clear j1 j2 rd hby hbl hb p1 p2 p3 p4 hk hkn hm hl
      go_upto_region 1 with (fail)
      go_region_held (fun x => x.cell? ⟨p, 0, none⟩ = some (.pointer (some ⟨g, 0, none⟩)))
        (first | exact kX | exact kY | exact kZ | exact kW)
        (first | (go_at_call 18; refine (NX1.out _ b0).mono ?_; rintro e x1 ⟨rfl, hx1⟩; have b1 := b0.trans (hx1.mono b0.size); have kY := CD1.out x1 b1) | (go_at_call 44; refine (EN1.out _ b1).mono ?_; rintro e x2 ⟨rfl, hx2⟩; have b2 := b1.trans (hx2.mono b1.size); have kZ := CD1.out x2 b2) | (go_at_call 43; refine (RD1.out _ b2).mono ?_; rintro e x3 ⟨ra, rc, rfl, s3, hx3⟩; have b3 := b2.trans (hx3.mono b2.size); have kW := CD1.out x3 b3; have kV := P3.out x3 b3; have s4 := s3.imp (R' := fun k => wr.heap.size ≤ k) (fun k hk => by have := b2.size; omega); have S4 := Lib.hid s4; clear s3 s4))
      go_wp2_with (at_builtin; refine wpList_app rfl _ _ rfl (.slice a m c) _ rfl rfl _ (P4.out _ x3.heap.size (.slice ra l rc) (b3.alloc b3.size _) (S4.out.move fun k _ hk => Below.heap_alloc _ _ _ hk) (new_cell _ _ _ 0 _ rfl)) ?_; intro v7 w7 h7; obtain ⟨a7, n7, c7, rfl, f7, z7, h8⟩ := h7; have H7 := Lib.hid h8; clear h8)
      have H8 : Hid (WS (w7.setCell ⟨p, 2, none⟩ (.slice a7 n7 c7)) (New U w (w7.setCell ⟨p, 2, none⟩ (.slice a7 n7 c7))) B p g N V ⟨L.first, L.es.take (k + 1)⟩ ov ∧ Chg w (w7.setCell ⟨p, 2, none⟩ (.slice a7 n7 c7)) U) := Lib.hid (by
        obtain ⟨m1, m2⟩ := H7.out
        rw [TK.out k bs HB.out] at m1
        exact ⟨m1.two J2.out.size m2.size, Chg.U J2.out m2⟩)
      go_roundw
      case rel => exact ⟨k + 1, by have := HKN.out; omega, H8.out⟩
      case measure =>
        have q1 := LP.out
        have q2 := ws_len H8.out.1
        have q3 := HKN.out
        have q4 := HN.out
        simp only [List.length_take] at q2
        rw [q1, q2]
        omega
    · obtain rfl : k = n := by omega
      have MS1 : Hid (∀ y, Below wr.heap.size wr y → Calls Tryz.prog 43 #[.pointer (some ⟨g, 0, none⟩), .string (ent (L.first + k))] y fun e y' => e = .returned (.tuple #[.slice none 0 0, .int .i64 6]) ∧ Below y.heap.size y y') := Lib.hid fun y hy => by
        refine (MS.out y (MR.out y hy).1).mono ?_
        rintro e y' ⟨rfl, rfl⟩
        exact ⟨rfl, Below.refl _ _⟩
      clear j1 j2 hk hkn
      go_upto_region 1 with (fail)
      go_region_held (fun x => x.cell? ⟨p, 0, none⟩ = some (.pointer (some ⟨g, 0, none⟩)))
        (first | exact kX | exact kY | exact kZ | exact kW)
        (first | (go_at_call 18; refine (NX1.out _ b0).mono ?_; rintro e x1 ⟨rfl, hx1⟩; have b1 := b0.trans (hx1.mono b0.size); have kY := CD1.out x1 b1) | (go_at_call 44; refine (EN1.out _ b1).mono ?_; rintro e x2 ⟨rfl, hx2⟩; have b2 := b1.trans (hx2.mono b1.size); have kZ := CD1.out x2 b2) | (go_at_call 43; refine (MS1.out _ b2).mono ?_; rintro e x3 ⟨rfl, hx3⟩; have b3 := b2.trans (hx3.mono b2.size); have kW := CD1.out x3 b3))
      go_wp2_with fail
      go_ret
      obtain ⟨m1, m2⟩ := MR.out _ b3
      exact ⟨rfl, AE.out _ m1, m2⟩
end Vd
end Go.Proofs.YtdaknlmnelfedaaGreatDoor
