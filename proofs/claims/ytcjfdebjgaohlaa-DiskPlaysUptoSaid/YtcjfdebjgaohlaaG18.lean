import Derived.Test.YtcjfdebjgaohlaaG16
import Derived.Test.YtcjfdebjgaohlaaG17
import Derived.Test.YtcjfdebjgaohlaaG07

/- The law's play: any call. -/
namespace Go.Proofs.Ytcjfdebjgaohlaa
open Go.RowKit Go.Maps Go.ChangeMaps Go.MapKept
namespace Zd
open Jb Jm Jd Jw Jx Jn Je Jf Jg Jh Jk Jc Jl Jo Jq J1 J2 J3 J4 Jr J6 J9 Ya Yb Yc Yd Ye Yf Yg Yh Yi Yj Yk Yl Ym Yn Yo Yp Yq Yr Ys Yt Yu Yv Yw

theorem play7 (w : World) (S T : Nat → Prop) (g h N : Nat) (V : Vw) (t : Dt) (q : Two w S T g h N V t) (kd n : Int) (hn : -9223372036854775808 ≤ n ∧ n ≤ 9223372036854775807) (nm tn : ByteArray) (v : Value) (bs : List Nat) (R : Nat → Prop) (hs : Src w R v bs) (hR : ∀ k, R k → ¬ S k ∧ ¬ T k ∧ k < w.heap.size) (hc : ∀ c, v = .slice none bs.length c → c = 0) (hby : ∀ x ∈ bs, x < 256)
    (hnm : nm.size ≤ 140737488355328) (htn : tn.size ≤ 140737488355328) (hlc : bs.length ≤ 140737488355328) (hb : t.L.length ≤ 999999999) (hbd : sumL t.L + bs.length ≤ 140737488355328) (hN : N ≤ 8796093022208) :
    Calls Try.prog 7 #[.pointer (some ⟨g, 0, none⟩), .pointer (some ⟨h, 0, none⟩), .agg #[.int .i64 kd, .int .i64 n, .string nm, .string tn, v]] w fun e w' => e = .returned (.bool true) ∧ Aft w S T g h (N + 1) V t 1 bs.length w' := by
  have up : ∀ w', Aft w S T g h (N + 1) V t 1 0 w' → Aft w S T g h (N + 1) V t 1 bs.length w' := fun w' e => Aft.mono e (Nat.le_refl _) (Nat.le_refl _) (Nat.zero_le _)
  by_cases hk : kd < 1 ∨ 9 < kd
  · exact (Za.play_none w S T g h N V t q kd n hk nm tn v).mono fun e w' k => ⟨k.1, up w' k.2⟩
  rcases (show kd = 1 ∨ kd = 2 ∨ kd = 3 ∨ kd = 4 ∨ kd = 5 ∨ kd = 6 ∨ kd = 7 ∨ kd = 8 ∨ kd = 9 by omega) with e | e | e | e | e | e | e | e | e <;> subst e
  · exact Zc.play_append w S T g h N V t q n nm tn v bs R hs hR hc hby hnm hb hbd hN
  · exact (play_sync w S T g h N V t q n nm tn v hnm hb).mono fun e w' k => ⟨k.1, up w' k.2⟩
  · exact (Yx.play_rename w S T g h N V t q n nm tn v hnm hb htn (by omega)).mono fun e w' k => ⟨k.1, up w' k.2⟩
  · exact (Yy.play_remove w S T g h N V t q n nm tn v hnm hb).mono fun e w' k => ⟨k.1, up w' k.2⟩
  · exact (Yz.play_cut w S T g h N V t q n nm tn v hnm hb (by omega)).mono fun e w' k => ⟨k.1, up w' k.2⟩
  · exact (Za.play_room w S T g h N V t q n hn nm tn v).mono fun e w' k => ⟨k.1, up w' k.2⟩
  · exact (Za.play_fuse w S T g h N V t q n hn nm tn v).mono fun e w' k => ⟨k.1, up w' k.2⟩
  · exact (Zb.play_restart w S T g h N V t q n nm tn v bs R hs hR hby hlc (by omega) (by omega) hN).mono fun e w' k => ⟨k.1, up w' k.2⟩
  · exact (Zb.play_read w S T g h N V t q n nm tn v hnm (by omega) (by omega)).mono fun e w' k => ⟨k.1, up w' k.2⟩
end Zd
end Go.Proofs.Ytcjfdebjgaohlaa

/- The law DiskPlays. -/
namespace Go.Proofs.Ytcjfdebjgaohlaa
open Go.RowKit Go.Maps Go.ChangeMaps Go.MapKept
namespace Ze
open Jb Jm Jd Jw Jx Jn Je Jf Jg Jh Jk Jc Jl Jo Jq J1 J2 J3 J4 Jr J6 J9 Ya Yb Yc Yd Ye Yf Yg Yh Yi Yj Yk Yl Ym Yn Yo Yp Yq Yr Ys Yt Yu Yv Yw Zd

/-- A call of the script. -/
structure Od where
  kd : Int
  n : Int
  nm : ByteArray
  tn : ByteArray
  v : Value
  bs : List Nat
def o0 : Od := ⟨0, 0, ⟨#[]⟩, ⟨#[]⟩, .slice none 0 0, []⟩
def OAt (w : World) (b o : Nat) (x : Od) : Prop :=
  w.cell? ⟨b, o, none⟩ = some (.int .i64 x.kd) ∧ w.cell? ⟨b, o + 1, none⟩ = some (.int .i64 x.n) ∧ w.cell? ⟨b, o + 2, none⟩ = some (.string x.nm) ∧ w.cell? ⟨b, o + 3, none⟩ = some (.string x.tn) ∧ w.cell? ⟨b, o + 4, none⟩ = some x.v
theorem OAt.move {w w' : World} {b o : Nat} {x : Od} (h : OAt w b o x) (hb : b < w.heap.size) (c : Below w.heap.size w w') : OAt w' b o x :=
  ⟨(c.cell (p := ⟨b, _, none⟩) hb).trans h.1, (c.cell (p := ⟨b, _, none⟩) hb).trans h.2.1, (c.cell (p := ⟨b, _, none⟩) hb).trans h.2.2.1, (c.cell (p := ⟨b, _, none⟩) hb).trans h.2.2.2.1, (c.cell (p := ⟨b, _, none⟩) hb).trans h.2.2.2.2⟩
/-- A call that came in. -/
def Fine (w : World) (x : Od) : Prop :=
  (-9223372036854775808 ≤ x.n ∧ x.n ≤ 9223372036854775807) ∧ x.nm.size ≤ 140737488355328 ∧ x.tn.size ≤ 140737488355328 ∧ Src w (fun k => k < w.heap.size) x.v x.bs ∧ (∀ c, x.v = .slice none x.bs.length c → c = 0) ∧ (∀ y ∈ x.bs, y < 256)
def tb (L : List Od) : Nat := (L.map fun x => x.bs.length).sum
theorem tb_take (L : List Od) (k : Nat) (hk : k < L.length) : tb (L.take (k + 1)) = tb (L.take k) + (L.getD k o0).bs.length := by
  unfold tb
  rw [List.take_succ_eq_append_getElem hk, List.map_append, List.sum_append]
  simp [List.getD_eq_getElem?_getD, hk]
theorem tb_le (L : List Od) (k : Nat) : tb (L.take k) ≤ tb L := by
  have : tb L = tb (L.take k) + tb (L.drop k) := by
    unfold tb
    rw [← List.sum_append, ← List.map_append, List.take_append_drop]
  omega
/-- Where the law stands behind k calls. -/
def Pos3 (w : World) (g h : Nat) (L : List Od) (k : Nat) (wr : World) : Prop :=
  ∃ S T V t, Two wr S T g h k V t ∧ t.L.length ≤ k ∧ sumL t.L ≤ tb (L.take k) ∧ Below w.heap.size w wr ∧ (∀ k, S k → w.heap.size ≤ k) ∧ (∀ k, T k → w.heap.size ≤ k)
theorem step3 {w : World} {g h : Nat} {L : List Od} {k : Nat} {wr : World} (hp : Pos3 w g h L k wr) (hk : k < L.length) (hL : L.length ≤ 999999999) (hb : tb L ≤ 140737488355328) (hf : Fine w (L.getD k o0)) :
    Calls Try.prog 7 #[.pointer (some ⟨g, 0, none⟩), .pointer (some ⟨h, 0, none⟩), .agg #[.int .i64 (L.getD k o0).kd, .int .i64 (L.getD k o0).n, .string (L.getD k o0).nm, .string (L.getD k o0).tn, (L.getD k o0).v]] wr fun e w1 => e = .returned (.bool true) ∧ w.heap.size ≤ w1.heap.size ∧ Below w.heap.size w w1 ∧
      Calls Try.prog 8 #[.pointer (some ⟨g, 0, none⟩), .pointer (some ⟨h, 0, none⟩)] w1 fun e w2 => e = .returned (.bool true) ∧ Pos3 w g h L (k + 1) w2 := by
  obtain ⟨S, T, V, t, q, h1, h2, b, hS, hT⟩ := hp
  obtain ⟨f1, f2, f3, f4, f5, f6⟩ := hf
  have e1 := tb_take L k hk
  have e2 := tb_le L (k + 1)
  refine (play7 wr S T g h k V t q _ _ f1 _ _ _ _ (fun k => k < w.heap.size) (f4.below b fun k hk => hk) (fun k hk => ⟨fun e => by have := hS k e; omega, fun e => by have := hT k e; omega, Nat.lt_of_lt_of_le hk b.size⟩) f5 f6 f2 f3 (by omega) (by omega) (by omega) (by omega)).mono ?_
  rintro e w1 ⟨rfl, S', T', V', t', q', l1, l2, c, n1, n2⟩
  have b1 : Below w.heap.size w w1 := b.trans ⟨c.os, c.tape, c.output, c.size, fun j hj => c.block j (Nat.lt_of_lt_of_le hj b.size) fun e => by
    rcases e with e | e
    · have := hS j e; omega
    · have := hT j e; omega⟩
  have s1 : ∀ k, S' k → w.heap.size ≤ k := fun j hj => by
    rcases n1 j hj with e | e
    · exact hS j e
    · have := b.size; omega
  have s2 : ∀ k, T' k → w.heap.size ≤ k := fun j hj => by
    rcases n2 j hj with e | e
    · exact hT j e
    · have := b.size; omega
  refine ⟨rfl, b1.size, b1, (same8 w1 S' T' g h (k + 1) V' t' q'.dv q'.wk q'.mt (by omega) (by omega) (by omega)).mono ?_⟩
  rintro e w2 ⟨rfl, b2⟩
  exact ⟨rfl, S', T', V', t', q'.below b2, by omega, by omega, b1.trans (b2.mono b1.size), s1, s2⟩
theorem start3 {w wa wb wc : World} {room : Int} {L : List Od} (b1 : Below w.heap.size w wa) (d : DV wb (fun k => wa.heap.size ≤ k ∧ k < wb.heap.size) wa.heap.size 0 (V0 room.toNat)) (b2 : Below wa.heap.size wa wb)
    (k : Wk wc (fun k => wb.heap.size ≤ k ∧ k < wc.heap.size) wb.heap.size (dt0 room.toNat)) (b3 : Below wb.heap.size wb wc) : Pos3 w wa.heap.size wb.heap.size L 0 wc := by
  have hb := b1.size
  have hb2 := b2.size
  refine ⟨_, _, _, _, ⟨d.below b3 (Nat.le_refl _), k, fun j h1 h2 => by omega, ⟨rfl, List.Pairwise.nil, rfl, rfl, rfl, fun e => (by cases e), rfl, fun e he => (by simp [dt0] at he)⟩⟩, Nat.zero_le _, Nat.zero_le _, b1.trans ((b2.trans (b3.mono hb2)).mono hb), fun j h1 => by omega, fun j h1 => by omega⟩
set_option maxRecDepth 100000
set_option maxHeartbeats 2000000 in
theorem plays3 (w : World) (room : Int) (hr : -9223372036854775808 ≤ room ∧ room ≤ 9223372036854775807) (b off c : Nat) (L : List Od) (hbw : b < w.heap.size) (hat : ∀ i, i < L.length → OAt w b (off + i * 5) (L.getD i o0)) (hc : L.length ≤ c) (hf : ∀ i, i < L.length → Fine w (L.getD i o0)) (hL : L.length ≤ 999999999) (hb : tb L ≤ 140737488355328) :
    Calls Try.prog 3 #[.int .i64 room, .slice (some ⟨b, off, none⟩) L.length c] w fun e w' => e = .returned (.bool true) ∧ Below w.heap.size w w' := by
  have _hc := hc
  clear _hc
  have AW := Lib.hid (awake8 w)
  have NP := Lib.hid (fun y => New_c y room hr)
  have ND := Lib.hid (fun y => newr10 y room hr)
  have ST := Lib.hid (fun (wa wb wc : World) => start3 (w := w) (wa := wa) (wb := wb) (wc := wc) (room := room) (L := L))
  obtain ⟨n, hn⟩ : ∃ n, n = L.length := ⟨_, rfl⟩
  have STEP := Lib.hid (fun g h k wr (hp : Pos3 w g h L k wr) (hk : k < n) => (show wr.cell? ⟨b, off + k * 5, none⟩ = some (.int .i64 (L.getD k o0).kd) ∧ wr.cell? ⟨b, off + k * 5 + 1, none⟩ = some (.int .i64 (L.getD k o0).n) ∧ wr.cell? ⟨b, off + k * 5 + 2, none⟩ = some (.string (L.getD k o0).nm) ∧ wr.cell? ⟨b, off + k * 5 + 3, none⟩ = some (.string (L.getD k o0).tn) ∧ wr.cell? ⟨b, off + k * 5 + 4, none⟩ = some (L.getD k o0).v ∧ (∃ va vl vc, (L.getD k o0).v = .slice va vl vc) ∧ _ from by
    have hk' : k < L.length := by omega
    obtain ⟨_, _, _, _, _, _, _, bb, _, _⟩ := id hp
    obtain ⟨x0, x1, x2, x3, x4⟩ := (hat k hk').move hbw bb
    refine ⟨x0, x1, x2, x3, x4, ?_, step3 hp hk' hL hb (hf k hk')⟩
    obtain ⟨a, c, e⟩ := (hf k hk').2.2.2.1.forms
    exact ⟨a, _, c, e⟩))
  rw [← hn] at hc hL ⊢
  have hn9 := hL
  clear hr hbw hat hf hL hb hn
  go_enter Try.func3, Try.ntmps3
  go_upto_region 4 with (first
    | (go_at_call 4; refine AW.out.mono ?_; rintro e wa ⟨rfl, ba⟩; have BA := Lib.hid ba; clear ba)
    | (go_at_call 5; refine (NP.out _).mono ?_; rintro e wb ⟨rfl, d, bb⟩; have DB := Lib.hid d; have BB := Lib.hid bb; clear d bb)
    | (go_at_call 6; refine (ND.out _).mono ?_; rintro e wc ⟨rfl, kk, bc⟩; have P0 := Lib.hid (ST.out _ _ _ BA.out DB.out BB.out kk bc); clear kk bc))
  obtain ⟨g, hg⟩ : ∃ g, g = wa.heap.size := ⟨_, rfl⟩
  obtain ⟨h, hh⟩ : ∃ h, h = wb.heap.size := ⟨_, rfl⟩
  rw [← hg, ← hh] at P0 ⊢
  clear hg hh
  go_wp2_with fail
  go_loopw [16] (fun i wr => ∃ k : Nat, k ≤ n ∧ i = .int .i64 (k : Nat) ∧ Pos3 w g h L k wr) (fun i _ => n - (intOf i).toNat)
  case atStart => exact ⟨0, Nat.zero_le _, rfl, P0.out⟩
  case round =>
    obtain ⟨k, hk, rfl, hp⟩ := hrel
    by_cases hkn : k < n
    · obtain ⟨x0, x1, x2, x3, x4, ⟨va, vl, vc, hv⟩, PL⟩ := STEP.out g h k wr hp hkn
      rw [hv] at x4 PL
      have PL := Lib.hid PL
      clear hv hp
      have hk0 : (0 : Int) ≤ (k : Int) := by omega
      go_wp2_with (first
        | (go_at_call 7; refine PL.out.mono ?_; rintro e w1 ⟨rfl, _, _, sm⟩; have SM := Lib.hid sm; clear sm)
        | (go_at_call 8; refine SM.out.mono ?_; rintro e w2 ⟨rfl, p2⟩; have P2 := Lib.hid p2; clear p2))
      go_roundw
      case rel => exact ⟨k + 1, by omega, by go_num, P2.out⟩
      case measure => simp [intOf]; omega
    · obtain ⟨_, _, _, _, _, _, _, bb, _, _⟩ := hp
      have BB2 := Lib.hid bb
      clear bb
      go_wp2_with fail
      go_ret
      exact ⟨rfl, BB2.out⟩
set_option maxHeartbeats 2000000 in
theorem plays_none (w : World) (room : Int) (hr : -9223372036854775808 ≤ room ∧ room ≤ 9223372036854775807) (a : Option Addr) (c : Nat) :
    Calls Try.prog 3 #[.int .i64 room, .slice a 0 c] w fun e w' => e = .returned (.bool true) ∧ Below w.heap.size w w' := by
  have AW := Lib.hid (awake8 w)
  have NP := Lib.hid (fun y => New_c y room hr)
  have ND := Lib.hid (fun y => newr10 y room hr)
  have ST := Lib.hid (fun (wa wb wc : World) => start3 (w := w) (wa := wa) (wb := wb) (wc := wc) (room := room) (L := []))
  clear hr
  go_enter Try.func3, Try.ntmps3
  go_upto_region 4 with (first
    | (go_at_call 4; refine AW.out.mono ?_; rintro e wa ⟨rfl, ba⟩; have BA := Lib.hid ba; clear ba)
    | (go_at_call 5; refine (NP.out _).mono ?_; rintro e wb ⟨rfl, d, bb⟩; have DB := Lib.hid d; have BB := Lib.hid bb; clear d bb)
    | (go_at_call 6; refine (ND.out _).mono ?_; rintro e wc ⟨rfl, kk, bc⟩; have P0 := Lib.hid (ST.out _ _ _ BA.out DB.out BB.out kk bc); clear kk bc))
  go_wp2_with fail
  refine wp_loop_rounds 1 ?_
  rw [rounds_succ]
  obtain ⟨_, _, _, _, _, _, _, bb, _, _⟩ := P0.out
  have BB2 := Lib.hid bb
  clear bb
  go_wp2_with fail
  go_ret
  exact ⟨rfl, BB2.out⟩
end Ze
end Go.Proofs.Ytcjfdebjgaohlaa

/- Arguments of small bulk. -/
namespace Go.Proofs.Ytcjfdebjgaohlaa
open Go.RowKit
namespace Ju2
theorem one_le {H : Type} (d : DataW H) : 1 ≤ Rows.uptoBulk d := by
  cases d with
  | lit l => cases l <;> simp [Rows.uptoBulk]
  | nil => simp [Rows.uptoBulk]
  | ptr d => simp [Rows.uptoBulk]
  | slice elems spare => simp [Rows.uptoBulk]
  | agg parts => simp [Rows.uptoBulk]
  | iface t d => simp [Rows.uptoBulk]
  | map entries => simp [Rows.uptoBulk]
  | held h => simp [Rows.uptoBulk]
theorem length_le {H : Type} (l : List (DataW H)) : l.length ≤ Rows.uptoBulkAll l := by
  induction l with
  | nil => simp [Rows.uptoBulkAll]
  | cons x r ih => have := one_le x; simp only [Rows.uptoBulkAll, List.length_cons]; omega
theorem bulk_mem {H : Type} {l : List (DataW H)} {d : DataW H} (h : d ∈ l) : Rows.uptoBulk d ≤ Rows.uptoBulkAll l := by
  induction l with
  | nil => cases h
  | cons x r ih =>
    simp only [Rows.uptoBulkAll]
    rcases List.mem_cons.1 h with rfl | h
    · omega
    · have := ih h; omega
theorem short_of {H : Type} {ds : List (DataW H)} {l m : List (DataW H)} (hm : DataW.slice l m ∈ ds) (hk : Rows.uptoSmall H ds = true) : l.length ≤ 1048576 := by
  have h : Rows.uptoBulkAll ds ≤ 1048576 := of_decide_eq_true hk
  have h1 := bulk_mem hm
  have h2 := length_le l
  simp only [Rows.uptoBulk] at h1
  omega
theorem short_str {H : Type} {ds : List (DataW H)} {s : ByteArray} (hm : (DataW.lit (.string s.data.toList) : DataW H) ∈ ds) (hk : Rows.uptoSmall H ds = true) : s.size ≤ 1048576 := by
  have h : Rows.uptoBulkAll ds ≤ 1048576 := of_decide_eq_true hk
  have h1 := bulk_mem hm
  simp only [Rows.uptoBulk, Array.length_toList] at h1
  have e : s.size = s.data.size := rfl
  omega
end Ju2
end Go.Proofs.Ytcjfdebjgaohlaa
