/- The law DiskNil: its walk. -/
import Derived.Test.YthejolhpoakheaaJu
namespace Go.Proofs.Ythejolhpoakheaa
open Go.RowKit Go.Maps Go.ChangeMaps Go.MapKept
namespace Jv
open Jb Jm Jd Jw Jx Jn Je Jf Jg Jh Jk Jc Jl Jo Jq Jt Ju

theorem rebase {w : World} {B B' n : Nat} {v : Value} {xs : List Value} (h : w.ownsRow B 5 1 v n xs) (hk : ∀ k, v.ownBlock = some k → B' ≤ k) : w.ownsRow B' 5 1 v n xs := by
  obtain ⟨a, ⟨b, e⟩ | ⟨g, c, cur, rfl, hg, r⟩⟩ := h
  · exact ⟨a, .inl ⟨b, e⟩⟩
  · exact ⟨a, .inr ⟨g, c, cur, rfl, hk g rfl, r⟩⟩
theorem Buf.form {w : World} {B n c : Nat} {a : Option Addr} (h : Buf w B n (.slice a n c)) (hn : 0 < n) : ∃ q, a = some ⟨q, 0, none⟩ ∧ B ≤ q ∧ q < w.heap.size := by
  obtain ⟨ys, hl, hb, ho⟩ := h
  obtain ⟨_, ⟨e, e0⟩ | ⟨g, c', cur, e, hg, hh, _⟩⟩ := ho
  · omega
  · cases e; exact ⟨g, rfl, hg, (Array.getElem?_eq_some_iff.1 hh).1⟩
theorem Buf.move {w w' : World} {B n : Nat} {v : Value} (h : Buf w B n v) (e : ∀ k, v.ownBlock = some k → w'.heap[k]? = w.heap[k]?) : Buf w' B n v := by
  obtain ⟨ys, hl, hb, ho⟩ := h
  exact ⟨ys, hl, hb, own_of_block ho e⟩
theorem Buf.lt {w : World} {B n k : Nat} {v : Value} (h : Buf w B n v) (hk : v.ownBlock = some k) : B ≤ k ∧ k < w.heap.size := by
  obtain ⟨ys, hl, hb, ho⟩ := h
  exact own_lt ho hk
/-- What was appended to a new disk with just the room for it. -/
def VA (bs : List Nat) : Vw := appV (V0 bs.length) sa bs
theorem VA_F (bs : List Nat) : (VA bs).F sa = some (bs, 0) := by
  have e : (V0 bs.length).lost = false := rfl
  unfold VA appV
  rw [if_neg (by simp [V0]), if_pos nm_sa, if_neg (by rw [e]; simp)]
  simp [old, V0, Vw.free]
theorem VA_down (bs : List Nat) : (VA bs).down = false := by
  have e : (V0 bs.length).lost = false := rfl
  unfold VA appV
  rw [if_neg (by simp [V0]), if_pos nm_sa, if_neg (by rw [e]; simp)]
  rfl
set_option maxRecDepth 100000 in
set_option maxHeartbeats 2000000 in
theorem nil6 (w : World) (s : ByteArray) (_ : s.size ≤ 140737488351232) (v : Value) (bs : List Nat) (hv : Src w (fun k => k < w.heap.size) v bs) (hcap : ∀ c, v = .slice none bs.length c → c = 0) (hby : ∀ x ∈ bs, x < 256) (hl : bs.length ≤ 140737488351232) :
    Calls Try.prog 6 #[.string s, v] w fun e w' => e = .returned (.bool true) ∧ Below w.heap.size w w' := by
  obtain ⟨ad, c, hvf⟩ := hv.forms
  have AW := Lib.hid (awake8 w)
  have NEW : Hid (∀ w1, Calls Try.prog 9 #[.int .i64 (bs.length : Nat)] w1 fun e w' => e = .returned (.pointer (some ⟨w1.heap.size, 0, none⟩)) ∧ DV w' (fun k => w1.heap.size ≤ k ∧ k < w'.heap.size) w1.heap.size 0 (V0 bs.length) ∧ Below w1.heap.size w1 w') := Lib.hid fun w1 => by
    have := New_c w1 (bs.length : Nat) (by omega)
    rwa [Int.toNat_natCast] at this
  have HV := Lib.hid hv
  have RUN : Hid (∀ w2, Below w.heap.size w w2 → ∀ ty, ∃ v' w', (Builtin.append_ #[29, 29] ty #[.slice (some ⟨w2.heap.size, 0, none⟩) 0 0, .slice ad bs.length c]).run Try.prog (w2.alloc (.cells #[] 5)) = .ok v' w' ∧ (w'.ownsRow w2.heap.size 5 1 v' bs.length (u8s bs) ∧ Below w2.heap.size w2 w')) := Lib.hid fun w2 b2 ty => by
    have hb := b2.size
    have hsrc : Src (w2.alloc (.cells #[] 5)) (fun k => k < w.heap.size) (.slice ad bs.length c) bs := by
      rw [← hvf]
      exact hv.below (b2.alloc hb (.cells #[] 5)) (fun k hk => hk)
    have ow := World.ownsRow_made (e := 5) (size := 1) w2 #[] 0 (Nat.le_refl _) (Nat.zero_le _) rfl
    obtain ⟨v', w', hrun, r1, r2, r3⟩ := run_append (w2.alloc (.cells #[] 5)) _ [] (own_base ow (Nat.zero_le _)) _ ad c bs hsrc bs.length (Nat.le_refl _) (fun e => hcap c (by rw [hvf, e])) (by simp; omega) ty
    refine ⟨v', w', hrun, ?_, ?_⟩
    · have := rebase r1 (B' := w2.heap.size) (fun k hk => by
        rcases r3 with e | e
        · rw [e] at hk; cases hk; exact Nat.le_refl _
        · rw [e] at hk; injection hk with hk; simp at hk; omega)
      simpa using this
    · exact ((Below.refl _ w2).alloc (Nat.le_refl _) _).grown r2 (by simp) (fun k hk => by simp [Value.ownBlock] at hk; omega)
  have APP : Hid (∀ w1 w2 w3 vi, Below w1.heap.size w1 w2 → DV w2 (fun k => w1.heap.size ≤ k ∧ k < w2.heap.size) w1.heap.size 0 (V0 bs.length) → w3.ownsRow w2.heap.size 5 1 vi bs.length (u8s bs) → Below w2.heap.size w2 w3 →
      Calls Try.prog 13 #[.pointer (some ⟨w1.heap.size, 0, none⟩), .string { data := #[97] }, vi] w3 fun e w' => e = .returned (.tuple #[.int .i64 (appN (V0 bs.length) sa bs.length : Nat), .int .i64 (appE (V0 bs.length) sa bs.length : Nat)]) ∧
        ∃ S, DV w' S w1.heap.size 1 (VA bs) ∧ Below w1.heap.size w1 w' ∧ Buf w' w2.heap.size bs.length vi ∧ (∀ k, vi.ownBlock = some k → ¬ S k) ∧ ∀ k, S k → w1.heap.size ≤ k) := Lib.hid fun w1 w2 w3 vi b2 k2 o3 b3 => by
    have h1 := b2.size
    have h2 := b3.size
    have hcp : ∀ c, vi = .slice none bs.length c → c = 0 := by
      rintro c' rfl
      obtain ⟨_, ⟨e, _⟩ | ⟨g, cc, cur, e, _⟩⟩ := o3
      · injection e with _ _ e3
      · injection e with e1; cases e1
    refine (Append_c w3 _ w1.heap.size 0 (V0 bs.length) (k2.below b3 (Nat.le_refl _)) sa (by decide) _ (fun k hk e => by have := hk.1; omega) vi bs (src_own o3) hcp hby (by omega) (by simp [old, V0]; omega) (by simp [V0]; omega)).mono ?_
    rintro e w' ⟨rfl, k3, k4⟩
    have hk4 : ∀ k, vi.ownBlock = some k → w'.heap[k]? = w3.heap[k]? := fun k hk => k4.block k (own_lt o3 hk).2 (fun e => by have := (own_lt o3 hk).1; omega)
    refine ⟨rfl, _, k3, ?_, ⟨bs, rfl, hby, own_of_block o3 hk4⟩, fun k hk e => ?_, fun k hk => ?_⟩
    · exact (b2.trans (b3.mono h1)).trans (k4.below (fun k hk _ => hk.1) (by omega))
    · have := own_lt o3 hk
      rcases e with e | e <;> omega
    · rcases hk with e | e <;> omega
  have READ : Hid (∀ wr g S, DV wr S g 1 (VA bs) → Calls Try.prog 16 #[.pointer (some ⟨g, 0, none⟩), .string { data := #[97] }] wr fun e w' => ∃ vx, e = .returned (.tuple #[vx, .int .i64 0]) ∧ w'.ownsRow wr.heap.size 5 1 vx bs.length (u8s bs) ∧ Below wr.heap.size wr w') := Lib.hid fun wr g S k =>
    Read_c wr S g 1 (VA bs) k sa (by decide) bs 0 (VA_down bs) (VA_F bs) (by omega)
  have SRC : Hid (∀ w', Below w.heap.size w w' → (convert 29 9 (.slice ad bs.length c)).run Try.prog w' = .ok (.string (str bs)) w') := Lib.hid fun w' b => by
    rw [← hvf]
    exact conv_src (hv.below b (fun k hk => hk))
  have CON : Hid (∀ (w' : World) (B : Nat) (vy : Value), w'.ownsRow B 5 1 vy bs.length (u8s bs) → (convert 29 9 vy).run Try.prog w' = .ok (.string (str bs)) w') := Lib.hid fun w' B vy o => conv_own o
  have OWB : Hid (∀ (w' : World) (B : Nat) (vy : Value), w'.ownsRow B 5 1 vy bs.length (u8s bs) → Buf w' B bs.length vy) := Lib.hid fun w' B vy o => ⟨bs, rfl, hby, o⟩
  rw [hvf]
  obtain ⟨n, hn⟩ : ∃ n, n = bs.length := ⟨_, rfl⟩
  obtain ⟨T, hT⟩ : ∃ T, T = str bs := ⟨_, rfl⟩
  rw [← hn] at NEW RUN APP READ SRC CON OWB hl ⊢
  rw [← hT] at SRC CON
  obtain ⟨U, hU⟩ : ∃ U, U = u8s bs := ⟨_, rfl⟩
  obtain ⟨VV, hVV⟩ : ∃ VV, VV = VA bs := ⟨_, rfl⟩
  rw [← hU] at RUN APP READ CON OWB
  rw [← hVV] at APP READ
  have HL := Lib.hid hl
  clear hv hvf hcap hby hn hT hU hVV HV
  go_enter Try.func6, Try.ntmps6
  go_wp2_with (first
    | (go_at_call 8; refine (AW.out).mono ?_; rintro e w1 ⟨rfl, b1⟩; have B1 := Lib.hid b1; clear b1)
    | (go_at_call 20; refine (setRoom20_nil _ _).mono ?_; rintro e w1 ⟨rfl, rfl⟩)
    | (go_at_call 21; refine (setFuse21_nil _ _).mono ?_; rintro e w1 ⟨rfl, rfl⟩)
    | (go_at_call 15; refine (restart_nil _ _).mono ?_; rintro e w1 ⟨rfl, rfl⟩))
  go_at_call 13
  refine (append_nil _ _ _).mono ?_
  rintro e w1 ⟨rfl, rfl⟩
  go_wp2_with fail
  go_at_call 16
  refine (read_nil _ _).mono ?_
  rintro e w1 ⟨rfl, rfl⟩
  go_wp2_with fail
  go_at_call 9
  refine (NEW.out w1).mono ?_
  rintro e w2 ⟨rfl, k2, b2⟩
  have K2 := Lib.hid k2
  have B2 := Lib.hid b2
  have B02 := Lib.hid (B1.out.trans (b2.mono B1.out.size))
  clear k2 b2
  go_wp2_with (at_builtin; refine wpList_app rfl _ _ rfl _ _ rfl rfl (fun v' w' => w'.ownsRow w2.heap.size 5 1 v' n U ∧ Below w2.heap.size w2 w') (RUN.out w2 B02.out) ?_; intro vi w3 hR; have R3 := Lib.hid hR; clear hR)
  go_at_call 13
  refine (APP.out w1 w2 w3 vi B2.out K2.out R3.out.1 R3.out.2).mono ?_
  rintro e w4 ⟨rfl, S4, k4⟩
  have K4 := Lib.hid k4
  obtain ⟨ai, ci, hvi⟩ := own_forms R3.out.1
  subst hvi
  clear k4
  go_wp2_with fail
  go_loopw [12, 51] (fun _ i wr => ∃ k, k ≤ n ∧ i = .int .i64 (k : Nat) ∧ Buf wr w2.heap.size n (.slice ai n ci) ∧ Chg w4 wr (fun b => (Value.slice ai n ci).ownBlock = some b)) (fun _ i _ => n - (intOf i).toNat)
  case atStart => exact ⟨0, Nat.zero_le _, rfl, K4.out.2.2.1, Chg.refl _ _⟩
  case round =>
    obtain ⟨k, hk, rfl, hbuf, hchg⟩ := hrel
    have HBUF := Lib.hid hbuf
    have HCHG := Lib.hid hchg
    clear hbuf hchg
    by_cases hkn : k < n
    · obtain ⟨q, hq, hq1, hq2⟩ := Buf.form HBUF.out (by omega)
      obtain ⟨y, hy, cy, zy, hst⟩ := (hq ▸ HBUF.out : Buf wr w2.heap.size n (.slice (some ⟨q, 0, none⟩) n ci)).step hkn
      have HST := Lib.hid hst
      have HQ := Lib.hid hq
      clear hst hq1 hq2 hq
      have hwy : IntKind.u8.wrap ((y : Int) + 1) = (((y + 1) % 256 : Nat) : Int) := by rw [IntKind.wrap_u8]; omega
      rw [HQ.out]
      go_wp2_with fail
      go_roundw
      case rel =>
        refine ⟨k + 1, by omega, by go_num, ?_, ?_⟩
        · have e := HST.out ((y + 1) % 256) (Nat.mod_lt _ (by decide))
          rwa [show (((y + 1) % 256 : Nat) : Int) = ((y : Int) + 1) % 256 by omega] at e
        · have e : Chg w4 wr (fun b => (Value.slice (some ⟨q, 0, none⟩) n ci).ownBlock = some b) := HQ.out ▸ HCHG.out
          exact e.setCell rfl _
      case measure => simp [intOf]; omega
    · have ek : n = k := by omega
      subst ek
      have K5 := Lib.hid (K4.out.1.move HCHG.out.size (fun k hk hl => HCHG.out.block k hl (fun e => K4.out.2.2.2.1 k e hk)))
      have B4 := Lib.hid (B1.out.trans (K4.out.2.1.mono B1.out.size))
      have B5 := Lib.hid (B4.out.trans (HCHG.out.below (B := w.heap.size) (fun k hk _ => by have := Buf.lt K4.out.2.2.1 hk; have := B02.out.size; omega) B4.out.size))
      obtain ⟨w5, hw5⟩ : ∃ w5, w5 = wr := ⟨_, rfl⟩
      rw [← hw5] at K5 B5 ⊢
      clear HBUF HCHG hw5 hkn hk
      go_wp2_with fail
      go_at_call 16
      refine (READ.out w5 w1.heap.size S4 K5.out).mono ?_
      rintro e w6 ⟨vx, rfl, ox, bx⟩
      obtain ⟨ax, cx, hvx⟩ := own_forms ox
      subst hvx
      have BX := Lib.hid (OWB.out _ _ _ ox)
      have K6 := Lib.hid (K5.out.below bx (Nat.le_refl _))
      have B6 := Lib.hid (B5.out.trans (bx.mono B5.out.size))
      have LT5 := Lib.hid (fun k (hk : S4 k) => K5.out.lt hk)
      clear ox bx
      go_wp2_with fail
      go_loopw [15, 68] (fun _ i wr => ∃ k, k ≤ n ∧ i = .int .i64 (k : Nat) ∧ Buf wr w5.heap.size n (.slice ax n cx) ∧ Chg w6 wr (fun b => (Value.slice ax n cx).ownBlock = some b)) (fun _ i _ => n - (intOf i).toNat)
      case atStart => exact ⟨0, Nat.zero_le _, rfl, BX.out, Chg.refl _ _⟩
      case round =>
        obtain ⟨k, hk, rfl, hbuf, hchg⟩ := hrel
        have HBUF2 := Lib.hid hbuf
        have HCHG2 := Lib.hid hchg
        clear hbuf hchg
        by_cases hkn : k < n
        · obtain ⟨q, hq, hq1, hq2⟩ := Buf.form HBUF2.out (by omega)
          obtain ⟨y, hy, cy, zy, hst⟩ := (hq ▸ HBUF2.out : Buf wr w5.heap.size n (.slice (some ⟨q, 0, none⟩) n cx)).step hkn
          have HST := Lib.hid hst
          have HQ := Lib.hid hq
          clear hst hq1 hq2 hq
          have hwy : IntKind.u8.wrap ((y : Int) + 1) = (((y + 1) % 256 : Nat) : Int) := by rw [IntKind.wrap_u8]; omega
          rw [HQ.out]
          go_wp2_with fail
          go_roundw
          case rel =>
            refine ⟨k + 1, by omega, by go_num, ?_, ?_⟩
            · have e := HST.out ((y + 1) % 256) (Nat.mod_lt _ (by decide))
              rwa [show (((y + 1) % 256 : Nat) : Int) = ((y : Int) + 1) % 256 by omega] at e
            · have e : Chg w6 wr (fun b => (Value.slice (some ⟨q, 0, none⟩) n cx).ownBlock = some b) := HQ.out ▸ HCHG2.out
              exact e.setCell rfl _
          case measure => simp [intOf]; omega
        · have ek : n = k := by omega
          subst ek
          have K7 := Lib.hid (K6.out.move HCHG2.out.size (fun k hk hl => HCHG2.out.block k hl (fun e => by have := Buf.lt BX.out e; have := LT5.out k hk; omega)))
          have B7 := Lib.hid (B6.out.trans (HCHG2.out.below (B := w.heap.size) (fun k hk _ => by have := Buf.lt BX.out hk; have := B5.out.size; omega) B6.out.size))
          obtain ⟨w7, hw7⟩ : ∃ w7, w7 = wr := ⟨_, rfl⟩
          rw [← hw7] at K7 B7 ⊢
          clear HBUF2 HCHG2 hw7 hkn hk
          go_wp2_with fail
          go_at_call 16
          refine (READ.out w7 w1.heap.size S4 K7.out).mono ?_
          rintro e w8 ⟨vy, rfl, oy, bz⟩
          have B8 := Lib.hid (B7.out.trans (bz.mono B7.out.size))
          have cy := CON.out w8 _ vy oy
          have cb := SRC.out w8 B8.out
          obtain ⟨ay, cyy, hvy⟩ := own_forms oy
          subst hvy
          clear oy bz
          go_wp2_with (first
            | (go_at_call 14; refine (sync_nil _ _).mono ?_; rintro e w8 ⟨rfl, rfl⟩)
            | (go_at_call 22; refine (rename_nil _ _ _).mono ?_; rintro e w8 ⟨rfl, rfl⟩)
            | (go_at_call 23; refine (remove_nil _ _).mono ?_; rintro e w8 ⟨rfl, rfl⟩)
            | (go_at_call 18; refine (cut_nil _ _ _).mono ?_; rintro e w8 ⟨rfl, rfl⟩)
            | (go_at_call 24; refine (down24_nil _).mono ?_; rintro e w8 ⟨rfl, rfl⟩)
            | (go_at_call 19; refine (used19_nil _).mono ?_; rintro e w8 ⟨rfl, rfl⟩)
            | (go_at_call 25; refine (list_nil _).mono ?_; rintro e w8 ⟨rfl, rfl⟩))
          go_ret
          exact ⟨rfl, B8.out⟩
end Jv
end Go.Proofs.Ythejolhpoakheaa
