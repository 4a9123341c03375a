/- The law DiskFuses. -/
import Derived.Test.YthejolhpoakheaaJ4
import Derived.Test.YthejolhpoakheaaJt
namespace Go.Proofs.Ythejolhpoakheaa
open Go.RowKit Go.Maps Go.ChangeMaps Go.MapKept
namespace J5
open Jb Jm Jd Jw Jx Jn Je Jf Jg Jh Jk Jc Jl Jo Jq J1 J2 J3 J4 Jt

def sn : ByteArray := ⟨#[110, 111, 32, 115, 117, 99, 104, 32, 102, 105, 108, 101]⟩
def VS (n i : Nat) (bs : List Nat) : Vw := if i ≤ n then VX n i bs false else VX n n bs true
def oS (n i : Nat) (bs : List Nat) : Option (List Nat × Nat) := if min i n = 0 then none else some ((List.replicate (min i n) bs).flatten, 0)
theorem VS_F (n i : Nat) (bs : List Nat) : (VS n i bs).F = F1 (oS n i bs) := by
  unfold VS oS
  split
  · rename_i h
    rw [Nat.min_eq_left h]; rfl
  · rename_i h
    rw [Nat.min_eq_right (by omega)]; rfl
theorem VS_step {n : Nat} {bs : List Nat} (hn : n ≤ 255) (hl : bs.length ≤ 100) (i : Nat) : appV (VS n i bs) sa bs = VS n (i + 1) bs ∧ appE (VS n i bs) sa bs.length = (if i < n then 0 else 8) ∧ (VS n (i + 1) bs).down = decide (n ≤ i) := by
  unfold VS
  by_cases h : i < n
  · have a := VX_step hn h hl
    rw [if_pos (by omega), if_pos (by omega), if_pos h, a.1, a.2]
    exact ⟨rfl, rfl, (decide_eq_false (by omega)).symm⟩
  · by_cases e : i = n
    · subst e
      have a := VX_end (n := i) (bs := bs)
      rw [if_pos (Nat.le_refl _), if_neg (by omega), if_neg h, a.1, a.2]
      exact ⟨rfl, rfl, (decide_eq_true (by omega)).symm⟩
    · have a := VX_down (n := n) (i := n) (bs := bs) (s := sa) (cs := bs)
      rw [if_neg (by omega), if_neg (by omega), if_neg h, a.1, a.2]
      exact ⟨rfl, rfl, (decide_eq_true (by omega)).symm⟩
theorem VS_old {n : Nat} {bs : List Nat} (hn : n ≤ 255) (hl : bs.length ≤ 100) (i : Nat) : (old (VS n i bs) sa).1.length ≤ 25500 ∧ (VS n i bs).used ≤ 25500 := by
  unfold VS
  split
  · rename_i h
    have := VX_free hn h hl false
    rw [VX_old, cont_len]
    exact ⟨this.2, this.2⟩
  · have := VX_free hn (Nat.le_refl n) hl true
    rw [VX_old, cont_len]
    exact ⟨this.2, this.2⟩
theorem VS_tot (n i : Nat) (bs : List Nat) : (VS n i bs).used = tot (VS n i bs).F (ns1 (oS n i bs)) := by
  unfold VS oS
  split
  · rename_i h
    rw [Nat.min_eq_left h]; exact VX_tot n i bs false
  · rename_i h
    rw [Nat.min_eq_right (by omega)]; exact VX_tot n n bs true
theorem VS_end {n : Nat} {bs : List Nat} : (VS n (n + 3) bs).down = true := by unfold VS; rw [if_neg (by omega)]; rfl
/-- Behind the restart. -/
def VE (n : Nat) (bs : List Nat) : Vw := rsV (VS n (n + 3) bs) (rs ⟨(VS n (n + 3) bs).F, (VS n (n + 3) bs).used, []⟩ (ns1 (oS n (n + 3) bs)))
theorem VE_room (n : Nat) (bs : List Nat) : (VE n bs).room = 1048576 := by
  show (VS n (n + 3) bs).room = _
  unfold VS; rw [if_neg (by omega)]; rfl
theorem VE_used {n : Nat} {bs : List Nat} (hn : n ≤ 255) (hl : bs.length ≤ 100) : (VE n bs).used ≤ 25500 := Nat.le_trans (rs_used_le _ _) (VS_old hn hl (n + 3)).2
theorem VE_old {n : Nat} {bs : List Nat} (hn : n ≤ 255) (hl : bs.length ≤ 100) : (old (VE n bs) sa).1.length ≤ 25500 := by
  have hinv : Inv (VS n (n + 3) bs).F (ns1 (oS n (n + 3) bs)) ⟨(VS n (n + 3) bs).F, (VS n (n + 3) bs).used, []⟩ := ⟨VS_tot n (n + 3) bs, fun s => Iff.rfl, fun s b hb => by
    dsimp only at hb
    rw [VS_F] at hb
    unfold F1 at hb
    split at hb
    · unfold oS at hb
      split at hb
      · cases hb
      · cases hb; exact Nat.zero_le _
    · cases hb⟩
  have nms : Names (VS n (n + 3) bs).F (ns1 (oS n (n + 3) bs)) := by rw [VS_F]; exact names1 _
  have h1 := inv_rs nms.nodup hinv (ns1 (oS n (n + 3) bs)).length (Nat.le_refl _)
  rw [List.take_length] at h1
  obtain ⟨a1, a2, _⟩ := h1
  have hu := VE_used hn hl
  unfold VE rsV at hu
  dsimp only at hu
  unfold old
  cases hf : (VE n bs).F sa with
  | none => simp
  | some b =>
    have hF : (rs ⟨(VS n (n + 3) bs).F, (VS n (n + 3) bs).used, []⟩ (ns1 (oS n (n + 3) bs))).F sa = some b := hf
    have hmem : [97] ∈ ns1 (oS n (n + 3) bs) := by
      rw [nms.2 [97], nm97]
      intro e
      rw [(a2 sa).2 e] at hF
      cases hF
    have := le_tot (F := (rs ⟨(VS n (n + 3) bs).F, (VS n (n + 3) bs).used, []⟩ (ns1 (oS n (n + 3) bs))).F) hmem
    rw [← a1] at this
    have e : lenAt (rs ⟨(VS n (n + 3) bs).F, (VS n (n + 3) bs).used, []⟩ (ns1 (oS n (n + 3) bs))).F [97] = b.1.length := by unfold lenAt; rw [nm97, hF]; rfl
    rw [e] at this
    simp
    omega
theorem VE_app {n : Nat} {bs : List Nat} (hn : n ≤ 255) (hl : bs.length ≤ 100) : appE (VE n bs) sa bs.length = 0 ∧ (appV (VE n bs) sa bs).down = false := by
  have h1 : (VE n bs).lost = false := rfl
  have h2 : ¬ Vw.free (VE n bs) < bs.length := by
    have := VE_used hn hl
    unfold Vw.free
    rw [VE_room]
    omega
  constructor
  · unfold appE
    rw [if_neg (by show ¬ false = true; simp), if_pos nm_sa, if_neg (by rw [h1]; simp), if_neg h2]
  · unfold appV
    rw [if_neg (by show ¬ false = true; simp), if_pos nm_sa, if_neg (by rw [h1]; simp)]
    show (VE n bs).op.down = false
    unfold Vw.op
    rw [h1]
    rfl
/-- The contracts that the law's walk asks. -/
structure Kit (w : World) (gd n : Nat) (v : Value) (bs : List Nat) : Prop where
  list : ∀ wr S N i, DV wr S gd N (VS n i bs) → N ≤ 1000 → Calls Try.prog 25 #[.pointer (some ⟨gd, 0, none⟩)] wr fun e w' => (∃ v, e = .returned v) ∧ Below wr.heap.size wr w'
  read : ∀ wr S N i, DV wr S gd N (VS n i bs) → Calls Try.prog 16 #[.pointer (some ⟨gd, 0, none⟩), .string { data := #[97] }] wr fun e w' => (∃ v, e = .returned (.tuple #[v, .int .i64 (finE (VS n i bs) sa : Nat)])) ∧ Below wr.heap.size wr w'
  sync : ∀ wr S N i, DV wr S gd N (VS n i bs) → Calls Try.prog 14 #[.pointer (some ⟨gd, 0, none⟩), .string { data := #[110, 111, 32, 115, 117, 99, 104, 32, 102, 105, 108, 101] }] wr fun e w' => (∃ v, e = .returned v) ∧ w' = wr
  app0 : ∀ wr S N i, Below w.heap.size w wr → DV wr S gd N (VS n i bs) → (∀ k, S k → w.heap.size ≤ k) → N ≤ 1000 → Calls Try.prog 13 #[.pointer (some ⟨gd, 0, none⟩), .string { data := #[] }, v] wr fun e w' => (∃ v, e = .returned v) ∧ ∃ S', DV w' S' gd (N + 1) (VS n i bs) ∧ (∀ k, S' k → w.heap.size ≤ k) ∧ Below w.heap.size w w'
  app : ∀ wr S N i, Below w.heap.size w wr → DV wr S gd N (VS n i bs) → (∀ k, S k → w.heap.size ≤ k) → N ≤ 1000 → Calls Try.prog 13 #[.pointer (some ⟨gd, 0, none⟩), .string { data := #[97] }, v] wr fun e w' => (∃ m : Nat, e = .returned (.tuple #[.int .i64 (m : Nat), .int .i64 (if i < n then 0 else 8 : Nat)])) ∧ ∃ S', DV w' S' gd (N + 1) (VS n (i + 1) bs) ∧ (∀ k, S' k → w.heap.size ≤ k) ∧ Below w.heap.size w w'
  down : ∀ wr S N i, DV wr S gd N (VS n (i + 1) bs) → Calls Try.prog 24 #[.pointer (some ⟨gd, 0, none⟩)] wr fun e w' => e = .returned (.bool (decide (n ≤ i))) ∧ w' = wr
  rest : ∀ wr S N, Below w.heap.size w wr → DV wr S gd N (VS n (n + 3) bs) → (∀ k, S k → w.heap.size ≤ k) → N ≤ 1000 → Calls Try.prog 15 #[.pointer (some ⟨gd, 0, none⟩), .slice none 0 0] wr fun e w' => e = .returned (.tuple #[]) ∧ ∃ S', DV w' S' gd N (VE n bs) ∧ (∀ k, S' k → w.heap.size ≤ k) ∧ Below w.heap.size w w'
  appE : ∀ wr S N, Below w.heap.size w wr → DV wr S gd N (VE n bs) → (∀ k, S k → w.heap.size ≤ k) → N ≤ 1000 → Calls Try.prog 13 #[.pointer (some ⟨gd, 0, none⟩), .string { data := #[97] }, v] wr fun e w' => (∃ m : Nat, e = .returned (.tuple #[.int .i64 (m : Nat), .int .i64 0])) ∧ (∃ S' V, DV w' S' gd (N + 1) V ∧ V.down = false) ∧ Below w.heap.size w w'
theorem kit (w : World) (gd n : Nat) (v : Value) (bs : List Nat) (hn : n ≤ 255) (hl : bs.length ≤ 100) (hv : Src w (fun k => k < w.heap.size) v bs) (hcap : ∀ c, v = .slice none bs.length c → c = 0) (hby : ∀ x ∈ bs, x < 256) : Kit w gd n v bs := by
  have nms : ∀ i, Names (VS n i bs).F (ns1 (oS n i bs)) := fun i => by rw [VS_F]; exact names1 _
  have srcR : ∀ wr, Below w.heap.size w wr → Src wr (fun k => k < w.heap.size) v bs := fun wr b => hv.below b (fun k hk => hk)
  have grow : ∀ (wr w' : World) (S : Nat → Prop), Below w.heap.size w wr → (∀ k, S k → w.heap.size ≤ k) → Chg wr w' S → (∀ k, New S wr w' k → w.heap.size ≤ k) ∧ Below w.heap.size w w' := fun wr w' S b hS c => by
    have := b.size
    exact ⟨fun k hk => hk.elim (hS k) (fun e => by omega), b.trans (c.below (fun k hk _ => hS k hk) (by omega))⟩
  constructor
  · intro wr S N i h hN
    exact List_any wr S gd N _ h (by omega) _ (nms i)
  · intro wr S N i h
    refine Read_any wr S gd N _ h sa (by decide) (fun b hb => ?_)
    have h1 := (VS_old hn hl i).1
    unfold old at h1
    rw [hb] at h1
    simp at h1
    omega
  · intro wr S N i h
    have hE : finE (VS n i bs) sn ≠ 0 := by
      have : (VS n i bs).F sn = none := by rw [VS_F]; unfold F1; rw [if_neg (by decide)]
      unfold finE
      rw [this]
      split
      · decide
      · simp
    refine (Sync_bad wr S gd N _ h sn (by decide) hE).mono ?_
    rintro e w' ⟨rfl, rfl⟩
    exact ⟨⟨_, rfl⟩, rfl⟩
  · intro wr S N i b h hS hN
    have o0 : old (VS n i bs) s0 = ([], 0) := by unfold old; rw [VS_F]; unfold F1; rw [if_neg (by decide)]; rfl
    have A := Append_c wr S gd N (VS n i bs) h s0 (by decide) _ (fun k hk e => by have := hS k e; omega) v bs (srcR wr b) hcap hby (by omega) (by rw [o0]; simp; omega) (by have := (VS_old hn hl i).2; omega)
    rw [app_s0] at A
    refine A.mono ?_
    rintro e w' ⟨rfl, k1, k2⟩
    exact ⟨⟨_, rfl⟩, _, k1, grow wr w' S b hS k2⟩
  · intro wr S N i b h hS hN
    have A := Append_c wr S gd N (VS n i bs) h sa (by decide) _ (fun k hk e => by have := hS k e; omega) v bs (srcR wr b) hcap hby (by omega) (by have := (VS_old hn hl i).1; omega) (by have := (VS_old hn hl i).2; omega)
    obtain ⟨e1, e2, _⟩ := VS_step hn hl i
    rw [e1, e2] at A
    refine A.mono ?_
    rintro e w' ⟨rfl, k1, k2⟩
    exact ⟨⟨_, rfl⟩, _, k1, grow wr w' S b hS k2⟩
  · intro wr S N i h
    have A := Down_c wr S gd N _ h
    rw [(VS_step hn hl i).2.2] at A
    exact A
  · intro wr S N b h hS hN
    have hu := VS_old hn hl (n + 3)
    have A := Restart_c wr S gd N (VS n (n + 3) bs) h (by omega) (fun _ => False) (fun k hk => hk.elim) (.slice none 0 0) [] (.inl ⟨rfl, _, _, rfl⟩) (by simp) (ns1 (oS n (n + 3) bs)) (nms _) (VS_tot _ _ _) (by omega) (ns1_sz _) (by have := ns1_len (oS n (n + 3) bs); omega)
    refine A.mono ?_
    rintro e w' ⟨rfl, k1, k2⟩
    exact ⟨rfl, _, k1, grow wr w' S b hS k2⟩
  · intro wr S N b h hS hN
    have A := Append_c wr S gd N (VE n bs) h sa (by decide) _ (fun k hk e => by have := hS k e; omega) v bs (srcR wr b) hcap hby (by omega) (by have := VE_old hn hl; omega) (by have := VE_used hn hl; omega)
    obtain ⟨e1, e2⟩ := VE_app hn hl
    rw [e1] at A
    refine A.mono ?_
    rintro e w' ⟨rfl, k1, k2⟩
    exact ⟨⟨_, rfl⟩, ⟨_, _, k1, e2⟩, (grow wr w' S b hS k2).2⟩
theorem new_fuse (w : World) (n : Nat) (hn : n ≤ 255) (bs : List Nat) : ∀ w1, Below w.heap.size w w1 → Calls Try.prog 9 #[.int .i64 1048576] w1 fun e w' => e = .returned (.pointer (some ⟨w1.heap.size, 0, none⟩)) ∧ (∃ S, (Calls Try.prog 21 #[.pointer (some ⟨w1.heap.size, 0, none⟩), .int .i64 (n : Nat)] w' fun e w2 => e = .returned (.tuple #[]) ∧ DV w2 S w1.heap.size 0 (VS n 0 bs) ∧ Below w.heap.size w w2) ∧ (∀ k, S k → w.heap.size ≤ k)) := by
  intro w1 b1
  have hb := b1.size
  refine (New_c w1 1048576 (by omega)).mono ?_
  rintro e w' ⟨rfl, h1, h2⟩
  refine ⟨rfl, (fun k => w1.heap.size ≤ k ∧ k < w'.heap.size), ?_, fun k hk => Nat.le_trans hb hk.1⟩
  refine (SetFuse_c w' _ w1.heap.size 0 _ h1 (n : Nat) (by omega)).mono ?_
  rintro e w2 ⟨rfl, k1, k2⟩
  refine ⟨rfl, ?_, ?_⟩
  · have e0 : VS n 0 bs = { V0 (1048576 : Int).toNat with fused := decide ((0 : Int) ≤ (n : Nat)), fuse := ((n : Nat) : Int).toNat } := by
      unfold VS
      rw [if_pos (Nat.zero_le _)]
      refine vw_ext (fun x => ?_) (by show 0 * bs.length = 0; simp) rfl (by show true = _; simp) (by show n - 0 = _; simp) rfl
      show F1 _ x = none
      unfold F1
      simp
    rw [e0]
    exact k1
  · exact (b1.trans (h2.mono hb)).trans (k2.below (fun k hk _ => Nat.le_trans hb hk.1) (by have := h2.size; omega))
set_option maxRecDepth 100000 in
set_option maxHeartbeats 4000000 in
theorem fuses7 (w : World) (n : Nat) (hn : n < 256) (v : Value) (bs : List Nat) (hv : Src w (fun k => k < w.heap.size) v bs) (hcap : ∀ c, v = .slice none bs.length c → c = 0) (hby : ∀ x ∈ bs, x < 256) (hlen : bs.length ≤ 140737488351232) :
    Calls Try.prog 7 #[.int .u8 (n : Nat), v] w fun e w' => e = .returned (.bool true) ∧ Below w.heap.size w w' := by
  obtain ⟨ad, c, hvf⟩ := hv.forms
  have AW := Lib.hid (awake8 w)
  by_cases h100 : 100 < bs.length
  · have hc : bs.length ≤ c := by
      rcases hv with ⟨rfl, _⟩ | ⟨_, b', off, c', e, h, _⟩
      · simp
      · rw [hvf] at e; cases e; exact h
    have hv2 : Src w (fun k => k < w.heap.size) (.slice ad 100 c) (bs.take 100) := by
      have hl : (bs.take 100).length = 100 := by rw [List.length_take]; omega
      rw [hvf] at hv
      rcases hv with ⟨e, _⟩ | ⟨_, b', off, c', e, h, hb, hcell⟩
      · rw [e] at h100; simp at h100
      · cases e
        refine .inr ⟨by omega, b', off, c, by rw [hl], by omega, hb, fun i hi => ?_⟩
        rw [hcell i (by omega)]
        simp [Jb.g, List.getD_eq_getElem?_getD, show i < 100 by omega]
    have hcap2 : ∀ c', Value.slice ad 100 c = .slice none (bs.take 100).length c' → c' = 0 := fun c' e => by
      injection e with e1 e2 e3
      have := hcap c (by rw [hvf, e1])
      omega
    obtain ⟨B, hB⟩ : ∃ B, B = bs.take 100 := ⟨_, rfl⟩
    obtain ⟨l, hl⟩ : ∃ l, l = bs.length := ⟨_, rfl⟩
    have hB9 : B.length ≤ 100 := by rw [hB, List.length_take]; omega
    have KIT := Lib.hid (fun gd => kit w gd n (.slice ad 100 c) B (by omega) hB9 (hB ▸ hv2) (hB ▸ hcap2) (by rw [hB]; exact fun x hx => hby x (List.mem_of_mem_take hx)))
    have NF := Lib.hid (new_fuse w n (by omega) B)
    have hc2 : 100 ≤ c := by omega
    rw [hvf]
    rw [← hl] at h100 ⊢
    have h100' : (l : Int) > 100 := by omega
    clear hv hvf hv2 hcap hcap2 hby hB hl hB9 hc hlen
    go_enter Try.func7, Try.ntmps7
    go_wp2_with (go_at_call 8; refine (AW.out).mono ?_; rintro e w1 ⟨rfl, b1⟩; have B1 := Lib.hid b1; clear b1)
    go_wp2_with fail
    go_at_call 9
    refine (NF.out w1 B1.out).mono ?_
    rintro e w2 ⟨rfl, S0, cf, hS0⟩
    have KT := Lib.hid (KIT.out w1.heap.size)
    have HS0 := Lib.hid hS0
    obtain ⟨gd, hgd⟩ : ∃ gd, gd = w1.heap.size := ⟨_, rfl⟩
    rw [← hgd] at KT cf ⊢
    have CF := Lib.hid cf
    clear hgd cf hS0
    go_wp2_with fail
    go_at_call 21
    refine CF.out.mono ?_
    rintro e w3 ⟨rfl, k3, b3⟩
    have K3 := Lib.hid k3
    have B3 := Lib.hid b3
    clear k3 b3 CF B1 NF KIT
    go_wp2_with fail
    go_loopw [6, 7, 8, 28] (fun _ _ _ i wr => ∃ k S N, k ≤ n + 3 ∧ i = .int .i64 (k : Nat) ∧ DV wr S gd N (VS n k B) ∧ N ≤ 2 * k ∧ (∀ k, S k → w.heap.size ≤ k) ∧ Below w.heap.size w wr) (fun _ _ _ i _ => n + 3 - (intOf i).toNat)
    case atStart => exact ⟨0, S0, 0, Nat.zero_le _, rfl, K3.out, Nat.le_refl _, HS0.out, B3.out⟩
    case round =>
      obtain ⟨k, S, N, hk, rfl, hdv, hN, hS, hb⟩ := hrel
      have HDV := Lib.hid hdv
      have HN := Lib.hid hN
      have HSS := Lib.hid hS
      have HB := Lib.hid hb
      clear hdv hN hS hb
      by_cases hkn : k < n + 3
      · by_cases hin : k < n
        · have hin2 : ¬ n ≤ k := by omega
          go_wp2_with fail
          go_at_call 25
          refine (KT.out.list wr S N k HDV.out (by have := HN.out; omega)).mono ?_
          rintro e w4 ⟨⟨vl, rfl⟩, b4⟩
          have D4 := Lib.hid (HDV.out.below b4 (Nat.le_refl _))
          have B4 := Lib.hid (HB.out.trans (b4.mono HB.out.size))
          clear b4
          go_wp2_with fail
          go_at_call 16
          refine (KT.out.read w4 S N k D4.out).mono ?_
          rintro e w5 ⟨⟨vr, rfl⟩, b5⟩
          have D5 := Lib.hid (D4.out.below b5 (Nat.le_refl _))
          have B5 := Lib.hid (B4.out.trans (b5.mono B4.out.size))
          clear b5
          go_wp2_with fail
          go_at_call 14
          refine (KT.out.sync w5 S N k D5.out).mono ?_
          rintro e w6 ⟨⟨vs, rfl⟩, rfl⟩
          go_wp2_with fail
          go_at_call 13
          refine (KT.out.app0 _ S N k B5.out D5.out HSS.out (by have := HN.out; omega)).mono ?_
          rintro e w7 ⟨⟨v7, rfl⟩, S7, d7, s7, b7⟩
          have D7 := Lib.hid d7
          have S77 := Lib.hid s7
          have B7 := Lib.hid b7
          clear d7 s7 b7
          go_wp2_with fail
          go_at_call 13
          have AP := KT.out.app w7 S7 (N + 1) k B7.out D7.out S77.out (by have := HN.out; omega)
          rw [if_pos hin] at AP
          refine AP.mono ?_
          rintro e w8 ⟨⟨m8, rfl⟩, S8, d8, s8, b8⟩
          have D8 := Lib.hid d8
          have S88 := Lib.hid s8
          have B8 := Lib.hid b8
          have DN := KT.out.down w8 S8 (N + 2) k d8
          rw [decide_eq_false hin2] at DN
          have DNH := Lib.hid DN
          clear d8 s8 b8 AP DN
          go_wp2_with (go_at_call 24; refine DNH.out.mono ?_; rintro e w8 ⟨rfl, rfl⟩)
          go_roundw
          case rel => exact ⟨k + 1, S8, N + 2, by omega, by go_num, D8.out, by have := HN.out; omega, S88.out, B8.out⟩
          case measure => simp [intOf]; omega
        · have hin2 : n ≤ k := by omega
          go_wp2_with fail
          go_at_call 25
          refine (KT.out.list wr S N k HDV.out (by have := HN.out; omega)).mono ?_
          rintro e w4 ⟨⟨vl, rfl⟩, b4⟩
          have D4 := Lib.hid (HDV.out.below b4 (Nat.le_refl _))
          have B4 := Lib.hid (HB.out.trans (b4.mono HB.out.size))
          clear b4
          go_wp2_with fail
          go_at_call 16
          refine (KT.out.read w4 S N k D4.out).mono ?_
          rintro e w5 ⟨⟨vr, rfl⟩, b5⟩
          have D5 := Lib.hid (D4.out.below b5 (Nat.le_refl _))
          have B5 := Lib.hid (B4.out.trans (b5.mono B4.out.size))
          clear b5
          go_wp2_with fail
          go_at_call 14
          refine (KT.out.sync w5 S N k D5.out).mono ?_
          rintro e w6 ⟨⟨vs, rfl⟩, rfl⟩
          go_wp2_with fail
          go_at_call 13
          refine (KT.out.app0 _ S N k B5.out D5.out HSS.out (by have := HN.out; omega)).mono ?_
          rintro e w7 ⟨⟨v7, rfl⟩, S7, d7, s7, b7⟩
          have D7 := Lib.hid d7
          have S77 := Lib.hid s7
          have B7 := Lib.hid b7
          clear d7 s7 b7
          go_wp2_with fail
          go_at_call 13
          have AP := KT.out.app w7 S7 (N + 1) k B7.out D7.out S77.out (by have := HN.out; omega)
          rw [if_neg hin] at AP
          refine AP.mono ?_
          rintro e w8 ⟨⟨m8, rfl⟩, S8, d8, s8, b8⟩
          have D8 := Lib.hid d8
          have S88 := Lib.hid s8
          have B8 := Lib.hid b8
          have DN := KT.out.down w8 S8 (N + 2) k d8
          rw [decide_eq_true hin2] at DN
          have DNH := Lib.hid DN
          clear d8 s8 b8 AP DN
          go_wp2_with (go_at_call 24; refine DNH.out.mono ?_; rintro e w8 ⟨rfl, rfl⟩)
          go_roundw
          case rel => exact ⟨k + 1, S8, N + 2, by omega, by go_num, D8.out, by have := HN.out; omega, S88.out, B8.out⟩
          case measure => simp [intOf]; omega
      · have ek : k = n + 3 := by omega
        subst ek
        have EN := VS_end (n := n) (bs := B)
        have RD := KT.out.read wr S N (n + 3) HDV.out
        rw [show finE (VS n (n + 3) B) sa = 8 from if_pos EN] at RD
        have RDH := Lib.hid RD
        clear hkn hk RD EN
        go_wp2_with fail
        go_at_call 16
        refine RDH.out.mono ?_
        rintro e w5 ⟨⟨vr, rfl⟩, b5⟩
        have D5 := Lib.hid (HDV.out.below b5 (Nat.le_refl _))
        have B5 := Lib.hid (HB.out.trans (b5.mono HB.out.size))
        clear b5
        go_wp2_with fail
        go_at_call 15
        refine (KT.out.rest w5 S N B5.out D5.out HSS.out (by have := HN.out; omega)).mono ?_
        rintro e w6 ⟨rfl, S6, d6, s6, b6⟩
        have D6 := Lib.hid d6
        have S66 := Lib.hid s6
        have B6 := Lib.hid b6
        clear d6 s6 b6
        go_wp2_with fail
        go_at_call 13
        refine (KT.out.appE w6 S6 N B6.out D6.out S66.out (by have := HN.out; omega)).mono ?_
        rintro e w7 ⟨⟨m7, rfl⟩, ⟨S7, V7, d7, dn7⟩, b7⟩
        have DN := Down_c w7 S7 gd (N + 1) V7 d7
        rw [dn7] at DN
        have DNH := Lib.hid DN
        have B7 := Lib.hid b7
        clear d7 dn7 b7 DN
        go_wp2_with (go_at_call 24; refine DNH.out.mono ?_; rintro e w7 ⟨rfl, rfl⟩)
        go_ret
        exact ⟨rfl, B7.out⟩
  · obtain ⟨B, hB⟩ : ∃ B, B = bs := ⟨_, rfl⟩
    obtain ⟨l, hl⟩ : ∃ l, l = bs.length := ⟨_, rfl⟩
    have KIT := Lib.hid (fun gd => kit w gd n v bs (by omega) (by omega) hv hcap hby)
    have NF := Lib.hid (new_fuse w n (by omega) B)
    rw [← hB] at KIT
    rw [hvf, ← hl] at KIT ⊢
    have h101 : l ≤ 100 := by omega
    clear hv hvf hcap hby hB hl hlen h100
    go_enter Try.func7, Try.ntmps7
    go_wp2_with (go_at_call 8; refine (AW.out).mono ?_; rintro e w1 ⟨rfl, b1⟩; have B1 := Lib.hid b1; clear b1)
    go_wp2_with fail
    go_at_call 9
    refine (NF.out w1 B1.out).mono ?_
    rintro e w2 ⟨rfl, S0, cf, hS0⟩
    have KT := Lib.hid (KIT.out w1.heap.size)
    have HS0 := Lib.hid hS0
    obtain ⟨gd, hgd⟩ : ∃ gd, gd = w1.heap.size := ⟨_, rfl⟩
    rw [← hgd] at KT cf ⊢
    have CF := Lib.hid cf
    clear hgd cf hS0
    go_wp2_with fail
    go_at_call 21
    refine CF.out.mono ?_
    rintro e w3 ⟨rfl, k3, b3⟩
    have K3 := Lib.hid k3
    have B3 := Lib.hid b3
    clear k3 b3 CF B1 NF KIT
    go_wp2_with fail
    go_loopw [6, 7, 8, 28] (fun _ _ _ i wr => ∃ k S N, k ≤ n + 3 ∧ i = .int .i64 (k : Nat) ∧ DV wr S gd N (VS n k B) ∧ N ≤ 2 * k ∧ (∀ k, S k → w.heap.size ≤ k) ∧ Below w.heap.size w wr) (fun _ _ _ i _ => n + 3 - (intOf i).toNat)
    case atStart => exact ⟨0, S0, 0, Nat.zero_le _, rfl, K3.out, Nat.le_refl _, HS0.out, B3.out⟩
    case round =>
      obtain ⟨k, S, N, hk, rfl, hdv, hN, hS, hb⟩ := hrel
      have HDV := Lib.hid hdv
      have HN := Lib.hid hN
      have HSS := Lib.hid hS
      have HB := Lib.hid hb
      clear hdv hN hS hb
      by_cases hkn : k < n + 3
      · by_cases hin : k < n
        · have hin2 : ¬ n ≤ k := by omega
          go_wp2_with fail
          go_at_call 25
          refine (KT.out.list wr S N k HDV.out (by have := HN.out; omega)).mono ?_
          rintro e w4 ⟨⟨vl, rfl⟩, b4⟩
          have D4 := Lib.hid (HDV.out.below b4 (Nat.le_refl _))
          have B4 := Lib.hid (HB.out.trans (b4.mono HB.out.size))
          clear b4
          go_wp2_with fail
          go_at_call 16
          refine (KT.out.read w4 S N k D4.out).mono ?_
          rintro e w5 ⟨⟨vr, rfl⟩, b5⟩
          have D5 := Lib.hid (D4.out.below b5 (Nat.le_refl _))
          have B5 := Lib.hid (B4.out.trans (b5.mono B4.out.size))
          clear b5
          go_wp2_with fail
          go_at_call 14
          refine (KT.out.sync w5 S N k D5.out).mono ?_
          rintro e w6 ⟨⟨vs, rfl⟩, rfl⟩
          go_wp2_with fail
          go_at_call 13
          refine (KT.out.app0 _ S N k B5.out D5.out HSS.out (by have := HN.out; omega)).mono ?_
          rintro e w7 ⟨⟨v7, rfl⟩, S7, d7, s7, b7⟩
          have D7 := Lib.hid d7
          have S77 := Lib.hid s7
          have B7 := Lib.hid b7
          clear d7 s7 b7
          go_wp2_with fail
          go_at_call 13
          have AP := KT.out.app w7 S7 (N + 1) k B7.out D7.out S77.out (by have := HN.out; omega)
          rw [if_pos hin] at AP
          refine AP.mono ?_
          rintro e w8 ⟨⟨m8, rfl⟩, S8, d8, s8, b8⟩
          have D8 := Lib.hid d8
          have S88 := Lib.hid s8
          have B8 := Lib.hid b8
          have DN := KT.out.down w8 S8 (N + 2) k d8
          rw [decide_eq_false hin2] at DN
          have DNH := Lib.hid DN
          clear d8 s8 b8 AP DN
          go_wp2_with (go_at_call 24; refine DNH.out.mono ?_; rintro e w8 ⟨rfl, rfl⟩)
          go_roundw
          case rel => exact ⟨k + 1, S8, N + 2, by omega, by go_num, D8.out, by have := HN.out; omega, S88.out, B8.out⟩
          case measure => simp [intOf]; omega
        · have hin2 : n ≤ k := by omega
          go_wp2_with fail
          go_at_call 25
          refine (KT.out.list wr S N k HDV.out (by have := HN.out; omega)).mono ?_
          rintro e w4 ⟨⟨vl, rfl⟩, b4⟩
          have D4 := Lib.hid (HDV.out.below b4 (Nat.le_refl _))
          have B4 := Lib.hid (HB.out.trans (b4.mono HB.out.size))
          clear b4
          go_wp2_with fail
          go_at_call 16
          refine (KT.out.read w4 S N k D4.out).mono ?_
          rintro e w5 ⟨⟨vr, rfl⟩, b5⟩
          have D5 := Lib.hid (D4.out.below b5 (Nat.le_refl _))
          have B5 := Lib.hid (B4.out.trans (b5.mono B4.out.size))
          clear b5
          go_wp2_with fail
          go_at_call 14
          refine (KT.out.sync w5 S N k D5.out).mono ?_
          rintro e w6 ⟨⟨vs, rfl⟩, rfl⟩
          go_wp2_with fail
          go_at_call 13
          refine (KT.out.app0 _ S N k B5.out D5.out HSS.out (by have := HN.out; omega)).mono ?_
          rintro e w7 ⟨⟨v7, rfl⟩, S7, d7, s7, b7⟩
          have D7 := Lib.hid d7
          have S77 := Lib.hid s7
          have B7 := Lib.hid b7
          clear d7 s7 b7
          go_wp2_with fail
          go_at_call 13
          have AP := KT.out.app w7 S7 (N + 1) k B7.out D7.out S77.out (by have := HN.out; omega)
          rw [if_neg hin] at AP
          refine AP.mono ?_
          rintro e w8 ⟨⟨m8, rfl⟩, S8, d8, s8, b8⟩
          have D8 := Lib.hid d8
          have S88 := Lib.hid s8
          have B8 := Lib.hid b8
          have DN := KT.out.down w8 S8 (N + 2) k d8
          rw [decide_eq_true hin2] at DN
          have DNH := Lib.hid DN
          clear d8 s8 b8 AP DN
          go_wp2_with (go_at_call 24; refine DNH.out.mono ?_; rintro e w8 ⟨rfl, rfl⟩)
          go_roundw
          case rel => exact ⟨k + 1, S8, N + 2, by omega, by go_num, D8.out, by have := HN.out; omega, S88.out, B8.out⟩
          case measure => simp [intOf]; omega
      · have ek : k = n + 3 := by omega
        subst ek
        have EN := VS_end (n := n) (bs := B)
        have RD := KT.out.read wr S N (n + 3) HDV.out
        rw [show finE (VS n (n + 3) B) sa = 8 from if_pos EN] at RD
        have RDH := Lib.hid RD
        clear hkn hk RD EN
        go_wp2_with fail
        go_at_call 16
        refine RDH.out.mono ?_
        rintro e w5 ⟨⟨vr, rfl⟩, b5⟩
        have D5 := Lib.hid (HDV.out.below b5 (Nat.le_refl _))
        have B5 := Lib.hid (HB.out.trans (b5.mono HB.out.size))
        clear b5
        go_wp2_with fail
        go_at_call 15
        refine (KT.out.rest w5 S N B5.out D5.out HSS.out (by have := HN.out; omega)).mono ?_
        rintro e w6 ⟨rfl, S6, d6, s6, b6⟩
        have D6 := Lib.hid d6
        have S66 := Lib.hid s6
        have B6 := Lib.hid b6
        clear d6 s6 b6
        go_wp2_with fail
        go_at_call 13
        refine (KT.out.appE w6 S6 N B6.out D6.out S66.out (by have := HN.out; omega)).mono ?_
        rintro e w7 ⟨⟨m7, rfl⟩, ⟨S7, V7, d7, dn7⟩, b7⟩
        have DN := Down_c w7 S7 gd (N + 1) V7 d7
        rw [dn7] at DN
        have DNH := Lib.hid DN
        have B7 := Lib.hid b7
        clear d7 dn7 b7 DN
        go_wp2_with (go_at_call 24; refine DNH.out.mono ?_; rintro e w7 ⟨rfl, rfl⟩)
        go_ret
        exact ⟨rfl, B7.out⟩
end J5
end Go.Proofs.Ythejolhpoakheaa
