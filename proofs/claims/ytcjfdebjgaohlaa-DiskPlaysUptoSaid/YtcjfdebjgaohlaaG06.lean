import Derived.Test.YtcjfdebjgaohlaaG05
import Derived.Deep.RegionHeld

/- The disk's List and Restart. -/
namespace Go.Proofs.Ytcjfdebjgaohlaa
open Go.RowKit Go.Maps Go.ChangeMaps Go.MapKept
namespace J2
open Jb Jm Jd Jw Jx Jn Je Jf Jg Jh Jk Jc Jl Jo Jq J1

theorem list_down (w : World) (S : Nat → Prop) (g N : Nat) (V : Vw) (h : DV w S g N V) (hd : V.down = true) : Calls Try.prog 28 #[.pointer (some ⟨g, 0, none⟩)] w fun e w' => e = .returned (.slice none 0 0) ∧ w' = w := by
  have D := Lib.hid (Down_c w S g N V h)
  rw [hd] at D
  clear h hd
  go_enter Try.func28, Try.ntmps28
  go_wp2_with (go_at_call 29; refine (D.out).mono ?_; rintro e w ⟨rfl, rfl⟩)
  go_ret
  first | trivial | exact ⟨rfl, rfl⟩
/-- The names, rising. -/
def Names (F : FT) (ns : List (List UInt8)) : Prop := ns.Pairwise (· < ·) ∧ ∀ x, x ∈ ns ↔ F (nm x) ≠ none
theorem Names.nodup {F : FT} {ns : List (List UInt8)} (h : Names F ns) : ns.Nodup := h.1.imp fun {a b} hab e => by subst e; exact List.lt_irrefl a hab
theorem Names.dk {d : St} {ns : List (List UInt8)} (h : Names (vw d).F ns) : ∀ x, x ∈ ns ↔ ∃ s f, d.F s = some f ∧ s.data.toList = x := by
  intro x
  rw [h.2 x]
  constructor
  · intro hx
    cases hf : d.F (nm x) with
    | none => exact absurd (by simp [vw, hf]) hx
    | some f => exact ⟨nm x, f, hf, by simp [nm]⟩
  · rintro ⟨s, f, hf, rfl⟩
    have : nm s.data.toList = s := by unfold nm; simp
    rw [this]
    simp [vw, hf]
theorem list_up (w : World) (S : Nat → Prop) (g N : Nat) (V : Vw) (h : DV w S g N V) (hd : V.down = false) (hN : N ≤ 8796093022208) (ns : List (List UInt8)) (hn : Names V.F ns) :
    Calls Try.prog 28 #[.pointer (some ⟨g, 0, none⟩)] w fun e w' => ∃ v, e = .returned v ∧ w'.ownsRow w.heap.size 9 1 v ns.length (ns.map Go.Proofs.encStr) ∧ Below w.heap.size w w' := by
  obtain ⟨d, h, rfl⟩ := h
  have D := Lib.hid (down24 w g d h.cs)
  rw [show d.down = false from hd] at D
  have M := Lib.hid (names43 w S g N d h hN ns hn.1 hn.dk)
  clear h hd hN hn
  go_enter Try.func28, Try.ntmps28
  go_wp2_with (first | (go_at_call 29; refine (D.out).mono ?_; rintro e w ⟨rfl, rfl⟩) | (go_at_call 47; refine (M.out).mono ?_; rintro e w' ⟨v, rfl, hrow, hbl⟩))
  go_ret
  exact ⟨v, rfl, hrow, hbl⟩
/-- Where a restart stands behind k names. -/
structure At (wn : World) (S : Nat → Prop) (g N : Nat) (R : Nat → Prop) (d : St) (r : Rs) (chv : Value) (wr : World) (d' : St) : Prop where
  src : Src wr R chv r.ch
  F : (vw d').F = r.F
  used : d'.used = r.used
  room : d'.room = d.room
  dk : Dk wr (New S wn wr) g N d'
  chg : Chg wn wr S
theorem forms9 {w : World} {B n : Nat} {v : Value} {xs : List Value} (h : w.ownsRow B 9 1 v n xs) : ∃ a c, v = .slice a n c := by
  rcases Go.Joins.ownsRow_forms h with ⟨rfl, e⟩ | ⟨q, c, rfl⟩
  · exact ⟨none, 0, by rw [e]⟩
  · exact ⟨_, c, rfl⟩
/-- The file is cut, and what is left is synced: where the restart stands then. -/
theorem at_cut {wn w1 w2 w3 : World} {S : Nat → Prop} {g N : Nat} {R : Nat → Prop} {d d' d2 : St} {r : Rs} {chv chv' : Value} {x : List UInt8} {f f' : Fi} {Z : Nat} (hlt : ∀ k, S k → k < wn.heap.size) (hR : ∀ k, R k → ¬ S k ∧ k < wn.heap.size)
    (h : At wn S g N R d r chv w1 d') (hf : d'.F (nm x) = some f) (hne : (ab f).1.length ≠ (ab f).2) (hZ : Z = stays (ab f) r.ch) (e1 : f'.blk = f.blk) (e2 : f'.bs = f.bs.take Z) (k3 : Dk w2 (New (New S wn w1) w1 w2) g N d2) (hd2 : d2 = { d' with F := fun y => if y = nm x then some f' else d'.F y, used := d'.used - (f.bs.length - Z) }) (c3 : Chg w1 w2 (fun k => k = g ∨ foot f k))
    (hs : Src w1 R chv' r.ch.tail) (h3 : w3 = w2.setCell ⟨f.blk, 1, none⟩ (.int .i64 ((f.bs.take Z).length : Nat))) :
    ∃ d3, At wn S g N R d (stp r x) chv' w3 d3 := by
  have hz0 := h.chg.size
  have hz1 := c3.size
  have f2 : d2.F (nm x) = some f' := by rw [hd2]; exact if_pos rfl
  obtain ⟨m2, mg, ms⟩ := k3.fm _ _ f2
  have s3 : w3.heap.size = w2.heap.size := by rw [h3]; simp
  have c4 : Chg w2 w3 (fun k => k = g ∨ foot f' k) := by rw [h3]; exact (Chg.refl w2 _).setCell (.inr (.inl e1.symm)) _
  have hlen : (f.bs.take Z).length = f'.bs.length := by rw [e2]
  have hf3 : Fm w3 ⟨f'.blk, f'.v, f'.bs, f'.bs.length⟩ := by rw [h3, ← e1, hlen]; exact m2.set1 _ (Nat.le_refl _)
  have hc := (k3.cs.off (b := f.blk) (i := 1) (v := .int .i64 ((f.bs.take Z).length : Nat)) (fun e => mg (.inl (by rw [e1, e]))))
  rw [← h3] at hc
  have k4 := k3.file (d' := { d2 with F := fun y => if y = nm x then some ⟨f'.blk, f'.v, f'.bs, f'.bs.length⟩ else d2.F y }) f2 c4 ⟨hc.c0, hc.c1, hc.c2, hc.c3, hc.c4, hc.c5, hc.z, hc.bu, hc.br, hc.bf⟩ rfl rfl rfl hf3 (fun k hk => .inl hk)
  have hrf : r.F (nm x) = some (ab f) := by rw [← h.F]; simp [vw, hf]
  have hst := stp_cut hrf hne
  obtain ⟨mf1, mg1, ms1⟩ := h.dk.fm _ _ hf
  have hZl : Z ≤ f.bs.length := by rw [hZ]; exact stays_le _ _ mf1.syn
  have hS1 : ∀ k, (k = g ∨ foot f k) → New S wn w1 k := fun k hk => hk.elim (fun e => e ▸ h.dk.sg) (fun e => ms1 k e)
  have cT : Chg w1 w3 (New S wn w1) := by
    refine (c3.imp fun k hk _ => hS1 k hk).trans c4 fun k hk hl => ?_
    rcases hk with e | e
    · exact hS1 k (.inl e)
    · rcases ms k e with e' | e'
      · exact e'
      · omega
  refine ⟨_, ?_, ?_, ?_, ?_, k4.set (fun k hk => ?_) (fun k hk => ?_), h.chg.trans cT fun k hk hl => hk.elim id (fun e => by omega)⟩
  · rw [hst]
    refine hs.move fun k hk hl => ?_
    obtain ⟨r1, r2⟩ := hR k hk
    exact cT.block k hl (fun e => e.elim r1 (fun e => by omega))
  · rw [hst, ← hZ]
    funext y
    show Option.map ab (if y = nm x then _ else d2.F y) = upd r.F (nm x) (f.bs.take Z, Z) y
    by_cases e : y = nm x
    · rw [if_pos e, e, upd_same]
      show some (f'.bs, f'.bs.length) = _
      rw [e2, List.length_take]
      show some (f.bs.take Z, min Z f.bs.length) = some (f.bs.take Z, Z)
      rw [Nat.min_eq_left hZl]
    · rw [if_neg e, upd_other e, hd2, ← h.F]
      show Option.map ab (if y = nm x then _ else d'.F y) = _
      rw [if_neg e]; rfl
  · rw [hst, ← hZ, ← h.used, hd2]; rfl
  · rw [hd2]; exact h.room
  · rcases hk with ((hk | hk) | hk) | hk
    · exact .inl hk
    · exact .inr ⟨hk.1, by omega⟩
    · exact .inr ⟨by omega, by omega⟩
    · omega
  · rcases hk with hk | hk
    · have := hlt k hk; omega
    · exact hk.2
end J2
end Go.Proofs.Ytcjfdebjgaohlaa

/- The disk's Restart. -/
namespace Go.Proofs.Ytcjfdebjgaohlaa
open Go.RowKit Go.Maps Go.ChangeMaps Go.MapKept
namespace J3
open Jb Jm Jd Jw Jx Jn Je Jf Jg Jh Jk Jc Jl Jo Jq J1 J2

def lenOf : Value → Nat
  | .slice _ n _ => n
  | _ => 0
theorem rs_ch : ∀ (l : List (List UInt8)) (q : Rs), ∀ y ∈ (rs q l).ch, y ∈ q.ch := by
  intro l
  induction l with
  | nil => intro q y hy; exact hy
  | cons x l ih =>
    intro q y hy
    have h := ih (stp q x) y hy
    unfold stp at h
    split at h
    · exact h
    · split at h
      · exact h
      · exact List.mem_of_mem_tail h
def rsV (V : Vw) (r : Rs) : Vw := { V with F := r.F, used := r.used, down := false, fused := false, fuse := 0 }
set_option maxRecDepth 100000 in
set_option maxHeartbeats 4000000 in
theorem restart15 (w : World) (S : Nat → Prop) (g N : Nat) (d : St) (h : Dk w S g N d) (hN : N ≤ 8796093022208) (R : Nat → Prop) (hR : ∀ k, R k → ¬ S k ∧ k < w.heap.size) (v : Value) (ch : List Nat) (hv : Src w R v ch) (hby : ∀ x ∈ ch, x < 256)
    (ns : List (List UInt8)) (hns : Names (vw d).F ns) (hu : d.used = tot (vw d).F ns) (hul : d.used ≤ 140737488355328) (hsz : ∀ x ∈ ns, x.length ≤ 64) (hml : ns.length ≤ 8796093022208) :
    Calls Try.prog 24 #[.pointer (some ⟨g, 0, none⟩), v] w fun e w' => e = .returned (.tuple #[]) ∧ ∃ d', vw d' = rsV (vw d) (rs ⟨(vw d).F, d.used, ch⟩ ns) ∧ Dk w' (New S w w') g N d' ∧ Chg w w' S := by
  have M := Lib.hid (names43 w S g N d h hN ns hns.1 hns.dk)
  have hinv0 : Inv (vw d).F ns ⟨(vw d).F, d.used, ch⟩ := ⟨hu, fun s => Iff.rfl, fun s b hb => by
    cases hf : d.F s with
    | none => simp [vw, hf] at hb
    | some f =>
      have e : ab f = b := by simpa [vw, hf] using hb
      rw [← e]
      exact (h.fm s f hf).1.syn⟩
  have INV := Lib.hid (inv_rs hns.nodup hinv0)
  have AT0 : Hid (∀ wn, Below w.heap.size w wn → At wn S g N R d ⟨(vw d).F, d.used, ch⟩ v wn d) := Lib.hid fun wn b =>
    ⟨hv.move fun k hk hl => b.block k hl, rfl, rfl, rfl, (h.below b (Nat.le_refl _)).set (fun k hk => .inl hk) (fun k hk => hk.elim (fun e => by have := h.lt k e; have := b.size; omega) (fun e => by omega)), Chg.refl _ _⟩
  have HLT := Lib.hid h.lt
  have HRR := Lib.hid hR
  -- what a round meets
  have MEET : Hid (∀ wn wr k r chv d', k < ns.length → r = rs ⟨(vw d).F, d.used, ch⟩ (ns.take k) → At wn S g N R d r chv wr d' →
      ∃ x f, ns[k]? = some x ∧ (nm x).size ≤ 64 ∧ d'.F (nm x) = some f ∧ f.bs.length ≤ d'.used ∧ f.bs.length ≤ 140737488355328 ∧ f.syn ≤ f.bs.length ∧ rs ⟨(vw d).F, d.used, ch⟩ (ns.take (k + 1)) = stp r x ∧ f.blk ≠ g) := Lib.hid fun wn wr k r chv d' hk hr ha => by
    have hi := INV.out k (by omega)
    rw [← hr] at hi
    have hx : ns[k] ∈ ns := List.getElem_mem _
    have hF := (hns.2 ns[k]).1 hx
    cases hf : d'.F (nm ns[k]) with
    | none =>
      have : r.F (nm ns[k]) = none := by rw [← ha.F]; simp [vw, hf]
      exact absurd ((hi.2.1 _).1 this) hF
    | some f =>
      have e1 : r.F (nm ns[k]) = some (ab f) := by rw [← ha.F]; simp [vw, hf]
      have e2 : lenAt r.F ns[k] = f.bs.length := by unfold lenAt; rw [e1]; rfl
      have e3 := le_tot (F := r.F) hx
      rw [e2, ← hi.1, ← ha.used] at e3
      have e4 : d'.used ≤ d.used := by
        rw [ha.used, hr]
        clear e3 e2 e1 hf hF hx hi ha
        have : ∀ (l : List (List UInt8)) (q : Rs), (rs q l).used ≤ q.used := by
          intro l
          induction l with
          | nil => intro q; exact Nat.le_refl _
          | cons y l ih =>
            intro q
            refine Nat.le_trans (ih (stp q y)) ?_
            unfold stp
            split
            · exact Nat.le_refl _
            · split
              · exact Nat.le_refl _
              · exact Nat.sub_le _ _
        exact this _ _
      obtain ⟨m1, m2, _⟩ := ha.dk.fm _ _ hf
      exact ⟨ns[k], f, by simp [hk], by have := hsz _ hx; simpa [nm, ByteArray.size] using this, hf, e3, by omega, m1.syn, by rw [rs_snoc _ _ _ hk, hr], fun e => m2 (.inl e.symm)⟩
  have DONE : Hid (∀ wn wr w' chv d', At wn S g N R d (rs ⟨(vw d).F, d.used, ch⟩ ns) chv wr d' → Below w.heap.size w wn → Chg wr w' (fun k => k = g) → Cs w' g { d' with down := false, fused := false, fuse := 0 } →
      ∃ d', vw d' = rsV (vw d) (rs ⟨(vw d).F, d.used, ch⟩ ns) ∧ Dk w' (New S w w') g N d' ∧ Chg w w' S) := Lib.hid fun wn wr w' chv d' ha b c hc => by
    have k1 := ha.dk.nums c hc rfl rfl
    have z1 := b.size
    have z2 := ha.chg.size
    have z3 := c.size
    refine ⟨_, ?_, k1.set (fun k hk => ?_) (fun k hk => ?_), ?_⟩
    · refine vw_ext (fun x => ?_) ha.used ha.room rfl rfl rfl
      show (vw d').F x = _
      rw [ha.F]; rfl
    · rcases hk with hk | hk
      · exact .inl hk
      · exact .inr ⟨by omega, by omega⟩
    · rcases hk with hk | hk
      · have := HLT.out k hk; omega
      · exact hk.2
    · exact ((Chg.of_below b (Nat.le_refl _) S).trans ha.chg fun k hk _ => hk).trans c fun k hk _ => hk ▸ h.sg
  have CUTS : Hid (∀ wn wr r chv chv' d' x f Z, At wn S g N R d r chv wr d' → wn.heap.size ≥ w.heap.size → d'.F (nm x) = some f → (nm x).size ≤ 64 → f.bs.length ≤ d'.used → f.bs.length ≤ 140737488355328 → f.bs.length ≠ f.syn → Z = stays (ab f) r.ch → Src wr R chv' r.ch.tail → f.syn ≤ f.bs.length →
      Calls Try.prog 46 #[.pointer (some ⟨g, 0, none⟩), .pointer (some ⟨f.blk, 0, none⟩), .int .i64 (Z : Nat)] wr.drew fun e w2 => e = .returned (.tuple #[]) ∧ ∃ (f' : Fi) (a : Option Addr) (c : Nat), f'.v = .slice a (f.bs.take Z).length c ∧ w2.cell? ⟨f.blk, 0, none⟩ = some (.slice a (f.bs.take Z).length c) ∧ w2.cell? ⟨f.blk, 1, none⟩ = some (.int .i64 (f.syn : Nat)) ∧ w2.frozen? ⟨f.blk, 1, none⟩ = false ∧
        ∀ w3, w3 = w2.setCell ⟨f.blk, 1, none⟩ (.int .i64 ((f.bs.take Z).length : Nat)) → ∃ d3, At wn S g N R d (stp r x) chv' w3 d3) := Lib.hid fun wn wr r chv chv' d' x f Z ha hw hf h64 hu1 hu2 hne hZ hs hsy => by
    have ha' : At wn S g N R d r chv wr.drew d' := ⟨ha.src, ha.F, ha.used, ha.room, ha.dk.move (Nat.le_refl _) (fun _ _ => rfl), ha.chg.drew⟩
    have hZl : Z ≤ f.bs.length := by rw [hZ]; exact stays_le _ _ hsy
    have hZk : f.syn ≤ Z := by rw [hZ]; unfold stays; exact Nat.le_add_right _ _
    refine (cut44 wr.drew (New S wn wr.drew) g N d' ha'.dk (nm x) f hf Z hZl hu1 hu2).mono ?_
    rintro e w2 ⟨rfl, f', e1, e2, e3, k3, c3⟩
    have f2 : (fun y => if y = nm x then some f' else d'.F y) (nm x) = some f' := if_pos rfl
    obtain ⟨m2, _, _⟩ := k3.fm (nm x) f' f2
    obtain ⟨a, c, hv'⟩ := own_forms m2.own
    rw [e2] at hv'
    refine ⟨rfl, f', a, c, hv', by rw [← e1, ← hv']; exact m2.c0, ?_, by rw [← e1]; exact m2.z1, fun w3 h3 => ?_⟩
    · rw [← e1]
      have := m2.c1
      rwa [e3, Nat.min_eq_left hZk] at this
    · exact at_cut (fun k hk => by have := HLT.out k hk; omega) (fun k hk => by obtain ⟨a1, a2⟩ := HRR.out k hk; exact ⟨a1, by omega⟩) ha' hf hne hZ e1 e2 k3 rfl c3 hs h3
  have SB : Hid (∀ k, ∀ y ∈ (rs ⟨(vw d).F, d.used, ch⟩ (ns.take k)).ch, y < 256) := Lib.hid fun k y hy => hby y (rs_ch _ _ y hy)
  obtain ⟨m, hm⟩ : ∃ m, m = ns.length := ⟨_, rfl⟩
  obtain ⟨cs, hcs⟩ : ∃ cs, cs = ns.map Go.Proofs.encStr := ⟨_, rfl⟩
  have NC : Hid (∀ (wn : World) (B : Nat) (vn : Value), wn.ownsRow B 9 1 vn m cs → ∀ (k : Nat) (x : List UInt8), ns[k]? = some x → ∃ (q c : Nat), vn = .slice (some ⟨q, 0, none⟩) m c ∧ B ≤ q ∧ q < wn.heap.size ∧ wn.cell? ⟨q, k, none⟩ = some (.string (nm x))) := Lib.hid fun wn B vn ho k x hx => by
    have hk : k < ns.length := (List.getElem?_eq_some_iff.1 hx).1
    obtain ⟨hl, ⟨e, e0⟩ | ⟨q, c, cur, e, hg, hh, hnc, hcm, hsz, htk⟩⟩ := ho
    · omega
    · have ho' : wn.ownsRow B 9 1 (.slice (some ⟨q, 0, none⟩) m c) m cs := ⟨hl, .inr ⟨q, c, cur, rfl, hg, hh, hnc, hcm, hsz, htk⟩⟩
      refine ⟨q, c, e, hg, (Array.getElem?_eq_some_iff.1 hh).1, ?_⟩
      rw [ho'.cellAt k (by omega), hcs, List.getElem?_map, hx]
      rfl
  rw [← hm, ← hcs] at M
  rw [← hm] at hml
  rw [← hm] at MEET
  have HM := Lib.hid hm
  have HTK : Hid (rs ⟨(vw d).F, d.used, ch⟩ (ns.take m) = rs ⟨(vw d).F, d.used, ch⟩ ns) := Lib.hid (by rw [hm, List.take_length])
  obtain ⟨q0, hq0⟩ : ∃ q0, q0 = Rs.mk (vw d).F d.used ch := ⟨_, rfl⟩
  obtain ⟨va, vn, vc, hvf⟩ : ∃ a n c, v = .slice a n c := by obtain ⟨a, c, e⟩ := hv.forms; exact ⟨a, _, c, e⟩
  rw [← hq0] at AT0 MEET DONE HTK SB ⊢
  rw [hvf] at AT0 ⊢
  clear h hN hR hv hby hns hu hul hsz hinv0 INV hm hcs hvf
  go_enter Try.func24, Try.ntmps24
  go_wp2_with (go_at_call 47; refine (M.out).mono ?_; rintro e wn ⟨vns, rfl, hrow, hbn⟩; obtain ⟨na, nc, hnf⟩ := forms9 hrow; subst hnf)
  have NR := Lib.hid (NC.out wn _ _ hrow)
  have BN := Lib.hid hbn
  clear hrow hbn M NC
  go_loopw [1, 5, 6, 7, 8, 14] (fun chv _ _ _ _ i wr => ∃ k d', k ≤ m ∧ i = .int .i64 (k : Nat) ∧ At wn S g N R d (rs q0 (ns.take k)) chv wr d') (fun _ _ _ _ _ i _ => m - (intOf i).toNat)
  case atStart => exact ⟨0, d, Nat.zero_le _, rfl, AT0.out wn BN.out⟩
  case round =>
    obtain ⟨k, d', hk, rfl, hat⟩ := hrel
    have HA := Lib.hid hat
    by_cases hkm : k < m
    · obtain ⟨x, f, hx, h64, hf, hu1, hu2, hsy, hnext, hbg⟩ := MEET.out wn wr k _ _ d' hkm rfl hat
      obtain ⟨q, c, hq, hq1, hq2, cn0⟩ := NR.out k x hx
      have cn : wr.cell? ⟨q, k, none⟩ = some (.string (nm x)) := (World.cell?_of_block (hat.chg.block q hq2 (fun e => by have := HLT.out q e; omega))).trans cn0
      obtain ⟨mf, _, _⟩ := hat.dk.fm _ _ hf
      have c0 := hat.dk.cs.c0
      have hl := hat.dk.look (s := nm x) (by unfold maxLen; omega)
      rw [hf] at hl
      simp only [pt, Option.map_some] at hl
      have f0 := mf.c0
      have f1 := mf.c1
      obtain ⟨fa, fc, hfv⟩ := own_forms mf.own
      rw [hfv] at f0
      obtain ⟨r, hr⟩ : ∃ r, r = rs q0 (ns.take k) := ⟨_, rfl⟩
      have HR := Lib.hid hr
      rw [← hr] at HA hnext
      obtain ⟨b, hb⟩ : ∃ b, b = f.blk := ⟨_, rfl⟩
      obtain ⟨L, hL⟩ : ∃ L, L = f.bs.length := ⟨_, rfl⟩
      obtain ⟨K, hK⟩ : ∃ K, K = f.syn := ⟨_, rfl⟩
      obtain ⟨D, hD⟩ : ∃ D, D = L - K := ⟨_, rfl⟩
      obtain ⟨fv, hfvv⟩ : ∃ fv, fv = d'.fv := ⟨_, rfl⟩
      rw [← hb] at hl f0 f1 hbg
      rw [← hL] at f0 hu1 hu2 hsy
      rw [← hK] at f1 hsy
      rw [← hfvv] at c0 hl
      have qd : IntKind.i64.wrap ((L : Int) - (K : Nat)) = (D : Int) := by rw [IntKind.wrap_i64]; omega
      have HQ := Lib.hid hq
      have HX := Lib.hid hx
      have HF := Lib.hid (And.intro hf (And.intro h64 (And.intro hb (And.intro hL (And.intro hK hD)))))
      have HUU := Lib.hid (And.intro hu1 (And.intro hu2 hsy))
      have HNX := Lib.hid hnext
      rw [HQ.out]
      clear hq hx hf h64 hb hL hK hD hnext hat hr hu1 hu2 hsy hfvv mf hfv hq1 hq2 cn0
      by_cases eD : L = K
      · have qd0 : IntKind.i64.wrap ((L : Int) - (K : Nat)) = 0 := by rw [IntKind.wrap_i64]; omega
        have ED := Lib.hid eD
        clear qd eD
        go_wp2_with fail
        go_quiet (fail)
        go_wp2_with fail
        go_roundw
        case rel =>
          obtain ⟨hf, _, hb, hL, hK, hD⟩ := HF.out
          have e1 : r.F (nm x) = some (ab f) := by rw [← HA.out.F]; simp [vw, hf]
          have e2 : stp r x = r := stp_same e1 (by show f.bs.length = f.syn; rw [← hL, ← hK]; exact ED.out)
          refine ⟨k + 1, d', by omega, by go_num, ?_⟩
          rw [HNX.out, e2]
          have a := HA.out
          exact ⟨a.src, a.F, a.used, a.room, a.dk.move (Nat.le_refl _) (fun _ _ => rfl), a.chg.drewN _⟩
        case measure => simp [intOf]; omega
      · have hD0 : ((D : Int) == 0) = false := by have := HF.out.2.2.2.2.2; have := HUU.out.2.2; simp; omega
        have ED := Lib.hid eD
        clear eD
        rcases HA.out.src with ⟨hc0, ca, cc, hu1⟩ | ⟨hc0, cb, off, cc, hu1, hcc, hcR, hcell⟩
        · have HC0 := Lib.hid hc0
          have HU1 := Lib.hid hu1
          have kw : IntKind.i64.wrap (K : Int) = (K : Int) := by have := HUU.out; rw [IntKind.wrap_i64]; omega
          rw [HU1.out]
          clear hc0 hu1
          go_wp2_with fail
          go_quiet (fail)
          obtain ⟨wa, hwa⟩ : ∃ wa, wa = wr.drewN nq := ⟨_, rfl⟩
          have HAA : Hid (At wn S g N R d r u1 wa d') := Lib.hid (by
            have a := HA.out
            rw [hwa]
            exact ⟨a.src, a.F, a.used, a.room, a.dk.move (Nat.le_refl _) (fun _ _ => rfl), a.chg.drewN _⟩)
          have kX : wa.drew.cell? ⟨b, 1, none⟩ = some (.int .i64 (K : Nat)) := by rw [hwa]; exact f1
          have HZ : Hid (K = stays (ab f) r.ch) := Lib.hid (by rw [HC0.out]; unfold stays; show K = f.syn + 0 % _; rw [Nat.zero_mod, HF.out.2.2.2.2.1]; rfl)
          have hD1 : IntKind.i64.wrap ((D : Int) + 1) = (D : Int) + 1 := by have := HF.out.2.2.2.2.2; have := HUU.out; rw [IntKind.wrap_i64]; omega
          rw [← hwa]
          clear hwa
          go_upto_region 11 with (fail)
          have CU := CUTS.out wn wa r u1 (.slice ca 0 cc) d' x f K HAA.out BN.out.size HF.out.1 HF.out.2.1 (by have := HF.out; have := HUU.out; omega) (by have := HF.out; have := HUU.out; omega) (fun e => ED.out (by have := HF.out; omega)) HZ.out (by rw [HC0.out]; exact .inl ⟨rfl, _, _, rfl⟩) (by have := HF.out; have := HUU.out; omega)
          rw [← HF.out.2.2.1] at CU
          have CUH := Lib.hid CU
          clear CU
          go_region_held (fun y => y.cell? ⟨b, 1, none⟩ = some (.int .i64 (K : Nat))) (first | exact kX | exact k9)
            (first | (go_at_call 46; refine CUH.out.mono ?_; rintro e w2 ⟨rfl, f', va', vc', hv', j0, k9', z9, fin⟩; have k9 : w2.cell? ⟨b, 1, none⟩ = some (.int .i64 (K : Nat)) := (by rw [HF.out.2.2.2.2.1]; exact k9'); have FIN := Lib.hid fin; clear fin hv' k9'))
          obtain ⟨T, hT⟩ : ∃ T, T = (f.bs.take K).length := ⟨_, rfl⟩
          rw [← hT] at j0 FIN
          clear hT
          go_wp2_with fail
          go_roundw
          case rel =>
            obtain ⟨d3, h3⟩ := FIN.out _ rfl
            exact ⟨k + 1, d3, by omega, by go_num, by rw [HNX.out]; exact h3⟩
          case measure => simp [intOf]; omega
        · obtain ⟨n1, hn1⟩ : ∃ n1, n1 = r.ch.length := ⟨_, rfl⟩
          obtain ⟨y, hy⟩ : ∃ y, y = Jb.g r.ch 0 := ⟨_, rfl⟩
          have hy9 : y < 256 := by
            rw [hy]
            have := SB.out k
            exact g_lt (by rw [← HR.out] at this; exact this) 0
          have cy0 := hcell 0 hc0
          rw [← hy, Nat.add_zero] at cy0
          rw [← hn1] at hu1 hcc hc0
          have HU1 := Lib.hid hu1
          have HN1 := Lib.hid hn1
          have HY := Lib.hid hy
          have HCELL := Lib.hid hcell
          have HCR := Lib.hid hcR
          obtain ⟨C2, hC2⟩ : ∃ C2, C2 = y % (D + 1) := ⟨_, rfl⟩
          obtain ⟨Z, hZe⟩ : ∃ Z, Z = K + C2 := ⟨_, rfl⟩
          have HZ : Hid (Z = stays (ab f) r.ch) := Lib.hid (by
            have e1 : r.ch.headD 0 = y := by
              rw [hy]
              unfold Jb.g
              cases r.ch <;> rfl
            obtain ⟨_, _, _, e2, e3, e4⟩ := HF.out
            unfold stays
            rw [e1, hZe, hC2, e4, e2, e3]; rfl)
          have hC2l : C2 ≤ D := by have := Nat.mod_lt y (show 0 < D + 1 by omega); omega
          have hD1 : IntKind.i64.wrap ((D : Int) + 1) = (D : Int) + 1 := by have := HF.out.2.2.2.2.2; have := HUU.out; rw [IntKind.wrap_i64]; omega
          have hr1 : ((y : Int)).tmod ((D : Int) + 1) = (C2 : Int) := by
            rw [hC2, Int.tmod_eq_emod_of_nonneg (by omega), Int.natCast_emod]
            rfl
          have hr2 : IntKind.i64.wrap ((K : Int) + (C2 : Nat)) = (Z : Int) := by have := HF.out.2.2.2.2.2; have := HUU.out; rw [IntKind.wrap_i64]; omega
          have HZZ := Lib.hid hZe
          rw [HU1.out]
          clear hy hn1 hu1 hcell hcR hC2 hZe hC2l
          by_cases hc1 : cc = 1
          · have hn : n1 = 1 := by omega
            have HN := Lib.hid hn
            subst hc1
            subst hn
            go_wp2_with fail
            go_quiet (fail)
            obtain ⟨wa, hwa⟩ : ∃ wa, wa = wr.drewN nq := ⟨_, rfl⟩
            have HAA : Hid (At wn S g N R d r u1 wa d') := Lib.hid (by
              have a := HA.out
              rw [hwa]
              exact ⟨a.src, a.F, a.used, a.room, a.dk.move (Nat.le_refl _) (fun _ _ => rfl), a.chg.drewN _⟩)
            have kX : wa.drew.cell? ⟨b, 1, none⟩ = some (.int .i64 (K : Nat)) := by rw [hwa]; exact f1
            have cyA : wa.cell? ⟨cb, off, none⟩ = some (.int .u8 (y : Nat)) := by rw [hwa]; exact cy0
            have HSR : Hid (Src wa R (.slice (some ⟨cb, off, none⟩) 0 0) r.ch.tail) := Lib.hid (.inl ⟨List.length_eq_zero_iff.1 (by rw [List.length_tail]; have := HN1.out; omega), _, _, rfl⟩)
            rw [← hwa]
            clear hwa
            go_upto_region 11 with (fail)
            have CU := CUTS.out wn wa r u1 (.slice (some ⟨cb, off, none⟩) 0 0) d' x f Z HAA.out BN.out.size HF.out.1 HF.out.2.1 (by have := HF.out; have := HUU.out; omega) (by have := HF.out; have := HUU.out; omega) (fun e => ED.out (by have := HF.out; omega)) HZ.out HSR.out (by have := HF.out; have := HUU.out; omega)
            rw [← HF.out.2.2.1] at CU
            have CUH := Lib.hid CU
            clear CU
            go_region_held (fun y => y.cell? ⟨b, 1, none⟩ = some (.int .i64 (K : Nat))) (first | exact kX | exact k9)
              (first | (go_at_call 46; refine CUH.out.mono ?_; rintro e w2 ⟨rfl, f', va', vc', hv', j0, k9', z9, fin⟩; have k9 : w2.cell? ⟨b, 1, none⟩ = some (.int .i64 (K : Nat)) := (by rw [HF.out.2.2.2.2.1]; exact k9'); have FIN := Lib.hid fin; clear fin hv' k9'))
            obtain ⟨T, hT⟩ : ∃ T, T = (f.bs.take Z).length := ⟨_, rfl⟩
            rw [← hT] at j0 FIN
            clear hT
            go_wp2_with fail
            go_roundw
            case rel =>
              obtain ⟨d3, h3⟩ := FIN.out _ rfl
              exact ⟨k + 1, d3, by omega, by go_num, by rw [HNX.out]; exact h3⟩
            case measure => simp [intOf]; omega
          · have hcc2 : 1 < cc := by omega
            clear hc1
            go_wp2_with fail
            go_quiet (fail)
            obtain ⟨wa, hwa⟩ : ∃ wa, wa = wr.drewN nq := ⟨_, rfl⟩
            have HAA : Hid (At wn S g N R d r u1 wa d') := Lib.hid (by
              have a := HA.out
              rw [hwa]
              exact ⟨a.src, a.F, a.used, a.room, a.dk.move (Nat.le_refl _) (fun _ _ => rfl), a.chg.drewN _⟩)
            have kX : wa.drew.cell? ⟨b, 1, none⟩ = some (.int .i64 (K : Nat)) := by rw [hwa]; exact f1
            have cyA : wa.cell? ⟨cb, off, none⟩ = some (.int .u8 (y : Nat)) := by rw [hwa]; exact cy0
            have HSR : Hid (Src wa R (.slice (some ⟨cb, off + 1, none⟩) (n1 - 1) (cc - 1)) r.ch.tail) := Lib.hid (by
              have el : r.ch.tail.length = n1 - 1 := by rw [List.length_tail]; have := HN1.out; omega
              by_cases h0 : n1 - 1 = 0
              · exact .inl ⟨List.length_eq_zero_iff.1 (by omega), _, _, by rw [h0]⟩
              · refine .inr ⟨by omega, cb, off + 1, cc - 1, by rw [el], by omega, HCR.out, fun i hi => ?_⟩
                have := HCELL.out (i + 1) (by have := HN1.out; omega)
                rw [hwa, show off + 1 + i = off + (i + 1) by omega]
                refine Eq.trans this ?_
                have e : Jb.g r.ch (i + 1) = Jb.g r.ch.tail i := by
                  unfold Jb.g
                  cases r.ch <;> simp
                rw [e])
            rw [← hwa]
            clear hwa
            go_upto_region 11 with (fail)
            have CU := CUTS.out wn wa r u1 (.slice (some ⟨cb, off + 1, none⟩) (n1 - 1) (cc - 1)) d' x f Z HAA.out BN.out.size HF.out.1 HF.out.2.1 (by have := HF.out; have := HUU.out; omega) (by have := HF.out; have := HUU.out; omega) (fun e => ED.out (by have := HF.out; omega)) HZ.out HSR.out (by have := HF.out; have := HUU.out; omega)
            rw [← HF.out.2.2.1] at CU
            have CUH := Lib.hid CU
            clear CU
            go_region_held (fun y => y.cell? ⟨b, 1, none⟩ = some (.int .i64 (K : Nat))) (first | exact kX | exact k9)
              (first | (go_at_call 46; refine CUH.out.mono ?_; rintro e w2 ⟨rfl, f', va', vc', hv', j0, k9', z9, fin⟩; have k9 : w2.cell? ⟨b, 1, none⟩ = some (.int .i64 (K : Nat)) := (by rw [HF.out.2.2.2.2.1]; exact k9'); have FIN := Lib.hid fin; clear fin hv' k9'))
            obtain ⟨T, hT⟩ : ∃ T, T = (f.bs.take Z).length := ⟨_, rfl⟩
            rw [← hT] at j0 FIN
            clear hT
            go_wp2_with fail
            go_roundw
            case rel =>
              obtain ⟨d3, h3⟩ := FIN.out _ rfl
              exact ⟨k + 1, d3, by omega, by go_num, by rw [HNX.out]; exact h3⟩
            case measure => simp [intOf]; omega
    · have ek : m = k := by omega
      subst ek
      have c5 := HA.out.dk.cs.c5
      have z5 := HA.out.dk.cs.z 5
      have FU := Lib.hid (fun (w3 : World) (dd : St) (hc : Cs w3 g dd) => setFuse21 w3 g dd (-1) (by omega) hc)
      have KC := Lib.hid (HA.out.dk.cs.set5 false)
      clear hkm hk hat
      go_wp2_with (go_at_call 22; refine (FU.out _ _ KC.out).mono ?_; rintro e w5 ⟨rfl, k1, k2⟩)
      refine bodyPost_end (v := .tuple #[]) (by simp [results, Try.results24, go_sem]) rfl ⟨rfl, ?_⟩
      have ha := HA.out
      rw [HTK.out] at ha
      refine DONE.out wn wr _ _ d' ha BN.out (((Chg.refl wr (fun k => k = g)).setCell rfl _).trans k2 fun k hk _ => hk) ?_
      exact ⟨k1.c0, k1.c1, k1.c2, k1.c3, k1.c4, k1.c5, k1.z, k1.bu, k1.br, k1.bf⟩
end J3
end Go.Proofs.Ytcjfdebjgaohlaa

/- The disk's other calls by what is seen of it; the states of the law DiskFuses. -/
namespace Go.Proofs.Ytcjfdebjgaohlaa
open Go.RowKit Go.Maps Go.ChangeMaps Go.MapKept
namespace J4
open Jb Jm Jd Jw Jx Jn Je Jf Jg Jh Jk Jc Jl Jo Jq J1 J2 J3

theorem SetFuse_c (w : World) (S : Nat → Prop) (g N : Nat) (V : Vw) (h : DV w S g N V) (n : Int) (hn : -9223372036854775808 ≤ n ∧ n ≤ 9223372036854775807) :
    Calls Try.prog 22 #[.pointer (some ⟨g, 0, none⟩), .int .i64 n] w fun e w' => e = .returned (.tuple #[]) ∧ DV w' S g N { V with fused := decide (0 ≤ n), fuse := n.toNat } ∧ Chg w w' S := by
  obtain ⟨d, h, rfl⟩ := h
  refine (setFuse21 w g d n hn h.cs).mono ?_
  rintro e w' ⟨rfl, k1, k2⟩
  exact ⟨rfl, ⟨_, h.nums k2 k1 rfl rfl, rfl⟩, k2.imp fun k hk _ => hk ▸ h.sg⟩
theorem SetRoom_c (w : World) (S : Nat → Prop) (g N : Nat) (V : Vw) (h : DV w S g N V) (n : Int) (hn : -9223372036854775808 ≤ n ∧ n ≤ 9223372036854775807) :
    Calls Try.prog 12 #[.pointer (some ⟨g, 0, none⟩), .int .i64 n] w fun e w' => e = .returned (.tuple #[]) ∧ DV w' S g N { V with room := n.toNat } ∧ Chg w w' S := by
  obtain ⟨d, h, rfl⟩ := h
  refine (setRoom20 w g d n hn h.cs).mono ?_
  rintro e w' ⟨rfl, k1, k2⟩
  exact ⟨rfl, ⟨_, h.nums k2 k1 rfl rfl, rfl⟩, k2.imp fun k hk _ => hk ▸ h.sg⟩
theorem List_any (w : World) (S : Nat → Prop) (g N : Nat) (V : Vw) (h : DV w S g N V) (hN : N ≤ 8796093022208) (ns : List (List UInt8)) (hn : Names V.F ns) :
    Calls Try.prog 28 #[.pointer (some ⟨g, 0, none⟩)] w fun e w' => (∃ v, e = .returned v) ∧ Below w.heap.size w w' := by
  cases hd : V.down
  · refine (list_up w S g N V h hd hN ns hn).mono ?_
    rintro e w' ⟨v, rfl, _, hb⟩
    exact ⟨⟨v, rfl⟩, hb⟩
  · refine (list_down w S g N V h hd).mono ?_
    rintro e w' ⟨rfl, rfl⟩
    exact ⟨⟨_, rfl⟩, Below.refl _ _⟩
theorem Read_any (w : World) (S : Nat → Prop) (g N : Nat) (V : Vw) (h : DV w S g N V) (s : ByteArray) (hs : s.size ≤ 140737488355328) (hb : ∀ b, V.F s = some b → b.1.length ≤ 140737488355328) :
    Calls Try.prog 26 #[.pointer (some ⟨g, 0, none⟩), .string s] w fun e w' => (∃ v, e = .returned (.tuple #[v, .int .i64 (finE V s : Nat)])) ∧ Below w.heap.size w w' := by
  by_cases hE : finE V s = 0
  · have h0 := hE
    unfold finE at h0
    split at h0
    · cases h0
    · rename_i hd
      split at h0
      · cases h0
      · rename_i hF
        cases hf : V.F s with
        | none => rw [hf] at hF; simp at hF
        | some b =>
          rw [hE]
          refine (Read_c w S g N V h s hs b.1 b.2 (by simpa using hd) hf (hb b hf)).mono ?_
          rintro e w' ⟨v, rfl, _, hbl⟩
          exact ⟨⟨v, rfl⟩, hbl⟩
  · refine (Read_bad w S g N V h s hs hE).mono ?_
    rintro e w' ⟨rfl, rfl⟩
    exact ⟨⟨_, rfl⟩, Below.refl _ _⟩
theorem Restart_c (w : World) (S : Nat → Prop) (g N : Nat) (V : Vw) (h : DV w S g N V) (hN : N ≤ 8796093022208) (R : Nat → Prop) (hR : ∀ k, R k → ¬ S k ∧ k < w.heap.size) (v : Value) (ch : List Nat) (hv : Src w R v ch) (hby : ∀ x ∈ ch, x < 256)
    (ns : List (List UInt8)) (hns : Names V.F ns) (hu : V.used = tot V.F ns) (hul : V.used ≤ 140737488355328) (hsz : ∀ x ∈ ns, x.length ≤ 64) (hml : ns.length ≤ 8796093022208) :
    Calls Try.prog 24 #[.pointer (some ⟨g, 0, none⟩), v] w fun e w' => e = .returned (.tuple #[]) ∧ DV w' (New S w w') g N (rsV V (rs ⟨V.F, V.used, ch⟩ ns)) ∧ Chg w w' S := by
  obtain ⟨d, h, rfl⟩ := h
  refine (restart15 w S g N d h hN R hR v ch hv hby ns hns hu hul hsz hml).mono ?_
  rintro e w' ⟨rfl, d', h1, h2, h3⟩
  exact ⟨rfl, ⟨d', h2, h1⟩, h3⟩
theorem rs_used_le : ∀ (l : List (List UInt8)) (q : Rs), (rs q l).used ≤ q.used := by
  intro l
  induction l with
  | nil => intro q; exact Nat.le_refl _
  | cons y l ih =>
    intro q
    refine Nat.le_trans (ih (stp q y)) ?_
    unfold stp
    split
    · exact Nat.le_refl _
    · split
      · exact Nat.le_refl _
      · exact Nat.sub_le _ _
/-- A disk with at most the file a. -/
def F1 (o : Option (List Nat × Nat)) : FT := fun x => if x = sa then o else none
def ns1 (o : Option (List Nat × Nat)) : List (List UInt8) := if o.isSome then [[97]] else []
theorem nm97 : nm [97] = sa := rfl
theorem names1 (o : Option (List Nat × Nat)) : Names (F1 o) (ns1 o) := by
  cases o with
  | none => exact ⟨by simp [ns1], fun x => by simp [ns1, F1]⟩
  | some b =>
    refine ⟨by simp [ns1], fun x => ?_⟩
    simp only [ns1, F1, Option.isSome_some, if_true, List.mem_singleton]
    constructor
    · rintro rfl; rw [nm97, if_pos rfl]; simp
    · intro h
      by_cases e : nm x = sa
      · exact nm_inj (e.trans nm97.symm)
      · rw [if_neg e] at h; exact absurd rfl h
theorem tot1 (o : Option (List Nat × Nat)) : tot (F1 o) (ns1 o) = (o.getD ([], 0)).1.length := by
  cases o with
  | none => rfl
  | some b =>
    show (List.map _ [[97]]).sum = _
    simp only [List.map_cons, List.map_nil, List.sum_cons, List.sum_nil, lenAt, nm97]
    rfl
theorem ns1_len (o : Option (List Nat × Nat)) : (ns1 o).length ≤ 1 := by cases o <;> simp [ns1]
theorem ns1_sz (o : Option (List Nat × Nat)) : ∀ x ∈ ns1 o, x.length ≤ 64 := by
  intro x hx
  cases o with
  | none => simp [ns1] at hx
  | some b => simp [ns1] at hx; subst hx; decide
/-- The disk of DiskFuses. -/
def VX (n i : Nat) (bs : List Nat) (down : Bool) : Vw :=
  ⟨F1 (if i = 0 then none else some ((List.replicate i bs).flatten, 0)), i * bs.length, 1048576, true, n - i, down⟩
theorem cont_len (i : Nat) (bs : List Nat) : ((List.replicate i bs).flatten).length = i * bs.length := by simp
theorem VX_tot (n i : Nat) (bs : List Nat) (down : Bool) : (VX n i bs down).used = tot (VX n i bs down).F (ns1 (if i = 0 then none else some ((List.replicate i bs).flatten, 0))) := by
  show i * bs.length = tot (F1 _) _
  rw [tot1]
  by_cases h : i = 0
  · rw [if_pos h, h]; simp
  · rw [if_neg h]; simp
theorem VX_old (n i : Nat) (bs : List Nat) (down : Bool) : old (VX n i bs down) sa = ((List.replicate i bs).flatten, 0) := by
  unfold old VX F1
  by_cases h : i = 0
  · simp [h]
  · simp [h]
theorem VX_free {n i : Nat} {bs : List Nat} (hn : n ≤ 255) (hi : i ≤ n) (hl : bs.length ≤ 100) (down : Bool) : bs.length ≤ Vw.free (VX n i bs down) ∧ i * bs.length ≤ 25500 := by
  have : i * bs.length ≤ 255 * 100 := Nat.mul_le_mul (by omega) hl
  refine ⟨?_, by omega⟩
  show bs.length ≤ 1048576 - i * bs.length
  omega
theorem VX_lost {n i : Nat} {bs : List Nat} {down : Bool} : (VX n i bs down).lost = decide (n - i = 0) := by
  unfold Vw.lost VX
  by_cases h : n - i = 0 <;> simp [h]
theorem VX_step {n i : Nat} {bs : List Nat} (hn : n ≤ 255) (hi : i < n) (hl : bs.length ≤ 100) : appV (VX n i bs false) sa bs = VX n (i + 1) bs false ∧ appE (VX n i bs false) sa bs.length = 0 := by
  have hlost : (VX n i bs false).lost = false := by rw [VX_lost]; exact decide_eq_false (by omega)
  have hf := VX_free hn (Nat.le_of_lt hi) hl false
  constructor
  · unfold appV
    rw [if_neg (by simp [VX]), if_pos nm_sa, if_neg (by rw [hlost]; simp), VX_old]
    have e2 : min bs.length (Vw.free (VX n i bs false)) = bs.length := Nat.min_eq_left hf.1
    rw [e2, List.take_length]
    have e3 : (VX n i bs false).op = { VX n i bs false with fuse := n - i - 1 } := by
      unfold Vw.op
      rw [hlost]
      rfl
    rw [e3]
    refine vw_ext (fun x => ?_) ?_ rfl rfl ?_ rfl
    · show (if x = sa then _ else F1 _ x) = F1 _ x
      unfold F1
      by_cases e : x = sa
      · rw [if_pos e, if_pos e, if_neg (by omega)]
        simp [List.replicate_succ']
      · rw [if_neg e, if_neg e, if_neg e]
    · show i * bs.length + bs.length = (i + 1) * bs.length
      rw [Nat.succ_mul]
    · show n - i - 1 = n - (i + 1)
      omega
  · unfold appE
    rw [if_neg (by simp [VX]), if_pos nm_sa, if_neg (by rw [hlost]; simp), if_neg (by omega)]
theorem VX_end {n : Nat} {bs : List Nat} : appV (VX n n bs false) sa bs = VX n n bs true ∧ appE (VX n n bs false) sa bs.length = 8 := by
  have hlost : (VX n n bs false).lost = true := by rw [VX_lost]; exact decide_eq_true (by omega)
  constructor
  · unfold appV
    rw [if_neg (by simp [VX]), if_pos nm_sa, if_pos hlost]
    unfold Vw.op
    rw [if_pos hlost]
    rfl
  · unfold appE
    rw [if_neg (by simp [VX]), if_pos nm_sa, if_pos hlost]
theorem VX_down {n i : Nat} {bs : List Nat} {s : ByteArray} {cs : List Nat} : appV (VX n i bs true) s cs = VX n i bs true ∧ ∀ l, appE (VX n i bs true) s l = 8 :=
  ⟨by unfold appV; rw [if_pos (by simp [VX])], fun l => by unfold appE; rw [if_pos (by simp [VX])]⟩
def s0 : ByteArray := ⟨#[]⟩
theorem nm_s0 : isNm s0 = false := by kernel_rfl
theorem app_s0 (V : Vw) (cs : List Nat) : appV V s0 cs = V := by
  unfold appV
  split
  · rfl
  · rw [if_neg (by rw [nm_s0]; simp)]
end J4
end Go.Proofs.Ytcjfdebjgaohlaa
