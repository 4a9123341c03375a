import Derived.Test.YtcjfdebjgaohlaaG00
import Derived.Test.YtcjfdebjgaohlaaG01
import Derived.Deep.RegionHeldLaw

/- Names of all files, rising: the library's part. -/
namespace Go.Proofs.Ytcjfdebjgaohlaa
open Go.RowKit Go.Maps Go.Sort Go.Shelf
namespace Ji
theorem sorts53 (m : Nat) : AnyZ.SortsIn Try.prog Try.sorted53_ren Fence.wide m :=
  ⟨fun blk off cap ss W hH hblk hsz => callsIn_wide.2 (AnyM.slices_Sort_string Try.sort57 blk off cap ss W hH hblk hsz),
   fun p cap W => callsIn_wide.2 (AnyM.slices_Sort_string_none Try.sort57 p cap W)⟩

theorem maps_Keys_54 (mb : Option Nat) (W : World) : CallsIn Fence.wide 5 Try.prog 51 #[.map mb] W fun e w' => e = .returned (.func (.func 54) #[] #[.pointer (some ⟨W.heap.size, 0, none⟩)]) ∧ w' = W.alloc (.cells #[.map mb] 39) :=
  AnyZ.keys_in Try.keys54 Fence.wide 5 trivial rfl mb W

set_option maxHeartbeats 1000000 in
theorem slices_Sorted_keys_53_54 {H : Type} (b nn : Nat) (D0 : DataW H) (R : Value → Option (DataW H × List MemPlace)) (w : World) (hown : w.ownsMap Try.prog 9 R b nn D0) (hmax : Maps.size D0 ≤ maxLen) (hbytes : Maps.size D0 * 16 ≤ 140737488355328) :
    CallsIn Fence.wide 5 Try.prog 50 #[.func (.func 54) #[] #[.pointer (some ⟨w.heap.size, 0, none⟩)]] (w.alloc (.cells #[.map (some b)] 39)) fun e w' => ∃ (v : Value) (ss : List (List UInt8)), e = .returned v ∧ ss.Perm (strKeys D0) ∧
      w'.ownsRow (w.alloc (.cells #[.map (some b)] 39)).heap.size 9 1 v ss.length ((ss.mergeSort (fun x y => decide (x ≤ y))).map encStr) ∧ (v = .slice none 0 0 ↔ ss = []) ∧ Below (w.alloc (.cells #[.map (some b)] 39)).heap.size (w.alloc (.cells #[.map (some b)] 39)) w' := by
  have hbl := hown.lt
  have hseq : SeqGives Fence.wide 2 Try.prog 54 #[.pointer (some ⟨w.heap.size, 0, none⟩)] encStr (fun ss => ss.Perm (strKeys D0)) (Maps.size D0) (w.alloc (.cells #[.map (some b)] 39)) :=
    AnyZ.keys_gives (ρ := Try.keys54_ren) { Try.keys54 with } Fence.wide _ trivial rfl (by omega) w.heap.size b nn D0 _ (by simp) (by simp) (by
      obtain ⟨es, clock, hb, Ft, hs, hD⟩ := hown
      exact ⟨es, clock, (Below.heap_alloc _ _ b hbl).trans hb, Ft, hs, hD⟩)
  exact AnyZ.sorted_in Try.sorted53 Fence.wide 5 trivial trivial trivial trivial rfl (by omega) (sorts53 _) (enters_of Try.func53 (by kernel_rfl) rfl) 54 #[.pointer (some ⟨w.heap.size, 0, none⟩)] trivial (enters_of Try.func54 (by kernel_rfl) rfl) _ _ hmax hbytes _ hseq

set_option maxHeartbeats 1000000 in
theorem slices_Sorted_keys_nil_53_54 (w : World) :
    CallsIn Fence.wide 5 Try.prog 50 #[.func (.func 54) #[] #[.pointer (some ⟨w.heap.size, 0, none⟩)]] (w.alloc (.cells #[.map none] 39)) fun e w' => ∃ (v : Value) (ss : List (List UInt8)), e = .returned v ∧ ss = [] ∧
      w'.ownsRow (w.alloc (.cells #[.map none] 39)).heap.size 9 1 v ss.length ((ss.mergeSort (fun x y => decide (x ≤ y))).map encStr) ∧ (v = .slice none 0 0 ↔ ss = []) ∧ Below (w.alloc (.cells #[.map none] 39)).heap.size (w.alloc (.cells #[.map none] 39)) w' := by
  have hseq : SeqGives Fence.wide 2 Try.prog 54 #[.pointer (some ⟨w.heap.size, 0, none⟩)] encStr (fun ss : List (List UInt8) => ss = []) 0 (w.alloc (.cells #[.map none] 39)) :=
    AnyZ.keys_gives_nil (ρ := Try.keys54_ren) { Try.keys54 with } Fence.wide _ trivial rfl w.heap.size _ (by simp) (by simp)
  exact AnyZ.sorted_in Try.sorted53 Fence.wide 5 trivial trivial trivial trivial rfl (by omega) (sorts53 _) (enters_of Try.func53 (by kernel_rfl) rfl) 54 #[.pointer (some ⟨w.heap.size, 0, none⟩)] trivial (enters_of Try.func54 (by kernel_rfl) rfl) _ 0 (Nat.zero_le _) (by omega) _ hseq

end Ji
end Go.Proofs.Ytcjfdebjgaohlaa

/- The names of a disk's files, rising; copies of strings and of bytes. -/
namespace Go.Proofs.Ytcjfdebjgaohlaa
open Go.RowKit Go.Maps Go.ChangeMaps Go.MapKept
namespace Jn
open Jb Jm Jd Jw Jx

theorem keys_row {_ : List (Lit × DataW Unit)} : True := trivial
/-- The map's keys, sorted. -/
theorem sorted_keys {w : World} {m n : Nat} {F : ByteArray → Option Nat} {D : DataW Unit} (h1 : w.ownsMap Try.prog 9 R m n D) (hk : ∀ l, Maps.has D l = true → ∃ s, F s ≠ none ∧ l = key s) (h2 : ∀ s q, F s = some q → Maps.has D (key s) = true)
    {ns ss : List (List UInt8)} (hp : ns.Pairwise (· < ·)) (hm : ∀ x, x ∈ ns ↔ ∃ s, F s ≠ none ∧ s.data.toList = x) (hS : ss.Perm (strKeys D)) : ss.mergeSort (fun x y => decide (x ≤ y)) = ns := by
  obtain ⟨es, rfl, hne⟩ := h1.tidy law
  have hns : ns.Perm (strKeys (.map es)) := by
    refine perm_strKeys hne (fun p hp' => ?_) (hp.imp fun {a b} hab e => ?_) (fun x => ?_)
    · obtain ⟨es', e', hk'⟩ := h1.keysOf
      cases e'
      obtain ⟨v, hv⟩ := hk' p hp'
      obtain ⟨s, _, e⟩ := hk p.1 (by rw [has_eq]; exact List.any_eq_true.2 ⟨p, hp', WideAt.sameKey_self (law.key hv)⟩)
      exact ⟨_, e⟩
    · subst e; exact List.lt_irrefl a hab
    · rw [hm x]
      constructor
      · rintro ⟨s, hs, rfl⟩
        obtain ⟨q, hq⟩ := Option.ne_none_iff_exists'.1 hs
        exact h2 s q hq
      · intro hx
        obtain ⟨s, hs, e⟩ := hk _ hx
        unfold key at e
        injection e with e
        exact ⟨s, hs, e.symm⟩
  have e1 := mergeSort_of_perm (hS.trans hns.symm)
  have e2 : ns.mergeSort leB = ns := List.mergeSort_of_pairwise (hp.imp fun {a b} hab => by simpa [leB] using List.le_of_lt hab)
  exact e1.trans e2
theorem names43 (w : World) (S : Nat → Prop) (g N : Nat) (d : St) (h : Dk w S g N d) (hN : N ≤ 8796093022208) (ns : List (List UInt8)) (hp : ns.Pairwise (· < ·)) (hm : ∀ x, x ∈ ns ↔ ∃ s f, d.F s = some f ∧ s.data.toList = x) :
    Calls Try.prog 47 #[.pointer (some ⟨g, 0, none⟩)] w fun e w' => ∃ v, e = .returned v ∧ w'.ownsRow w.heap.size 9 1 v ns.length (ns.map encStr) ∧ Below w.heap.size w w' := by
  have c0 := h.cs.c0
  rcases h.fv with ⟨a, b⟩ | ⟨m, a, _, _, i⟩
  · have e0 : ns = [] := by
      cases ns with
      | nil => rfl
      | cons x r => obtain ⟨s, f, hf, _⟩ := (hm x).1 (by simp); rw [b s] at hf; cases hf
    subst e0
    rw [a] at c0
    have HK := Lib.hid (callsIn_wide.1 (Ji.maps_Keys_54 none w))
    have HS := Lib.hid (callsIn_wide.1 (Ji.slices_Sorted_keys_nil_53_54 w))
    clear h a b hm hp
    go_enter Try.func47, Try.ntmps47
    go_wp2_with (first | (go_at_call 51; refine (HK.out).mono ?_; rintro e w' ⟨rfl, rfl⟩) | (go_at_call 50; refine (HS.out).mono ?_; rintro e w' ⟨v, ss, rfl, rfl, hrow, hnil, hb⟩))
    go_ret
    exact ⟨v, rfl, Go.Joins.ownsRow_le (by simpa using hrow) (Nat.le_succ _), ((Below.refl _ w).alloc (Nat.le_refl _) _).trans (hb.mono (by simp))⟩
  · obtain ⟨D, h1, h64, hk, h2⟩ := i
    rw [a] at c0
    have hsz := h1.size_le
    have HK := Lib.hid (callsIn_wide.1 (Ji.maps_Keys_54 (some m) w))
    have HS := Lib.hid (callsIn_wide.1 (Ji.slices_Sorted_keys_53_54 m N D R w h1 (by unfold maxLen; omega) (by omega)))
    have HR := Lib.hid (fun ss => sorted_keys (ss := ss) h1 hk (fun s q e => ((h2 s).2 q e).1) hp (fun x => by
      rw [hm x]
      constructor
      · rintro ⟨s, f, hf, e⟩; exact ⟨s, by simp [hf], e⟩
      · rintro ⟨s, hf, e⟩
        obtain ⟨q, hq⟩ := Option.ne_none_iff_exists'.1 hf
        cases hfs : d.F s with
        | none => rw [hfs] at hq; cases hq
        | some f => exact ⟨s, f, hfs, e⟩))
    clear h a h1 h64 hk h2 hm hp hsz
    go_enter Try.func47, Try.ntmps47
    go_wp2_with (first | (go_at_call 51; refine (HK.out).mono ?_; rintro e w' ⟨rfl, rfl⟩) | (go_at_call 50; refine (HS.out).mono ?_; rintro e w' ⟨v, ss, rfl, hS, hrow, hnil, hb⟩))
    go_ret
    have e := HR.out ss hS
    rw [e] at hrow
    have el : ss.length = ns.length := by rw [← e]; simp
    rw [el] at hrow
    exact ⟨v, rfl, Go.Joins.ownsRow_le hrow (by simp), ((Below.refl _ w).alloc (Nat.le_refl _) _).trans (hb.mono (by simp))⟩
/-- strings.Clone. -/
theorem clone47 (w : World) (s : ByteArray) (hs : s.size ≤ 140737488355328) : Calls Try.prog 44 #[.string s] w fun e w' => e = .returned (.string s) ∧ Below w.heap.size w w' := by
  have HC := Lib.hid (Try.stringslite_Clone s w (by omega))
  clear hs
  go_enter Try.func44, Try.ntmps44
  go_wp2_with (go_at_call 49; refine (HC.out).mono ?_; rintro e w' ⟨rfl, hb⟩)
  go_ret
  exact ⟨rfl, hb⟩
/-- bytes.Clone. -/
theorem clone45 (w : World) (R : Nat → Prop) (v : Value) (bs : List Nat) (h : Src w R v bs) (hb : bs.length ≤ 140737488355328) :
    Calls Try.prog 48 #[v] w fun e w' => ∃ v', e = .returned v' ∧ w'.ownsRow w.heap.size 5 1 v' bs.length (u8s bs) ∧ Below w.heap.size w w' := by
  have key : ∀ (a : Addr) (n c : Nat), n = bs.length → (∀ i, i < n → w.cell? (a.add i) = some (.int .u8 ((bs.map fun b : Nat => (b : Int)).getD i 0))) →
      Calls Try.prog 48 #[.slice (some a) n c] w fun e w' => ∃ v', e = .returned v' ∧ w'.ownsRow w.heap.size 5 1 v' bs.length (u8s bs) ∧ Below w.heap.size w w' := by
    intro a n c hn hc
    refine (Try.bytes_Clone_at a n c (bs.map fun b : Nat => (b : Int)) w (by simp [hn]) (by omega) hc).mono ?_
    rintro e w' ⟨v', rfl, hrow, _, hbl⟩
    refine ⟨v', rfl, ?_, hbl⟩
    rw [← hn]
    simpa [u8s, Function.comp_def] using hrow
  rcases h with ⟨rfl, a, c, rfl⟩ | ⟨h0, b, off, c, rfl, hl, hR, hcell⟩
  · cases a with
    | none =>
      refine (Try.bytes_Clone_nil 0 c w).mono ?_
      rintro e w' ⟨rfl, rfl⟩
      exact ⟨_, rfl, World.ownsRow_nil _ _ _ _, Below.refl _ _⟩
    | some a => exact key a 0 c rfl (fun i hi => by omega)
  · refine key ⟨b, off, none⟩ _ c rfl (fun i hi => ?_)
    have := hcell i hi
    rw [show (Addr.add ⟨b, off, none⟩ i) = ⟨b, off + i, none⟩ by by_cases hi0 : i = 0 <;> simp [Addr.add, hi0], this]
    simp [g, List.getD_eq_getElem?_getD, hi]
end Jn
end Go.Proofs.Ytcjfdebjgaohlaa

/- cut, drop, made. -/
namespace Go.Proofs.Ytcjfdebjgaohlaa
open Go.RowKit Go.Maps Go.ChangeMaps Go.MapKept
namespace Jc
open Jb Jm Jd Jw Jx Jn

set_option maxRecDepth 100000 in
theorem cut44 (w : World) (S : Nat → Prop) (g N : Nat) (d : St) (h : Dk w S g N d) (s : ByteArray) (f : Fi) (hf : d.F s = some f) (n : Nat) (hn : n ≤ f.bs.length) (hu : f.bs.length ≤ d.used) (hb : f.bs.length ≤ 140737488355328) :
    Calls Try.prog 46 #[.pointer (some ⟨g, 0, none⟩), .pointer (some ⟨f.blk, 0, none⟩), .int .i64 (n : Nat)] w fun e w' => e = .returned (.tuple #[]) ∧
      ∃ f', f'.blk = f.blk ∧ f'.bs = f.bs.take n ∧ f'.syn = min f.syn n ∧ Dk w' (New S w w') g N { d with F := fun x => if x = s then some f' else d.F x, used := d.used - (f.bs.length - n) } ∧ Chg w w' (fun k => k = g ∨ foot f k) := by
  obtain ⟨fm, fg, fs⟩ := h.fm s f hf
  have c1 := h.cs.c1
  have z1 := h.cs.z 1
  have f0 := fm.c0
  have f1 := fm.c1
  have y0 := fm.z0
  have y1 := fm.z1
  have bu := h.cs.bu
  have hne : f.blk ≠ g := fun e => fg (.inl e.symm)
  obtain ⟨b, hbk⟩ : ∃ b, b = f.blk := ⟨_, rfl⟩
  obtain ⟨L, hL⟩ : ∃ L, L = f.bs.length := ⟨_, rfl⟩
  obtain ⟨U, hU⟩ : ∃ U, U = d.used := ⟨_, rfl⟩
  obtain ⟨V, hV⟩ : ∃ V, V = f.v := ⟨_, rfl⟩
  obtain ⟨K, hK⟩ : ∃ K, K = f.syn := ⟨_, rfl⟩
  rw [← hbk] at f0 f1 y0 y1 hne ⊢
  rw [← hL] at hn hu hb
  rw [← hU] at c1 hu bu
  rw [← hV] at f0
  rw [← hK] at f1
  have own := fm.own
  rw [← hV, ← hL] at own
  have forms : ∃ a c, V = .slice a L c := by
    rcases Go.Joins.ownsRow_forms own with ⟨rfl, e⟩ | ⟨q, c, rfl⟩
    · exact ⟨none, 0, by rw [e]⟩
    · exact ⟨_, c, rfl⟩
  obtain ⟨A, C, hVf⟩ := forms
  have hnC : n ≤ C := by
    have := own_cap (hVf ▸ own)
    omega
  have hmin : (min (K : Int) (n : Int)) = ((min K n : Nat) : Int) := by omega
  have HMIN := Lib.hid hmin
  clear hmin
  have q1 : IntKind.i64.wrap ((L : Int) - (n : Nat)) = ((L - n : Nat) : Int) := by rw [IntKind.wrap_i64]; omega
  have q2 : IntKind.i64.wrap ((U : Int) - ((L - n : Nat) : Int)) = ((U - (L - n) : Nat) : Int) := by rw [IntKind.wrap_i64]; omega
  have HH := Lib.hid h
  have HF := Lib.hid hf
  have HFM := Lib.hid fm
  have HO := Lib.hid own
  have HN := Lib.hid hn
  have HE := Lib.hid (And.intro hbk (And.intro hL (And.intro hU (And.intro hV hK))))
  have HB := Lib.hid hb
  have HVF := Lib.hid hVf
  rw [hVf] at f0
  clear h hf fm own hn fg fs hbk hL hU hV hK hb hu bu hVf
  have FIN : ∀ f' : Fi, ∀ w' : World, Cs w' g { d with used := U - (L - n), F := fun x => if x = s then some f' else d.F x } → Fm w' f' → f'.blk = b → f'.bs = f.bs.take n → f'.syn = min K n → Chg w w' (fun k => k = g ∨ foot f k) →
      (∀ k, f'.v.ownBlock = some k → f.v.ownBlock = some k ∨ (w.heap.size ≤ k ∧ k < w'.heap.size)) →
      ∃ f', f'.blk = b ∧ f'.bs = f.bs.take n ∧ f'.syn = min f.syn n ∧ Dk w' (New S w w') g N { d with F := fun x => if x = s then some f' else d.F x, used := d.used - (f.bs.length - n) } ∧ Chg w w' (fun k => k = g ∨ foot f k) := by
    intro f' w' h1 h2 h3 h4 h5 h6 h7
    obtain ⟨e1, e2, e3, e4, e5⟩ := HE.out
    rw [e2, e3] at h1
    exact ⟨f', h3, h4, by rw [h5, e5], HH.out.file HF.out h6 ⟨h1.c0, h1.c1, h1.c2, h1.c3, h1.c4, h1.c5, h1.z, h1.bu, h1.br, h1.bf⟩ rfl rfl (h3.trans e1) h2 h7, h6⟩
  have HFIN := Lib.hid FIN
  clear FIN
  have MID : ∀ W : World, W = ((w.setCell ⟨g, 1, none⟩ (.int .i64 (U - (L - n) : Nat))).setCell ⟨b, 0, none⟩ (.slice A n C)).setCell ⟨b, 1, none⟩ (.int .i64 (min K n : Nat)) →
      Cs W g { d with used := U - (L - n) } ∧ Fm W ⟨b, .slice A n C, f.bs.take n, min K n⟩ ∧ Chg w W (fun k => k = g ∨ foot f k) ∧ W.heap.size = w.heap.size := by
    intro W hW
    obtain ⟨e1, e2, e3, e4, e5⟩ := HE.out
    have hfg := (HH.out.fm s f HF.out).2.1
    have hu : U - (L - n) ≤ 9223372036854775807 := by have := HH.out.cs.bu; omega
    have hl : (f.bs.take n).length = n := by rw [List.length_take, ← e2]; have := HN.out; omega
    have ot := own_take (HVF.out ▸ HO.out) HN.out
    rw [u8s_take] at ot
    have ob : (Value.slice A n C).ownBlock = f.v.ownBlock := by rw [← e4, HVF.out]; exact own_block
    have hg1 : ∀ k, f.v.ownBlock = some k → k ≠ g := fun k hk e => hfg (.inr (e ▸ hk))
    rw [hW]
    refine ⟨((HH.out.cs.set1 _ hu).off hne).off hne, ?_, ?_, by simp⟩
    · rw [e1]
      refine (HFM.out.off hfg).set01 _ _ _ ?_ ?_ (fun x hx => HFM.out.byte x (List.mem_of_mem_take hx)) (by rw [ob]; exact HFM.out.apart)
      · rw [hl]; exact own_of_block ot fun k hk => heap_setCell_ne (hg1 k (ob ▸ hk))
      · rw [hl]; omega
    · exact (((Chg.refl w _).setCell (.inl rfl) _).setCell (.inr (.inl e1)) _).setCell (.inr (.inl e1)) _
  have HMID := Lib.hid MID
  clear MID
  by_cases hq : (n : Int) < wrap64 ((C : Int) / 2)
  · go_enter Try.func46, Try.ntmps46
    go_wp2_with fail
    go_region
    go_wp2_with fail
    rw [HMIN.out]
    obtain ⟨W, hW⟩ : ∃ W, W = ((w.setCell ⟨g, 1, none⟩ (.int .i64 (U - (L - n) : Nat))).setCell ⟨b, 0, none⟩ (.slice A n C)).setCell ⟨b, 1, none⟩ (.int .i64 (min K n : Nat)) := ⟨_, rfl⟩
    rw [← hW]
    obtain ⟨m1, m2, m3, m4⟩ := HMID.out W hW
    have CL := clone45 W.drew _ (.slice A n C) (f.bs.take n) (src_own m2.own) (by have := HB.out; have := HE.out.2.1; rw [List.length_take]; omega)
    go_at_call 48
    refine CL.mono ?_
    rintro e w' ⟨v', rfl, hrow, hbl⟩
    obtain ⟨va, vc, hv'⟩ := own_forms hrow
    obtain ⟨vn, hvn⟩ : ∃ vn, vn = (f.bs.take n).length := ⟨_, rfl⟩
    rw [← hvn] at hv'
    subst hv'
    have fm' := m2.drew.below hbl (Nat.le_refl _)
    have k0 := fm'.c0
    have k1 := fm'.z0
    have FM := Lib.hid fm'
    have M1 := Lib.hid (m1.drew.below hbl (Nat.le_refl _))
    have M3 := Lib.hid (m3.drew.trans (Chg.of_below hbl (Nat.le_refl _) (fun _ => False)) (fun k hk => hk.elim))
    have HROW := Lib.hid hrow
    have M4 := Lib.hid m4
    have HBL := Lib.hid hbl
    dsimp only at k0 k1
    clear fm' m1 m2 m3 m4 hrow hbl CL hW hvn
    go_wp2_with fail
    obtain ⟨e1, e2, e3, e4, e5⟩ := HE.out
    have hsz : (W.drew).heap.size = w.heap.size := M4.out
    have hob : ∀ k, (Value.slice va vn vc).ownBlock = some k → w.heap.size ≤ k ∧ k < w'.heap.size := fun k hk => by have := own_lt HROW.out hk; rw [hsz] at this; exact this
    have hbw : b < w.heap.size := by rw [e1]; exact HFM.out.lt (.inl rfl)
    have m1 := M1.out.off (b := b) (i := 0) (v := .slice va vn vc) hne
    refine bodyPost_end (v := .tuple #[]) (by simp [results, Try.results46, go_sem]) rfl ⟨rfl, HFIN.out _ _ ⟨m1.c0, m1.c1, m1.c2, m1.c3, m1.c4, m1.c5, m1.z, m1.bu, m1.br, m1.bf⟩ (FM.out.set0 (.slice va vn vc) _ (own_base HROW.out (Nat.zero_le _)) FM.out.syn FM.out.byte (fun e => by have := (hob _ e).1; dsimp only at this; omega)) rfl rfl rfl (M3.out.setCell (.inr (.inl e1)) _) fun k hk => .inr ?_⟩
    simpa using hob k hk
  · go_enter Try.func46, Try.ntmps46
    go_wp2_with fail
    go_region
    go_wp2_with fail
    rw [HMIN.out]
    obtain ⟨W, hW⟩ : ∃ W, W = ((w.setCell ⟨g, 1, none⟩ (.int .i64 (U - (L - n) : Nat))).setCell ⟨b, 0, none⟩ (.slice A n C)).setCell ⟨b, 1, none⟩ (.int .i64 (min K n : Nat)) := ⟨_, rfl⟩
    rw [← hW]
    obtain ⟨m1, m2, m3, m4⟩ := HMID.out W hW
    refine bodyPost_end (v := .tuple #[]) (by simp [results, Try.results46, go_sem]) rfl ⟨rfl, HFIN.out _ _ ⟨m1.c0, m1.c1, m1.c2, m1.c3, m1.c4, m1.c5, m1.z, m1.bu, m1.br, m1.bf⟩ m2.drew rfl rfl rfl m3.drew fun k hk => ?_⟩
    refine .inl ?_
    obtain ⟨e1, e2, e3, e4, e5⟩ := HE.out
    rw [← e4, HVF.out, ← hk]
    exact own_block
end Jc
end Go.Proofs.Ytcjfdebjgaohlaa
