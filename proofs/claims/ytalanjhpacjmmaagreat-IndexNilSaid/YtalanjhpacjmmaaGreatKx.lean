/- The law IndexNil for every series. -/
import Derived.Test.YtalanjhpacjmmaaGreatKwn
import Derived.Test.YtalanjhpacjmmaaGreatKwy
import Derived.Test.YtalanjhpacjmmaaGreatOz
namespace Go.Proofs.YtalanjhpacjmmaaGreat
set_option maxRecDepth 100000
open Go.RowKit Go.Maps Go.ChangeMaps Go.MapKept Go.Sort Go.Shelf
namespace Kx
open Jb Jt Kl Ow Sa Sb

theorem nil_all (w : World) (s : Sr) (v : Value) (h : In w s v) (hb : s.2.length * 32 ≤ 140737488355328) (field : ByteArray) (hf : field.size ≤ maxLen) (kind : Int) :
    Calls Tryz.prog 5 #[.agg #[.string s.1, v], .string field, .int .i64 kind] w fun e w' => e = .returned (.bool true) ∧ Below w.heap.size w w' := by
  cases hfm : fm s with
  | false => exact Kwn.nil_no w s v h hb field hf kind hfm
  | true => exact Kwy.nil_yes w s v h hb field hf kind hfm
theorem ser_tags {H : Type} {d : DataW H} {nm : ByteArray} {L : List Tg} (h : Dser d nm L) (hs : Sized d 30) : L.length * 32 ≤ 140737488355328 := by
  obtain ⟨d2, rfl, hL⟩ := h
  obtain ⟨fs, f1, f2⟩ := fields24
  rcases hL with rfl | ⟨sp, rfl⟩
  · simp
  have h2 : Sized (H := H) (.slice (L.map td) sp) 28 := fun n hn => hs n (by
    simp only [DataW.weights, f1, f2]
    exact DataW.weights_mem_each (j := 1) rfl rfl n hn)
  have := h2 (((L.map (td (H := H))).length + sp.length) * Tryz.prog.bytesOf 36) (by simp [DataW.weights, Tryz.underlying28])
  rw [bytes37] at this
  simp only [reachBytes, List.length_map] at this
  omega
end Kx
end Go.Proofs.YtalanjhpacjmmaaGreat
