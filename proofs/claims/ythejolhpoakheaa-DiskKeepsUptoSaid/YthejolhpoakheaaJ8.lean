/- The law DiskKeeps. -/
import Derived.Test.YthejolhpoakheaaJ8a
import Derived.Test.YthejolhpoakheaaJ8b
namespace Go.Proofs.Ythejolhpoakheaa
open Go.RowKit Go.Maps Go.ChangeMaps Go.MapKept
namespace J8
open Jb Jw

theorem keeps4 (w : World) (s : ByteArray) (hs : s.size ≤ 140737488351232) (v1 v2 v3 : Value) (X1 X2 X3 : List Nat) (h1 : Src w (fun k => k < w.heap.size) v1 X1) (h2 : Src w (fun k => k < w.heap.size) v2 X2) (h3 : Src w (fun k => k < w.heap.size) v3 X3)
    (hc1 : ∀ c, v1 = .slice none X1.length c → c = 0) (hc2 : ∀ c, v2 = .slice none X2.length c → c = 0) (hb1 : ∀ x ∈ X1, x < 256) (hb2 : ∀ x ∈ X2, x < 256) (hb3 : ∀ x ∈ X3, x < 256) (hl1 : X1.length ≤ 1048576) (hl2 : X2.length ≤ 1048576) :
    Calls Try.prog 4 #[.string s, v1, v2, v3] w fun e w' => e = .returned (.bool true) ∧ Below w.heap.size w w' := by
  cases hn : isNm s
  · exact keeps_bad w s hs v1 v2 v3 X1 X2 X3 h1 h2 h3 hc1 hc2 hb1 hb2 hb3 hl1 hl2 hn
  · exact keeps_good w s hs v1 v2 v3 X1 X2 X3 h1 h2 h3 hc1 hc2 hb1 hb2 hb3 hl1 hl2 hn
end J8
end Go.Proofs.Ythejolhpoakheaa
