/-
  The walk of IpvSums.
-/
import Derived.Test.YtindajjcekgjeaaSumsWalka
import Derived.Test.YtindajjcekgjeaaSumsWalkb
import Derived.Test.YtindajjcekgjeaaSumsWalkc
namespace Go.Proofs.Ytindajjcekgjeaa
open Go.ChangeShapes Go.WideShapes Go.ChangeAt Go.RowKit
set_option linter.unusedVariables false

theorem sums_walk (f t : ByteArray) (p l : Int) (s : ByteArray) (A : Option Addr) (m k : Nat) (bs : List Int) (w : World) (hp : (Lit.int .i64 p).wf = true) (hl : (Lit.int .i64 l).wf = true) (hb : f.size ≤ 140737488351232 ∧ t.size ≤ 140737488351232 ∧ s.size ≤ 140737488351232) (hq : Part w ⟨A, m, k, bs⟩) (hk : k ≤ 140737488351232) :
    Calls Try.prog 7 #[.agg #[.string f, .string t, .int .i64 p, .int .i64 l, .string s], .slice A m k] w fun e w' => e = .returned (.bool true) ∧ Below w.heap.size w w' := by
  have hbl : bs.length = m := hq.1
  have hmk : m ≤ k := hq.2.1
  have hm : m ≤ 140737488351232 := by omega
  obtain ⟨⟨⟨f2, t2, p2, l2, s2⟩, r⟩, hd⟩ : ∃ x, dec bs = x := ⟨_, rfl⟩
  by_cases hr : r = 0
  · have hc := dec_ok bs f2 t2 p2 l2 s2 (by rw [hd, hr])
    rcases hc with g6 | ⟨g4, g5, g20, gg⟩
    · by_cases h : Okp f t p l s
      · by_cases h6 : f.size = 16
        · exact sums_six_six f t p l s A m k bs w h h6 hq hm f2 t2 p2 l2 s2 r hd hr g6
        · exact sums_four_six f t p l s A m k bs w h h6 hq hm f2 t2 p2 l2 s2 r hd hr g6
      · exact sums_no_six f t p l s A m k bs w hb.1 hb.2.1 hb.2.2 h hq hm f2 t2 p2 l2 s2 r hd hr g6
    · by_cases h : Okp f t p l s
      · by_cases h6 : f.size = 16
        · exact sums_six_four f t p l s A m k bs w h h6 hq hm f2 t2 p2 l2 s2 r hd hr g4 g5 (by omega) gg
        · exact sums_four_four f t p l s A m k bs w h h6 hq hm f2 t2 p2 l2 s2 r hd hr g4 g5 (by omega) gg
      · exact sums_no_four f t p l s A m k bs w hb.1 hb.2.1 hb.2.2 h hq hm f2 t2 p2 l2 s2 r hd hr g4 g5 (by omega) gg
  · by_cases h : Okp f t p l s
    · by_cases h6 : f.size = 16
      · exact sums_six_bad f t p l s A m k bs w h h6 hq hm f2 t2 p2 l2 s2 r hd hr
      · exact sums_four_bad f t p l s A m k bs w h h6 hq hm f2 t2 p2 l2 s2 r hd hr
    · exact sums_no_bad f t p l s A m k bs w hb.1 hb.2.1 hb.2.2 h hq hm f2 t2 p2 l2 s2 r hd hr


end Go.Proofs.Ytindajjcekgjeaa
