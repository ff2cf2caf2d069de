/-
  The reference's Do, all.
-/
import Derived.Test.YthddphgeepgidaaRefDa
import Derived.Test.YthddphgeepgidaaRefDb
import Derived.Test.YthddphgeepgidaaRefDc
import Derived.Test.YthddphgeepgidaaRefDd
namespace Go.Proofs.Ythddphgeepgidaa
open Go.RowKit Go.Maps
set_option linter.unusedVariables false
set_option linter.unusedSimpArgs false
set_option maxRecDepth 10000

set_option maxHeartbeats 4000000 in
theorem rdo_any {w : World} {s : St} {k i a : Int} {v : Value} (hrow : w.ownsRow 0 58 2 v s.l.length (tcells s.l)) (ok : OkS s 990) :
    Calls Try.prog 22 #[rv s.now v, .agg #[.int .i64 k, .int .i64 i, .int .i64 a]] w fun e w' => ∃ v' u, e = .returned (.tuple #[rv (stp s k i a).now v', .bool (ans s k i a), u]) ∧
      w'.ownsRow 0 58 2 v' (stp s k i a).l.length (tcells (stp s k i a).l) ∧ (∀ g, v'.ownBlock = some g → v.ownBlock = some g ∨ w.heap.size ≤ g) ∧
      w'.ownsRow w.heap.size 3 1 u (tol s k a).length (icells (tol s k a)) ∧ Below w.heap.size w w' := by
  by_cases h0 : k = 0
  · exact rdo_a hrow ok h0
  · by_cases h11 : k = 1
    · exact rdo_b hrow ok h0 h11
    · by_cases h2 : k = 2
      · exact rdo_c hrow ok h0 h11 h2
      · exact rdo_d hrow ok h0 h11 h2

end Go.Proofs.Ythddphgeepgidaa
