/-
  The walk of AdvertTurned.
-/
import Derived.Test.YthhomfchoomelaaAframe
import Derived.Test.YthhomfchoomelaaTurnedBody
import Derived.Test.YthhomfchoomelaaTurnedFrom
namespace Go.Proofs.Ythhomfchoomelaa
open Go.RowKit
set_option linter.unusedVariables false
set_option maxRecDepth 10000

theorem turned_walk (i p e : Int) (A : Option Addr) (n c : Nat) (ss : List ByteArray) (f : ByteArray) (x y : Int) (w : World) (hS : Strs w A n c ss) (hn : n ≤ 140737488351232) (hf : f.size ≤ 140737488351232) (hx : (Lit.int .i64 x).wf = true) (hy : (Lit.int .i64 y).wf = true) :
    Calls Try.prog 6 #[.agg #[.int .i64 i, .int .i64 p, .int .i64 e, .slice A n c], .string f, .agg #[.int .i64 x, .int .i64 y]] w fun r w' => r = .returned (.bool true) ∧ Below w.heap.size w w' := by
  have hxb := bounds_i64 hx
  rcases h : okA f i p e ss with _ | _
  · exact turned_no i p e A n c ss f x y w hS hn hf h
  by_cases h1 : x < 0 ∨ y < 1 ∨ 255 < y
  · exact turned_x i p e A n c ss f x y w hS hn hf h h1
  by_cases h2 : x < ((bodyS f i p e ss).size : Int)
  · obtain ⟨k, rfl⟩ : ∃ k : Nat, x = (k : Int) := ⟨x.toNat, by omega⟩
    exact turned_body i p e A n c ss f k y w hS hn hf h (by omega) (by omega)
  by_cases h3 : ((bodyS f i p e ss).size : Int) + (f.size : Int) ≤ x
  · exact turned_far i p e A n c ss f x y w hS hn hf h h3 (by omega) (by omega)
  obtain ⟨k, rfl⟩ : ∃ k : Nat, x = ((bodyS f i p e ss).size : Int) + (k : Int) := ⟨(x - (bodyS f i p e ss).size).toNat, by omega⟩
  exact turned_from i p e A n c ss f k y w hS hn hf h (by omega) (by omega)

end Go.Proofs.Ythhomfchoomelaa
