/-
  The walk of PortsTurned.
-/
import Derived.Test.YtomcniakffipfaaPframe
import Derived.Test.YtomcniakffipfaaTurnedBody
import Derived.Test.YtomcniakffipfaaTurnedFrom
namespace Go.Proofs.Ytomcniakffipfaa
open Go.ChangeShapes Go.WideShapes Go.ChangeAt Go.RowKit
set_option linter.unusedVariables false

theorem turned_walk (f t : ByteArray) (p0 l0 : Int) (s0 : ByteArray) (p a b l k : Int) (x y : Int) (w : World) (_ : (Lit.int .i64 p0).wf = true) (_ : (Lit.int .i64 l0).wf = true) (hb : f.size ≤ 140737488351232 ∧ t.size ≤ 140737488351232 ∧ s0.size ≤ 140737488351232)
    (_ : (Lit.int .i64 p).wf = true) (_ : (Lit.int .i64 a).wf = true) (_ : (Lit.int .i64 b).wf = true) (_ : (Lit.int .i64 l).wf = true) (_ : (Lit.int .i64 k).wf = true) (hx : (Lit.int .i64 x).wf = true) (hy : (Lit.int .i64 y).wf = true) :
    Calls Try.prog 5 #[.agg #[.string f, .string t, .int .i64 p0, .int .i64 l0, .string s0], .agg #[.int .i64 p, .int .i64 a, .int .i64 b, .int .i64 l, .int .i64 k], .agg #[.int .i64 x, .int .i64 y]] w fun e w' => e = .returned (.bool true) ∧ Below w.heap.size w w' := by
  have hxb := bounds_i64 hx
  by_cases h : WrOk f t l0 6 a b l k ⟨#[100, 97, 116, 97]⟩
  · by_cases h1 : x < 0 ∨ y < 1 ∨ 255 < y
    · exact turned_x f t p0 l0 s0 p a b l k x y w hb.1 hb.2.1 h h1
    · by_cases h2 : x < 24
      · obtain ⟨i, rfl⟩ : ∃ i : Nat, x = (i : Int) := ⟨x.toNat, by omega⟩
        exact turned_body f t p0 l0 s0 p a b l k i y w hb.1 hb.2.1 h (by omega) (by omega)
      · by_cases h3 : 24 + (f.size : Int) ≤ x
        · exact turned_far f t p0 l0 s0 p a b l k x y w hb.1 hb.2.1 h h3 (by omega) (by omega)
        · obtain ⟨i, rfl⟩ : ∃ i : Nat, x = 24 + (i : Int) := ⟨(x - 24).toNat, by omega⟩
          exact turned_from f t p0 l0 s0 p a b l k i y w hb.1 hb.2.1 h (by omega) (by omega)
  · exact turned_no f t p0 l0 s0 p a b l k x y w hb.1 hb.2.1 h

end Go.Proofs.Ytomcniakffipfaa
