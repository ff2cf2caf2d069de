/-
  A literal slice of bytes.
-/
import Derived.Test.YtomcniakffipfaaDoorPseudo
namespace Go.Proofs.YtomcniakffipfaaDoor
open Go.RowKit
set_option linter.unusedVariables false
set_option maxRecDepth 10000

theorem own_lit (W : World) (B N : Nat) (zs : List Int) (hB : B ≤ W.heap.size) (hN : N = W.heap.size) (hl : zs.length ≤ 1000) : Own (W.alloc (.cells (zs.map (Value.int .u8)).toArray 5)) B N zs.length zs.length zs := by
  subst hN
  exact ⟨rfl, hB, Nat.le_refl _, by simp only [maxLen]; omega, _, (0, 0), heap_alloc_new W _, .inl rfl, by simp, by simp only [cel]; exact List.take_of_length_le (by simp)⟩

end Go.Proofs.YtomcniakffipfaaDoor
