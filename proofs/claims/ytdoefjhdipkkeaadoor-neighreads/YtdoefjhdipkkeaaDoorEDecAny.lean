/-
  What Decode does, whatever bytes there are room for; bytes with a head.
-/
import Derived.Test.YtdoefjhdipkkeaaDoorEDec
namespace Go.Proofs.YtdoefjhdipkkeaaDoor.E
open Go.ChangeShapes Go.WideShapes Go.ChangeAt Go.RowKit
set_option linter.unusedVariables false


theorem decode_any (b off n c : Nat) (x0 x1 x2 x3 x4 x5 x6 x7 x8 x9 x10 x11 x12 x13 : Int) (r : List Int) (w : World) (hp : Part w ⟨some ⟨b, off, none⟩, n, c, (x0 :: x1 :: x2 :: x3 :: x4 :: x5 :: x6 :: x7 :: x8 :: x9 :: x10 :: x11 :: x12 :: x13 :: r)⟩) (hn : n ≤ 1514) (ht : 1536 ≤ x12 * 256 + x13) (q0 : 0 ≤ x0 ∧ x0 ≤ 255) (q1 : 0 ≤ x1 ∧ x1 ≤ 255) (q2 : 0 ≤ x2 ∧ x2 ≤ 255) (q3 : 0 ≤ x3 ∧ x3 ≤ 255) (q4 : 0 ≤ x4 ∧ x4 ≤ 255) (q5 : 0 ≤ x5 ∧ x5 ≤ 255) (q6 : 0 ≤ x6 ∧ x6 ≤ 255) (q7 : 0 ≤ x7 ∧ x7 ≤ 255) (q8 : 0 ≤ x8 ∧ x8 ≤ 255) (q9 : 0 ≤ x9 ∧ x9 ≤ 255) (q10 : 0 ≤ x10 ∧ x10 ≤ 255) (q11 : 0 ≤ x11 ∧ x11 ≤ 255) (q12 : 0 ≤ x12 ∧ x12 ≤ 255) (q13 : 0 ≤ x13 ∧ x13 ≤ 255) :
    Calls Tryd.prog 22 #[.slice (some ⟨b, off, none⟩) n c] w fun e w' => e = .returned (.tuple #[.agg #[.int .u8 x0, .int .u8 x1, .int .u8 x2, .int .u8 x3, .int .u8 x4, .int .u8 x5, .int .u8 x6, .int .u8 x7, .int .u8 x8, .int .u8 x9, .int .u8 x10, .int .u8 x11, .int .i64 (x12 * 256 + x13), .string (strOfNums r)], .int .i64 0]) ∧ Below w.heap.size w w' := by
  have hlen : 14 + r.length = n := by have : (x0 :: x1 :: x2 :: x3 :: x4 :: x5 :: x6 :: x7 :: x8 :: x9 :: x10 :: x11 :: x12 :: x13 :: r).length = n := hp.1; simp at this; omega
  have hnc : n ≤ c := hp.2.1
  by_cases hc : c = 14
  · obtain rfl : n = 14 := by omega
    subst hc
    exact decode_ok14 b off x0 x1 x2 x3 x4 x5 x6 x7 x8 x9 x10 x11 x12 x13 r w hp ht q0 q1 q2 q3 q4 q5 q6 q7 q8 q9 q10 q11 q12 q13
  · exact decode_ok b off n c x0 x1 x2 x3 x4 x5 x6 x7 x8 x9 x10 x11 x12 x13 r w hp hn (by omega) ht q0 q1 q2 q3 q4 q5 q6 q7 q8 q9 q10 q11 q12 q13

/-- Bytes that are many enough for a frame's head. -/
theorem head_of {w : World} {a : Option Addr} {n c : Nat} {bs : List Int} (hp : Part w ⟨a, n, c, bs⟩) (h : 14 ≤ n) :
    ∃ (b off : Nat) (x0 x1 x2 x3 x4 x5 x6 x7 x8 x9 x10 x11 x12 x13 : Int) (r : List Int), a = some ⟨b, off, none⟩ ∧ bs = (x0 :: x1 :: x2 :: x3 :: x4 :: x5 :: x6 :: x7 :: x8 :: x9 :: x10 :: x11 :: x12 :: x13 :: r) ∧ (0 ≤ x0 ∧ x0 ≤ 255) ∧ (0 ≤ x1 ∧ x1 ≤ 255) ∧ (0 ≤ x2 ∧ x2 ≤ 255) ∧ (0 ≤ x3 ∧ x3 ≤ 255) ∧ (0 ≤ x4 ∧ x4 ≤ 255) ∧ (0 ≤ x5 ∧ x5 ≤ 255) ∧ (0 ≤ x6 ∧ x6 ≤ 255) ∧ (0 ≤ x7 ∧ x7 ≤ 255) ∧ (0 ≤ x8 ∧ x8 ≤ 255) ∧ (0 ≤ x9 ∧ x9 ≤ 255) ∧ (0 ≤ x10 ∧ x10 ≤ 255) ∧ (0 ≤ x11 ∧ x11 ≤ 255) ∧ (0 ≤ x12 ∧ x12 ≤ 255) ∧ (0 ≤ x13 ∧ x13 ≤ 255) := by
  obtain ⟨b, off, e, _⟩ := hp.2.2.2 (show 0 < n by omega)
  have hl : bs.length = n := hp.1
  obtain ⟨x0, x1, x2, x3, x4, x5, x6, x7, x8, x9, x10, x11, x12, x13, r, hr, _⟩ := fourteen bs (n - 14) (by omega)
  subst hr
  have hb := hp.2.2.1
  refine ⟨b, off, x0, x1, x2, x3, x4, x5, x6, x7, x8, x9, x10, x11, x12, x13, r, e, rfl, ?_, ?_, ?_, ?_, ?_, ?_, ?_, ?_, ?_, ?_, ?_, ?_, ?_, ?_⟩
  all_goals exact hb _ (by simp)

end Go.Proofs.YtdoefjhdipkkeaaDoor.E
