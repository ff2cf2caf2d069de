/-
  What was written is read as it was; what was read is written as the same bytes.
-/
import Derived.Test.YtmjjdgcgngnjhaaDecAny
namespace Go.Proofs.Ytmjjdgcgngnjhaa
open Go.ChangeShapes Go.WideShapes Go.ChangeAt Go.RowKit
set_option linter.unusedVariables false


/-- What was written is read as it was. -/
theorem decode_wire (a0 a1 a2 a3 a4 a5 a6 a7 a8 a9 a10 a11 t : Int) (s : ByteArray) (N : Nat) (w : World) (hp : Part w ⟨some ⟨N, 0, none⟩, 14 + s.size, 14 + s.size, (wire a0 a1 a2 a3 a4 a5 a6 a7 a8 a9 a10 a11 t s)⟩) (q0 : 0 ≤ a0 ∧ a0 ≤ 255) (q1 : 0 ≤ a1 ∧ a1 ≤ 255) (q2 : 0 ≤ a2 ∧ a2 ≤ 255) (q3 : 0 ≤ a3 ∧ a3 ≤ 255) (q4 : 0 ≤ a4 ∧ a4 ≤ 255) (q5 : 0 ≤ a5 ∧ a5 ≤ 255) (q6 : 0 ≤ a6 ∧ a6 ≤ 255) (q7 : 0 ≤ a7 ∧ a7 ≤ 255) (q8 : 0 ≤ a8 ∧ a8 ≤ 255) (q9 : 0 ≤ a9 ∧ a9 ≤ 255) (q10 : 0 ≤ a10 ∧ a10 ≤ 255) (q11 : 0 ≤ a11 ∧ a11 ≤ 255) (h1 : 1536 ≤ t) (h2 : t ≤ 65535) (h3 : s.size ≤ 1500) :
    Calls Try.prog 13 #[.slice (some ⟨N, 0, none⟩) (14 + s.size) (14 + s.size)] w fun e w' => e = .returned (.tuple #[.agg #[.int .u8 a0, .int .u8 a1, .int .u8 a2, .int .u8 a3, .int .u8 a4, .int .u8 a5, .int .u8 a6, .int .u8 a7, .int .u8 a8, .int .u8 a9, .int .u8 a10, .int .u8 a11, .int .i64 t, .string s], .int .i64 0]) ∧ Below w.heap.size w w' := by
  have h := decode_any N 0 (14 + s.size) (14 + s.size) a0 a1 a2 a3 a4 a5 a6 a7 a8 a9 a10 a11 (t / 256) (t % 256) (bts s) w hp (by omega) (by omega) q0 q1 q2 q3 q4 q5 q6 q7 q8 q9 q10 q11 (by omega) (by omega)
  rw [strOfNums_bts, show t / 256 * 256 + t % 256 = t by omega] at h
  exact h
/-- What was read is written as the same bytes. -/
theorem wire_back (x0 x1 x2 x3 x4 x5 x6 x7 x8 x9 x10 x11 x12 x13 : Int) (r : List Int) (hr : Byt r) (p0 : 0 ≤ x0 ∧ x0 ≤ 255) (p1 : 0 ≤ x1 ∧ x1 ≤ 255) (p2 : 0 ≤ x2 ∧ x2 ≤ 255) (p3 : 0 ≤ x3 ∧ x3 ≤ 255) (p4 : 0 ≤ x4 ∧ x4 ≤ 255) (p5 : 0 ≤ x5 ∧ x5 ≤ 255) (p6 : 0 ≤ x6 ∧ x6 ≤ 255) (p7 : 0 ≤ x7 ∧ x7 ≤ 255) (p8 : 0 ≤ x8 ∧ x8 ≤ 255) (p9 : 0 ≤ x9 ∧ x9 ≤ 255) (p10 : 0 ≤ x10 ∧ x10 ≤ 255) (p11 : 0 ≤ x11 ∧ x11 ≤ 255) (p12 : 0 ≤ x12 ∧ x12 ≤ 255) (p13 : 0 ≤ x13 ∧ x13 ≤ 255) : (wire x0 x1 x2 x3 x4 x5 x6 x7 x8 x9 x10 x11 (x12 * 256 + x13) (strOfNums r)) = (x0 :: x1 :: x2 :: x3 :: x4 :: x5 :: x6 :: x7 :: x8 :: x9 :: x10 :: x11 :: x12 :: x13 :: r) := by
  unfold wire
  rw [bts_strOfNums hr, show (x12 * 256 + x13) / 256 = x12 by omega, show (x12 * 256 + x13) % 256 = x13 by omega]
  rfl

end Go.Proofs.Ytmjjdgcgngnjhaa
