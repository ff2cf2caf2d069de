/-
  The Body of an advertisement, as it is written.
-/
import Derived.Test.YtpcdaidgijkkbaaAencode
namespace Go.Proofs.Ytpcdaidgijkkbaa
open Go.RowKit
set_option linter.unusedVariables false
set_option maxRecDepth 40000

/-- The Body of an advertisement. -/
def bodyS (f : ByteArray) (i p e : Int) (ss : List ByteArray) : ByteArray := strOfNums (wireA f i p e ss)
/-- To whom it goes. -/
def toA (f : ByteArray) : ByteArray := grp (decide (f.size = 16))
section
variable {f : ByteArray} {i p e : Int} {ss : List ByteArray}
theorem wire_byt (h : okA f i p e ss = true) : Byt (wireA f i p e ss) := by
  obtain ⟨g1, g2, g3, g4, g5, g6⟩ := okA_all h
  have := sumA_bd f i p e ss
  exact bodyL_byt (by omega) g3 (by omega) (by omega) (by omega) (by omega)
theorem wire_len (h : okA f i p e ss = true) : (wireA f i p e ss).length = 8 + ss.length * f.size := bodyL_len _ _ _ _ _ _ _ (okA_all h).2.2.2.2.2
theorem bodyS_bts (h : okA f i p e ss = true) : bts (bodyS f i p e ss) = wireA f i p e ss := bts_strOfNums (wire_byt h)
theorem bodyS_size (h : okA f i p e ss = true) : (bodyS f i p e ss).size = 8 + ss.length * f.size := by rw [bodyS, strOfNums_size, wire_len h]
theorem nq_le (h : okA f i p e ss = true) : 1 ≤ ss.length ∧ ss.length ≤ 8 ∧ 4 ≤ f.size ∧ f.size ≤ 16 ∧ 4 ≤ ss.length * f.size ∧ ss.length * f.size ≤ 128 ∧ (ss.length * f.size) % 2 = 0 := by
  obtain ⟨g1, g2, g3, g4, g5, g6⟩ := okA_all h
  have h1 : ss.length * f.size ≤ 8 * 16 := Nat.mul_le_mul (by omega) (by omega)
  have h2 : 1 * 4 ≤ ss.length * f.size := Nat.mul_le_mul (by omega) (by omega)
  have h3 : (ss.length * f.size) % 2 = 0 := by rw [Nat.mul_mod, show f.size % 2 = 0 by omega]; simp
  exact ⟨by omega, by omega, by omega, by omega, by omega, by omega, h3⟩
theorem toA_size (h : okA f i p e ss = true) : (toA f).size = f.size := by
  obtain ⟨g1, _⟩ := okA_all h
  rw [toA, grp_size]
  rcases g1 with g | g <;> simp [g]
end
end Go.Proofs.Ytpcdaidgijkkbaa
