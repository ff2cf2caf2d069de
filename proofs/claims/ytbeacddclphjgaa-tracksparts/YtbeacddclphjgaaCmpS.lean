/-
  How two names compare: '<=' and '>'.
-/
import Derived.Test.YtbeacddclphjgaaSmall
namespace Go.Proofs.Ytbeacddclphjgaa
open Go.RowKit Go.Maps
set_option linter.unusedSimpArgs false

theorem leq_str {x y : ByteArray} (h : lt8 y x = true) (w : World) : (binOp .leq 9 (.string x) (.string y)).run Try.prog w = .ok (.bool false) w := by
  have h1 : Op.bytesLess x.toList y.toList = false := lt8_asym h
  have h2 : (x.toList == y.toList) = false := by
    rw [beq_eq_false_iff_ne]
    intro e
    have h0 : Op.bytesLess y.toList x.toList = true := h
    rw [e, bl_irr] at h0
    cases h0
  simp [binOp, Op.stringOp, h1, h2, go_sem]
theorem gtr_str {x y : ByteArray} (r : Bool) (h : lt8 y x = r) (w : World) : (binOp .gtr 9 (.string x) (.string y)).run Try.prog w = .ok (.bool r) w := by
  have h1 : (!Op.bytesLess x.toList y.toList && !(x.toList == y.toList)) = r := by
    cases r with
    | true =>
      have h1 : Op.bytesLess x.toList y.toList = false := lt8_asym h
      have h2 : (x.toList == y.toList) = false := by
        rw [beq_eq_false_iff_ne]
        intro e
        have h0 : Op.bytesLess y.toList x.toList = true := h
        rw [e, bl_irr] at h0
        cases h0
      rw [h1, h2]; rfl
    | false =>
      cases h2 : Op.bytesLess x.toList y.toList
      · have e : x = y := lt8_tri h2 h
        subst e
        simp
      · rfl
  simp [binOp, Op.stringOp, go_sem]
  exact h1
end Go.Proofs.Ytbeacddclphjgaa
