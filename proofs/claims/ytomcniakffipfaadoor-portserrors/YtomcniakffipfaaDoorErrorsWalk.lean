/-
  The walk of PortsErrors.
-/
import Derived.Test.YtomcniakffipfaaDoorErrorsMain
import Derived.Test.YtomcniakffipfaaDoorErrorsCut
import Derived.Test.YtomcniakffipfaaDoorPframe
namespace Go.Proofs.YtomcniakffipfaaDoor
open Go.ChangeShapes Go.WideShapes Go.ChangeAt Go.RowKit
set_option linter.unusedVariables false
set_option maxRecDepth 10000

theorem errors_walk (f t : ByteArray) (p0 l0 : Int) (s0 : ByteArray) (p a b l k : Int) (x : Int) (w : World) (hG : Glob w) (_ : (Lit.int .i64 p0).wf = true) (_ : (Lit.int .i64 l0).wf = true) (hb : f.size ≤ 140737488351232 ∧ t.size ≤ 140737488351232 ∧ s0.size ≤ 140737488351232)
    (_ : (Lit.int .i64 p).wf = true) (_ : (Lit.int .i64 a).wf = true) (_ : (Lit.int .i64 b).wf = true) (_ : (Lit.int .i64 l).wf = true) (_ : (Lit.int .i64 k).wf = true) (_ : (Lit.int .i64 x).wf = true) : Calls Tryd.prog 4 #[.agg #[.string f, .string t, .int .i64 p0, .int .i64 l0, .string s0], .agg #[.int .i64 p, .int .i64 a, .int .i64 b, .int .i64 l, .int .i64 k], .int .i64 x] w fun e w' => e = .returned (.bool true) ∧ Below w.heap.size w w' := by
  obtain ⟨hf, ht, _⟩ := hb
  by_cases h : WrOk f t l0 p a b l k ⟨#[100, 97, 116, 97]⟩
  · by_cases h6 : f.size = 16
    · exact errors_six f t p0 l0 s0 p a b l k x w hf ht h h6
    by_cases h1 : x < 0
    · exact errors_lo f t p0 l0 s0 p a b l k x w hf ht h h6 h1
    by_cases h2 : 20 < x
    · exact errors_hi f t p0 l0 s0 p a b l k x w hf ht h h6 h2
    obtain ⟨i, rfl⟩ : ∃ i : Nat, x = (i : Int) := ⟨x.toNat, by omega⟩
    have hal := h.2.2.1
    simp only [alikeB, rightB, Bool.and_eq_true, decide_eq_true_eq] at hal
    have hz := wrBody_size f t p a b l ⟨#[100, 97, 116, 97]⟩
    have hz4 : (ByteArray.mk #[100, 97, 116, 97]).size = 4 := rfl
    rw [hz4] at hz
    have hzb : 12 ≤ (wrBody f t p a b l ⟨#[100, 97, 116, 97]⟩).size ∧ (wrBody f t p a b l ⟨#[100, 97, 116, 97]⟩).size ≤ 24 := by
      rw [hz]
      split <;> omega
    by_cases h3 : 20 + (wrBody f t p a b l ⟨#[100, 97, 116, 97]⟩).size ≤ 24 + i
    · exact errors_all f t p0 l0 s0 p a b l k i _ w hG h (by omega) (by omega) (by omega) rfl (by omega) (by omega) h3
    · exact errors_cut f t p0 l0 s0 p a b l k i _ w hG h (by omega) (by omega) (by omega) rfl (by omega) (by omega) (by omega)
  · exact errors_no f t p0 l0 s0 p a b l k x w hf ht h

end Go.Proofs.YtomcniakffipfaaDoor
