/-
  outriderref10.Same, of rows that are the same.
-/
import Derived.Test.YtondjponengedaaPlain
namespace Go.Proofs.Ytondjponengedaa
open Go.RowKit
set_option linter.unusedVariables false
set_option linter.unusedSimpArgs false
set_option maxRecDepth 10000
attribute [local go_sem ↓] entry_eq42

theorem sameE_refl (e : En) : sameE e e = true := (sameE_iff e e).2 rfl

set_option maxHeartbeats 2000000 in
theorem same_any {w : World} {b1 b2 m : Nat} {a1 a2 : Option Addr} {c1 c2 : Nat} {X : List En} (h1 : w.ownsRow b1 42 8 (.slice a1 m c1) m (ecells X)) (h2 : w.ownsRow b2 42 8 (.slice a2 m c2) m (ecells X)) (hm : m ≤ 1000) :
    Calls Try.prog 13 #[.slice a1 m c1, .slice a2 m c2] w fun e w' => e = .returned (.bool true) ∧ ∃ q, w' = w.drewN q := by
  have H1 := Lib.hid h1
  have H2 := Lib.hid h2
  clear h1 h2
  go_enter Try.func13, Try.ntmps13
  go_wp2
  go_loopg [5] m (fun gg s5 wr => ∃ i q : Nat, i + gg = m ∧ s5 = .int .i64 i ∧ wr = w.drewN q)
  case atStart => exact ⟨0, 0, by omega, rfl, rfl⟩
  case round =>
    obtain ⟨i, q, hi, rfl, rfl⟩ := hrel
    by_cases hlt : i < m
    · have hltz : (i : Int) < (m : Int) := by omega
      obtain ⟨g, c', e, _⟩ := row_slice H1.out (by omega)
      simp only [Value.slice.injEq, true_and] at e
      obtain ⟨rfl, rfl⟩ := e
      obtain ⟨g2, c2', e2, _⟩ := row_slice H2.out (by omega)
      simp only [Value.slice.injEq, true_and] at e2
      obtain ⟨rfl, rfl⟩ := e2
      obtain ⟨d0, d1, d2, d3, d4, d5, d6, d7⟩ := erow_at H1.out hlt
      obtain ⟨t0, t1, t2, t3, t4, t5, t6, t7⟩ := erow_at H2.out hlt
      generalize X[i]! = x at d0 d1 d2 d3 d4 d5 d6 d7 t0 t1 t2 t3 t4 t5 t6 t7
      have hsm := sameE_refl x
      obtain ⟨⟨x1, x2, x3, x4, x5⟩, x6, x7, x8⟩ := x
      simp only at d0 d1 d2 d3 d4 d5 d6 d7 t0 t1 t2 t3 t4 t5 t6 t7
      go_wp2
      go_quiet (fail)
      go_wp2
      go_roundg (m - (i + 1))
      case measure => omega
      case rel => exact ⟨i + 1, q + nq, by omega, by go_num, by rw [← World.drewN_drewN]⟩
    · obtain rfl : i = m := by omega
      go_wp2
      go_ret
      exact ⟨rfl, q, rfl⟩

end Go.Proofs.Ytondjponengedaa
