/-
  wheel.Move.
-/
import Derived.Test.YtkcndgiiangmjaaMoved
namespace Go.Proofs.Ytkcndgiiangmjaa
open Go.RowKit Go.Maps
set_option linter.unusedVariables false
set_option linter.unusedSimpArgs false
set_option maxRecDepth 10000

set_option maxHeartbeats 1000000 in
/-- To a time that is refused. -/
theorem move_no {w : World} {F : Nat → Prop} {B now : Nat} {L T : List Tm} {x : Int} (h : Wh w F B now L T) (hx : ¬ ((now : Int) ≤ x ∧ x ≤ 1099511627776)) :
    Calls Try.prog 34 #[.pointer (some ⟨B, 0, none⟩), .int .i64 x] w fun e w' => e = .returned (.slice none 0 0) ∧ Below w.heap.size w w' := by
  obtain ⟨M, sl, h⟩ := h
  have c0 := h.cells.1
  have hB := h.lt B h.inB
  clear h
  by_cases h1 : x < (now : Int)
  · have hd : decide (x < (now : Int)) = true := decide_eq_true h1
    clear hx
    go_enter Try.func34, Try.ntmps34
    go_wp2_with fail
    go_region
    all_goals
      go_wp2
      go_ret
      exact ⟨rfl, below_drew (below_alloc (below_alloc (Below.refl _ _) _) _)⟩
  · have h2 : 1099511627776 < x := by omega
    have hd : decide (x < (now : Int)) = false := decide_eq_false h1
    have hd2 : decide (1099511627776 < x) = true := decide_eq_true h2
    clear hx
    go_enter Try.func34, Try.ntmps34
    go_wp2_with fail
    go_region
    all_goals
      go_wp2
      go_ret
      exact ⟨rfl, below_drew (below_alloc (below_alloc (Below.refl _ _) _) _)⟩

end Go.Proofs.Ytkcndgiiangmjaa
