/-
  What the document's Skew and Down do.
-/
import Derived.Test.YtpcdaidgijkkbaaValive
import Derived.Test.YtpcdaidgijkkbaaVframe
namespace Go.Proofs.Ytpcdaidgijkkbaa
open Go.RowKit
set_option linter.unusedVariables false
set_option linter.unusedSimpArgs false
set_option maxRecDepth 40000

set_option maxHeartbeats 1000000 in
/-- outriderref13.Skew. -/
theorem rskew_any (p e : Int) (w : World) : Calls Try.prog 25 #[.int .i64 p, .int .i64 e] w fun x w' => x = .returned (.int .i64 (skewI p e)) ∧ w = w' := by
  generalize hr : skewI p e = r
  have HR := Lib.hid hr
  clear hr
  by_cases h1 : p < 0
  · have e1 : decide (p < 0) = true := decide_eq_true h1
    have : r = 0 := by rw [← HR.out]; unfold skewI; rw [if_pos (.inl h1)]
    subst this
    go_enter Try.func25, Try.ntmps25
    go_wp2
    go_ret
    exact ⟨rfl, rfl⟩
  by_cases h2 : 255 < p
  · have e1 : decide (p < 0) = false := decide_eq_false h1
    have e2 : decide (255 < p) = true := decide_eq_true h2
    have e2' : decide (p > 255) = true := decide_eq_true h2
    have : r = 0 := by rw [← HR.out]; unfold skewI; rw [if_pos (.inr (.inl h2))]
    subst this
    go_enter Try.func25, Try.ntmps25
    go_wp2
    go_ret
    exact ⟨rfl, rfl⟩
  by_cases h3 : e < 1
  · have e1 : decide (p < 0) = false := decide_eq_false h1
    have e2 : decide (255 < p) = false := decide_eq_false h2
    have e2' : decide (p > 255) = false := decide_eq_false h2
    have e3 : decide (e < 1) = true := decide_eq_true h3
    have : r = 0 := by rw [← HR.out]; unfold skewI; rw [if_pos (.inr (.inr (.inl h3)))]
    subst this
    go_enter Try.func25, Try.ntmps25
    go_wp2
    go_ret
    exact ⟨rfl, rfl⟩
  by_cases h4 : 4095 < e
  · have e1 : decide (p < 0) = false := decide_eq_false h1
    have e2 : decide (255 < p) = false := decide_eq_false h2
    have e2' : decide (p > 255) = false := decide_eq_false h2
    have e3 : decide (e < 1) = false := decide_eq_false h3
    have e4 : decide (4095 < e) = true := decide_eq_true h4
    have e4' : decide (e > 4095) = true := decide_eq_true h4
    have : r = 0 := by rw [← HR.out]; unfold skewI; rw [if_pos (.inr (.inr (.inr h4)))]
    subst this
    go_enter Try.func25, Try.ntmps25
    go_wp2
    go_ret
    exact ⟨rfl, rfl⟩
  have hpe : 0 ≤ p * e ∧ p * e ≤ 255 * e := ⟨Int.mul_nonneg (by omega) (by omega), Int.mul_le_mul_of_nonneg_right (by omega) (by omega)⟩
  have hsub : (256 - p) * e = 256 * e - p * e := Int.sub_mul 256 p e
  have HE : Hid (skewI p e = (256 * e - p * e) / 256) := Lib.hid (by
    unfold skewI
    rw [if_neg (by omega), hsub])
  have H : Hid (wrap64 ((wrap64 (256 * e - wrap64 (p * e))).tdiv 256) = r) := Lib.hid (by
    rw [← HR.out, HE.out]
    generalize p * e = q at *
    have w1 : wrap64 (256 * e) = 256 * e := by unfold wrap64; omega
    have w2 : wrap64 q = q := by unfold wrap64; omega
    have w3 : wrap64 (256 * e - q) = 256 * e - q := by unfold wrap64; omega
    rw [w2, w3, tdiv_pos (by omega)]
    unfold wrap64
    omega)
  have e1 : decide (p < 0) = false := decide_eq_false h1
  have e2 : decide (255 < p) = false := decide_eq_false h2
  have e2' : decide (p > 255) = false := decide_eq_false h2
  have e3 : decide (e < 1) = false := decide_eq_false h3
  have e4 : decide (4095 < e) = false := decide_eq_false h4
  have e4' : decide (e > 4095) = false := decide_eq_false h4
  clear HE hpe hsub
  go_enter Try.func25, Try.ntmps25
  go_wp2
  go_ret
  exact ⟨ret_int H.out, rfl⟩

set_option maxHeartbeats 1000000 in
/-- VrrpSkews. -/
theorem skews_walk (p e : Int) (w : World) (hp : (Lit.int .i64 p).wf = true) (he : (Lit.int .i64 e).wf = true) : Calls Try.prog 4 #[.int .i64 p, .int .i64 e] w fun x w' => x = .returned (.bool true) ∧ Below w.heap.size w w' := by
  go_enter Try.func4, Try.ntmps4
  go_wp2_with fail
  refine (alive_any w).mono ?_
  rintro e1 w1 ⟨rfl, hb1⟩
  have HB := Lib.hid hb1
  clear hb1
  generalize hs : skewI p e = s
  have H1 := Lib.hid (skew_any p e w1)
  have H2 := Lib.hid (rskew_any p e w1)
  rw [hs] at H1 H2
  clear hs
  go_wp2_with fail
  refine H1.out.mono ?_
  rintro e1 w' ⟨rfl, rfl⟩
  go_wp2_with fail
  refine H2.out.mono ?_
  rintro e1 w' ⟨rfl, rfl⟩
  go_wp2
  go_ret
  exact ⟨ret_bool (by simp), HB.out⟩
end Go.Proofs.Ytpcdaidgijkkbaa
