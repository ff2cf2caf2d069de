/-
  What the function of WheelAll does, whatever script it is given.
-/
import Derived.Test.YthddphgeepgidaaRefP
namespace Go.Proofs.Ythddphgeepgidaa
open Go.RowKit Go.Maps
set_option linter.unusedVariables false
set_option linter.unusedSimpArgs false
set_option maxRecDepth 10000

set_option maxHeartbeats 8000000 in
theorem alls_walk (a : Option Addr) (n c : Nat) (l : List Opr) (w : World) (hS : Scr w a n c l) :
    Calls Try.prog 3 #[.slice a n c] w fun e w' => e = .returned (.bool true) ∧ Below w.heap.size w w' := by
  have HS := Lib.hid hS
  have hnc := hS.2.1
  have HAL := Lib.hid (fun w => alive_any w)
  have HNEW := Lib.hid (pl_new w)
  clear hS
  by_cases hbig : n > 500
  · have hbz : (n : Int) > 500 := by omega
    go_enter Try.func3, Try.ntmps3
    go_wp2_with fail
    refine HNEW.out.mono ?_
    rintro e w0 ⟨B, rfl, hP⟩
    have HP := Lib.hid hP
    clear hP
    go_wp2_with (go_at_call 10; refine (HAL.out _).mono ?_; rintro e w1 ⟨rfl, hb1⟩; have HB1 := Lib.hid hb1; clear hb1)
    go_ret
    exact ⟨rfl, HP.out.below.trans (HB1.out.mono HP.out.below.size)⟩
  · have hbz : ¬ ((n : Int) > 500) := by omega
    go_enter Try.func3, Try.ntmps3
    go_wp2_with fail
    refine HNEW.out.mono ?_
    rintro e w0 ⟨B, rfl, hP⟩
    have hpl := plays_any hP HS.out (by omega)
    simp only [rv] at hpl
    have HPL := Lib.hid hpl
    clear hP hpl
    go_wp2_with (first
      | (go_at_call 11; refine HPL.out.mono ?_; rintro e w1 ⟨v, rfl, hr, hP1⟩; obtain ⟨av, cv, rfl, hnv, -⟩ := row_any hr; have HP1 := Lib.hid hP1; have HR := Lib.hid hr; clear hr hP1)
      | (go_at_call 10; refine (HAL.out _).mono ?_; rintro e w2 ⟨rfl, hb1⟩; have HB1 := Lib.hid hb1; clear hb1))
    go_ret
    exact ⟨rfl, HP1.out.below.trans (((below_alloc (Below.refl _ _) _).trans (HB1.out.mono (by simp))).mono HP1.out.below.size)⟩

end Go.Proofs.Ythddphgeepgidaa
