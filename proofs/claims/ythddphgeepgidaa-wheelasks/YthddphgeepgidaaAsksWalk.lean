/-
  What the function of WheelAsks does, whatever script and id it is given.
-/
import Derived.Test.YthddphgeepgidaaRefP
namespace Go.Proofs.Ythddphgeepgidaa
open Go.RowKit Go.Maps
set_option linter.unusedVariables false
set_option linter.unusedSimpArgs false
set_option maxRecDepth 10000

set_option maxHeartbeats 8000000 in
theorem asks_walk (a : Option Addr) (n c : Nat) (l : List Opr) (x : Int) (w : World) (hS : Scr w a n c l) (hx : (Lit.int .i64 x).wf = true) :
    Calls Try.prog 4 #[.slice a n c, .int .i64 x] w fun e w' => e = .returned (.bool true) ∧ Below w.heap.size w w' := by
  have HS := Lib.hid hS
  have hnc := hS.2.1
  have HX := Lib.hid (bounds_i64 hx)
  have HAL := Lib.hid (fun w => alive_any w)
  have HNEW := Lib.hid (pl_new w)
  have HOK := Lib.hid (runS_ok l l.length (Nat.le_refl _))
  have HNL := Lib.hid hS.1
  clear hS hx
  by_cases hbig : n > 500
  · have hbz : (n : Int) > 500 := by omega
    go_enter Try.func4, Try.ntmps4
    go_wp2_with fail
    refine HNEW.out.mono ?_
    rintro e w0 ⟨B, rfl, hP⟩
    have HP := Lib.hid hP
    clear hP
    go_wp2_with (go_at_call 10; refine (HAL.out _).mono ?_; rintro e w1 ⟨rfl, hb1⟩; have HB1 := Lib.hid hb1; clear hb1)
    go_ret
    exact ⟨rfl, HP.out.below.trans (HB1.out.mono HP.out.below.size)⟩
  · have hbz : ¬ ((n : Int) > 500) := by omega
    have HLL : Hid ((runS l).l.length ≤ 1000) := Lib.hid (by have := HOK.out.len; rw [List.take_length] at this; have := HNL.out; omega)
    go_enter Try.func4, Try.ntmps4
    go_wp2_with fail
    refine HNEW.out.mono ?_
    rintro e w0 ⟨B, rfl, hP⟩
    have hpl := plays_any hP HS.out (by omega)
    simp only [rv] at hpl
    have HPL := Lib.hid hpl
    clear hP hpl
    go_wp2_with fail
    refine HPL.out.mono ?_
    rintro e w1 ⟨v, rfl, hr, hP1⟩
    have HLR := Lib.hid hr
    have hba : ∀ o, Below w1.heap.size w1 (w1.alloc o) := fun o => below_alloc (Below.refl _ _) o
    obtain ⟨av, cv, rfl, hnv, -⟩ := row_any hr
    have hrw : ∀ o, Calls Try.prog 13 #[rv (runS l).now (.slice av (runS l).l.length cv), .int .i64 x] (w1.alloc o) fun e w' => e = .returned (.tuple #[.int .i64 (((look (runS l).l x).getD 0 : Nat) : Int), .bool (look (runS l).l x).isSome]) ∧ Below (w1.alloc o).heap.size (w1.alloc o) w' := fun o => rwhen_any (row_below hr (hba o)) HLL.out
    have hpw : ∀ o, Calls Try.prog 12 #[.pointer (some ⟨B, 0, none⟩), .int .i64 x] (w1.alloc o) fun e w' => e = .returned (.tuple #[.int .i64 (((look (runS l).l x).getD 0 : Nat) : Int), .bool (look (runS l).l x).isSome]) ∧ (w1.alloc o) = w' := fun o => pl_when (hP1.grow (hba o)) HX.out
    generalize (look (runS l).l x).getD 0 = p at hrw hpw
    generalize (look (runS l).l x).isSome = q at hrw hpw
    simp only [rv] at hrw
    have HRW := Lib.hid hrw
    have HPW := Lib.hid hpw
    have HP1 := Lib.hid hP1.below
    clear hrw hpw hr hP1 hba HLR
    generalize (runS l).l.length = m at *
    generalize (runS l).now = nw at *
    go_wp2_with (first
      | (go_at_call 12; refine (HPW.out _).mono ?_; rintro e w2 ⟨rfl, rfl⟩)
      | (go_at_call 13; refine (HRW.out _).mono ?_; rintro e w3 ⟨rfl, hb3⟩; have HB3 := Lib.hid hb3; clear hb3)
      | (go_at_call 10; refine (HAL.out _).mono ?_; rintro e w4 ⟨rfl, hb4⟩; have HB4 := Lib.hid hb4; clear hb4))
    go_ret
    exact ⟨rfl, HP1.out.trans (((below_alloc (Below.refl _ _) _).trans ((HB3.out.trans (HB4.out.mono HB3.out.size)).mono (by simp))).mono HP1.out.size)⟩

end Go.Proofs.Ythddphgeepgidaa
