/-
  What the laws' function alive does: it returns true.
-/
import Derived.Test.YtomcniakffipfaaDoorPfacts
namespace Go.Proofs.YtomcniakffipfaaDoor
open Go.RowKit
set_option linter.unusedVariables false
set_option maxRecDepth 10000

theorem alive_ok : WrOk ⟨#[10, 0, 0, 1]⟩ ⟨#[10, 0, 0, 2]⟩ 64 17 53 99 0 0 ⟨#[120]⟩ := by
  refine ⟨rfl, rfl, rfl, rfl, rfl, ?_⟩
  rw [wrBody_size]
  decide

theorem flow_fifth (f t : ByteArray) (p a b : Int) (w : World) : (Instr.field 27 (.agg #[.int .i64 p, .string f, .string t, .int .i64 a, .int .i64 b]) 4).run Tryd.prog w = .ok (.int .i64 b) w := by
  simp [Instr.field, run_underlying Tryd.underlying27, part, isAgg, asAgg, run_underlying Tryd.underlying3, sizeOf, typeInfo, go_sem]
attribute [local go_sem ↓] hd_eq flow_fifth
set_option maxHeartbeats 1000000 in
/-- outriderlaw05.alive. -/
theorem alive_any (w : World) : Calls Tryd.prog 5 #[] w fun e w' => e = .returned (.bool true) ∧ Below w.heap.size w w' := by
  obtain ⟨B, hB⟩ : ∃ B, B = wrBody ⟨#[10, 0, 0, 1]⟩ ⟨#[10, 0, 0, 2]⟩ 17 53 99 0 ⟨#[120]⟩ := ⟨_, rfl⟩
  have hw := fun w => write_yes ⟨#[10, 0, 0, 1]⟩ ⟨#[10, 0, 0, 2]⟩ 0 64 ⟨#[]⟩ 17 53 99 0 0 ⟨#[120]⟩ w (by decide) (by decide) (by decide) alive_ok
  have hr := fun w => read_written ⟨#[10, 0, 0, 1]⟩ ⟨#[10, 0, 0, 2]⟩ 64 17 53 99 0 0 ⟨#[120]⟩ w (by decide) (by decide) (by decide) alive_ok
  have hsz : B.size = 9 := by rw [hB, wrBody_size]; rfl
  rw [← hB] at hw hr
  have HW := Lib.hid hw
  have HR := Lib.hid hr
  clear hw hr hB
  go_enter Tryd.func5, Tryd.ntmps5
  go_wp2_with fail
  refine (HW.out _).mono ?_
  rintro e w1 ⟨rfl, hb1⟩
  have HB1 := Lib.hid hb1
  have n1 : w.heap.size ≤ w1.heap.size := hb1.size
  clear hb1
  go_wp2_with fail
  refine (HR.out _).mono ?_
  rintro e w2 ⟨rfl, hb2⟩
  rw [show (if (17 : Int) = 6 then (20 : Int) else 8) = 8 from rfl]
  obtain ⟨x0, x1, x2, x3, x4⟩ := (Boxed.new w1 ⟨#[10, 0, 0, 1]⟩ ⟨#[10, 0, 0, 2]⟩ 17 64 B).below hb2 (by simp)
  have n2 : w1.heap.size < w2.heap.size := World.block_lt_of_cell? _ _ x0
  have HB2 := Lib.hid ((HB1.out.alloc n1 _).trans (hb2.mono (by simp; omega)))
  clear hb2
  go_wp2_with fail
  refine (turn_any ⟨#[]⟩ ⟨#[]⟩ 0 1 0 _).mono ?_
  rintro e w3 ⟨rfl, hb3⟩
  have HB3 := Lib.hid ((HB2.out.alloc (by omega) _).trans (hb3.mono (by simp; omega)))
  clear hb3
  go_wp2
  go_ret
  exact ⟨rfl, HB3.out⟩

end Go.Proofs.YtomcniakffipfaaDoor
