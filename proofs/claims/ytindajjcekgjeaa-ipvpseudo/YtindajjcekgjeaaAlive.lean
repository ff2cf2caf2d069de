/-
  What the statements' own alive does.
-/
import Derived.Test.YtindajjcekgjeaaWire
namespace Go.Proofs.Ytindajjcekgjeaa
open Go.RowKit
set_option linter.unusedVariables false

theorem okp_x : Okp ⟨#[10, 0, 0, 1]⟩ ⟨#[10, 0, 0, 2]⟩ 17 64 ⟨#[120]⟩ := by
  refine ⟨by decide, by decide, by decide, by decide⟩

theorem encode_x (w : World) : Calls Try.prog 10 #[.agg #[.string ⟨#[10, 0, 0, 1]⟩, .string ⟨#[10, 0, 0, 2]⟩, .int .i64 17, .int .i64 64, .string ⟨#[120]⟩]] w fun e w' => ∃ g c, e = .returned (.tuple #[.slice (some ⟨g, 0, none⟩) 21 c, .int .i64 0]) ∧
    Hid (Part w' ⟨some ⟨g, 0, none⟩, 21, c, wire ⟨#[10, 0, 0, 1]⟩ ⟨#[10, 0, 0, 2]⟩ 17 64 ⟨#[120]⟩⟩) ∧ Below w.heap.size w w' := by
  refine (encode_yes _ _ _ _ _ w okp_x 21 rfl).mono ?_
  rintro e w' ⟨g, c, rfl, ho, hb⟩
  exact ⟨g, c, rfl, Lib.hid (ho.out.part (wire_byt okp_x)), hb.out⟩

theorem dec_x : dec (wire ⟨#[10, 0, 0, 1]⟩ ⟨#[10, 0, 0, 2]⟩ 17 64 ⟨#[120]⟩) = (⟨⟨#[10, 0, 0, 1]⟩, ⟨#[10, 0, 0, 2]⟩, 17, 64, ⟨#[120]⟩⟩, 0) := by
  have := dec_wire _ _ _ _ _ [] okp_x
  rwa [List.append_nil] at this
theorem right_x (w : World) : Calls Try.prog 17 #[.string ⟨#[49, 50, 51, 52]⟩] w fun e w' => e = .returned (.bool true) ∧ w = w' := right_any _ w (by decide)
theorem six_x (w : World) : Calls Try.prog 19 #[.string ⟨#[48, 49, 50, 51, 52, 53, 54, 55, 56, 57, 97, 98, 99, 100, 101, 102]⟩] w fun e w' => e = .returned (.bool true) ∧ w = w' := six_any _ w (by decide)

attribute [local go_sem ↓] pk_eq
set_option maxHeartbeats 1000000 in
/-- outriderlaw03.alive. -/
theorem alive_any (w : World) : Calls Try.prog 12 #[] w fun e w' => e = .returned (.bool true) ∧ Below w.heap.size w w' := by
  go_enter Try.func12, Try.ntmps12
  go_wp2_with fail
  refine (encode_x _).mono ?_
  rintro e w1 ⟨g, c, rfl, hp1, hb1⟩
  go_wp2_with fail
  refine (decode_any _ 21 c _ w1 hp1.out (by omega) ⟨#[10, 0, 0, 1]⟩ ⟨#[10, 0, 0, 2]⟩ 17 64 ⟨#[120]⟩ 0 dec_x).mono ?_
  rintro e w2 ⟨rfl, hb2⟩
  have hb12 := below_then hb1 hb1.size hb2
  obtain ⟨hc2, hf2⟩ := bcell hb12
  have z2 := hb12.size
  simp at z2
  have y2 : w.heap.size < w2.heap.size := by omega
  go_wp2_with fail
  refine (decode_empty _ _ _).mono ?_
  rintro e w3 ⟨rfl, hb3⟩
  obtain ⟨hc3, hf3⟩ := bcell hb3
  have z3 := hb3.size
  simp at z3
  have y3 : w.heap.size < w3.heap.size := by omega
  have y4 : w2.heap.size < w3.heap.size := by omega
  go_wp2_with (first | (go_at_call 17; refine (right_x _).mono ?_; rintro e w' ⟨rfl, rfl⟩) | (go_at_call 19; refine (six_x _).mono ?_; rintro e w' ⟨rfl, rfl⟩))
  go_ret
  refine ⟨rfl, ?_⟩
  exact below_alloc (below_then (below_alloc (below_then ((Below.refl _ _).alloc (Nat.le_refl _) _) (by simp) hb12) _) (by simp; omega) hb3) _

end Go.Proofs.Ytindajjcekgjeaa
