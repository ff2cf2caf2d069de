/-
  What the statements' own alive does.
-/
import Derived.Test.YtmjjdgcgngnjhaaEnc
namespace Go.Proofs.Ytmjjdgcgngnjhaa
open Go.RowKit

theorem Virtual_seven (w : World) : Calls Try.prog 15 #[.int .i64 7, .bool false] w fun e w' => e = .returned (.tuple #[.agg #[.int .u8 0, .int .u8 0, .int .u8 94, .int .u8 0, .int .u8 1, .int .u8 7], .bool true]) ∧ Below w.heap.size w w' :=
  Virtual_yes 7 false w (by omega) (by omega)

theorem encode_x (w : World) : Calls Try.prog 10 #[.agg #[.int .u8 0, .int .u8 0, .int .u8 94, .int .u8 0, .int .u8 1, .int .u8 7, .int .u8 0, .int .u8 0, .int .u8 0, .int .u8 0, .int .u8 0, .int .u8 0, .int .i64 2048, .string ⟨#[120]⟩]] w fun e w' => e = .returned (.tuple #[.slice (some ⟨w.heap.size + 1, 0, none⟩) 15 15, .int .i64 0]) ∧
    (w'.cell? ⟨w.heap.size + 1, 5, none⟩ = some (.int .u8 7) ∧ w'.cell? ⟨w.heap.size + 1, 12, none⟩ = some (.int .u8 8)) ∧ Below w.heap.size w w' ∧ w.heap.size + 1 < w'.heap.size := by
  refine (encode_yes 0 0 94 0 1 7 0 0 0 0 0 0 2048 ⟨#[120]⟩ w (by omega) (by omega) (by omega) (by omega) (by omega) (by omega) (by omega) (by omega) (by omega) (by omega) (by omega) (by omega) (by omega) (by omega) (by decide)).mono ?_
  rintro e w' ⟨rfl, hp, hb⟩
  obtain ⟨b, off, e, hc⟩ := hp.out.2.2.2 (show 0 < 15 by decide)
  have e1 : some (⟨w.heap.size + 1, 0, none⟩ : Addr) = some ⟨b, off, none⟩ := e
  simp only [Option.some.injEq, Addr.mk.injEq] at e1
  obtain ⟨rfl, rfl, -⟩ := e1
  have c5 := hc 5 (show 5 < 15 by decide)
  have c12 := hc 12 (show 12 < 15 by decide)
  exact ⟨rfl, ⟨c5, c12⟩, hb, World.block_lt_of_cell? _ _ c5⟩

/-- The sixth byte of a card's address. -/
@[local go_sem] theorem mac_sixth (a0 a1 a2 a3 a4 a5 : Int) (w : World) : (Instr.index 23 (.agg #[.int .u8 a0, .int .u8 a1, .int .u8 a2, .int .u8 a3, .int .u8 a4, .int .u8 a5]) (.int .i64 5)).run Try.prog w = .ok (.int .u8 a5) w := by
  obtain ⟨i, hi, -, hs, -⟩ := info_parts info5
  simp [Instr.index, run_underlying Try.underlying23, asIntOf, part, isAgg, run_underlying Try.underlying5, sizeOf, typeInfo, hi, hs, go_sem]
attribute [local go_sem] mac_eq
set_option maxHeartbeats 1000000 in
/-- outriderlaw02.alive. -/
theorem alive_any (w : World) : Calls Try.prog 12 #[] w fun e w' => e = .returned (.bool true) ∧ Below w.heap.size w w' := by
  go_enter Try.func12, Try.ntmps12
  go_wp2_with fail
  refine (Virtual_seven _).mono ?_
  rintro e w1 ⟨rfl, hb1⟩
  go_wp2_with fail
  refine (encode_x _).mono ?_
  rintro e w2 ⟨rfl, ⟨c5, c12⟩, hb2, hz2⟩
  obtain ⟨hc2, hf2⟩ := bcell hb2
  simp at c5 c12 hz2
  go_wp2_with fail
  refine (all_any _).mono ?_
  rintro e w3 ⟨rfl, hb3⟩
  go_wp2
  go_ret
  refine ⟨rfl, ?_⟩
  exact below_then hb1 hb1.size (below_then (((Below.refl _ _).alloc (Nat.le_refl _) _)) (by simp) (below_then hb2 hb2.size hb3))

end Go.Proofs.Ytmjjdgcgngnjhaa
