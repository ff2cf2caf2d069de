/-
  What the reference's Encode does: refused for its type.
-/
import Derived.Test.YtmjjdgcgngnjhaaRenc
namespace Go.Proofs.Ytmjjdgcgngnjhaa
open Go.RowKit
set_option linter.unusedVariables false

set_option maxHeartbeats 2000000 in
/-- outriderref02.Encode. -/
theorem rencode_lo (a0 a1 a2 a3 a4 a5 a6 a7 a8 a9 a10 a11 t : Int) (s : ByteArray) (w : World) (q0 : 0 ≤ a0 ∧ a0 ≤ 255) (q1 : 0 ≤ a1 ∧ a1 ≤ 255) (q2 : 0 ≤ a2 ∧ a2 ≤ 255) (q3 : 0 ≤ a3 ∧ a3 ≤ 255) (q4 : 0 ≤ a4 ∧ a4 ≤ 255) (q5 : 0 ≤ a5 ∧ a5 ≤ 255) (q6 : 0 ≤ a6 ∧ a6 ≤ 255) (q7 : 0 ≤ a7 ∧ a7 ≤ 255) (q8 : 0 ≤ a8 ∧ a8 ≤ 255) (q9 : 0 ≤ a9 ∧ a9 ≤ 255) (q10 : 0 ≤ a10 ∧ a10 ≤ 255) (q11 : 0 ≤ a11 ∧ a11 ≤ 255) (h1 : t < 1536) :
    Calls Try.prog 11 #[.agg #[.int .u8 a0, .int .u8 a1, .int .u8 a2, .int .u8 a3, .int .u8 a4, .int .u8 a5, .int .u8 a6, .int .u8 a7, .int .u8 a8, .int .u8 a9, .int .u8 a10, .int .u8 a11, .int .i64 t, .string s]] w (fun e w' => e = .returned (.tuple #[.slice none 0 0, .int .i64 1]) ∧ Below w.heap.size w w') := by
  have g1 : decide (t < 1536) = true := by simp; omega
  go_enter Try.func11, Try.ntmps11
  go_wp2_with fail
  go_loopg [4, 5] 6 (fun gg v i wr => ReRel (w.alloc (.cells #[.int .u8 a0, .int .u8 a1, .int .u8 a2, .int .u8 a3, .int .u8 a4, .int .u8 a5, .int .u8 a6, .int .u8 a7, .int .u8 a8, .int .u8 a9, .int .u8 a10, .int .u8 a11, .int .i64 t, .string s] 25)) (w.heap.size + 1) [] [a0, a1, a2, a3, a4, a5] gg v i wr)
  case atStart => exact ⟨0, rfl, rfl, Own.none_ _ _, Below.refl _ _⟩
  case round =>
    obtain ⟨k, hk, rfl, ho, hbel⟩ := hrel
    have HB := Lib.hid hbel
    clear hbel
    match k, hk, ho with
    | 0, hk, ho =>
      rw [show ((0 : Nat) : Int) = 0 from rfl]
      have ck : wr.cell? ⟨w.heap.size, 0, none⟩ = some (.int .u8 a0) := (HB.out.cell (p := ⟨w.heap.size, 0, none⟩) (by simp)).trans (by simp [go_sem])
      obtain ⟨v', w', hr, ho', hb'⟩ := append_cells (wr.alloc (.cells #[.int .u8 a0] 5)) (w.heap.size + 1) u4 _ wr.heap.size 1 1 [a0] (ho.alloc _) rfl (cell_new _ _ _) (by have := HB.out.size; simp at this ⊢; omega) (by simp) 26
      have HR := Lib.hid (show ReRel (w.alloc (.cells #[.int .u8 a0, .int .u8 a1, .int .u8 a2, .int .u8 a3, .int .u8 a4, .int .u8 a5, .int .u8 a6, .int .u8 a7, .int .u8 a8, .int .u8 a9, .int .u8 a10, .int .u8 a11, .int .i64 t, .string s] 25)) (w.heap.size + 1) [] [a0, a1, a2, a3, a4, a5] 5 v' (.int .i64 1) w' from ⟨1, rfl, rfl, ho', (HB.out.alloc (by have := HB.out.size; simp at this; omega) _).trans hb'⟩)
      have HA := Lib.hid hr
      clear ho ho' hb' hr
      go_wp2_with (at_builtin; (with_reducible refine wpList_append_run ?_ (.tmp 11) (.tmp 16) 26 26 ?_ ?_ ?_ 26 ?_ HA.out ?_); (focus rfl); (focus rfl); (focus rfl); (focus rfl); (focus rfl))
      go_roundg 5
      case measure => omega
      case rel => exact HR.out
    | 1, hk, ho =>
      rw [show ((1 : Nat) : Int) = 1 from rfl]
      have ck : wr.cell? ⟨w.heap.size, 1, none⟩ = some (.int .u8 a1) := (HB.out.cell (p := ⟨w.heap.size, 1, none⟩) (by simp)).trans (by simp [go_sem])
      obtain ⟨v', w', hr, ho', hb'⟩ := append_cells (wr.alloc (.cells #[.int .u8 a1] 5)) (w.heap.size + 1) u4 _ wr.heap.size 1 1 [a1] (ho.alloc _) rfl (cell_new _ _ _) (by have := HB.out.size; simp at this ⊢; omega) (by simp) 26
      have HR := Lib.hid (show ReRel (w.alloc (.cells #[.int .u8 a0, .int .u8 a1, .int .u8 a2, .int .u8 a3, .int .u8 a4, .int .u8 a5, .int .u8 a6, .int .u8 a7, .int .u8 a8, .int .u8 a9, .int .u8 a10, .int .u8 a11, .int .i64 t, .string s] 25)) (w.heap.size + 1) [] [a0, a1, a2, a3, a4, a5] 4 v' (.int .i64 2) w' from ⟨2, rfl, rfl, ho', (HB.out.alloc (by have := HB.out.size; simp at this; omega) _).trans hb'⟩)
      have HA := Lib.hid hr
      clear ho ho' hb' hr
      go_wp2_with (at_builtin; (with_reducible refine wpList_append_run ?_ (.tmp 11) (.tmp 16) 26 26 ?_ ?_ ?_ 26 ?_ HA.out ?_); (focus rfl); (focus rfl); (focus rfl); (focus rfl); (focus rfl))
      go_roundg 4
      case measure => omega
      case rel => exact HR.out
    | 2, hk, ho =>
      rw [show ((2 : Nat) : Int) = 2 from rfl]
      have ck : wr.cell? ⟨w.heap.size, 2, none⟩ = some (.int .u8 a2) := (HB.out.cell (p := ⟨w.heap.size, 2, none⟩) (by simp)).trans (by simp [go_sem])
      obtain ⟨v', w', hr, ho', hb'⟩ := append_cells (wr.alloc (.cells #[.int .u8 a2] 5)) (w.heap.size + 1) u4 _ wr.heap.size 1 1 [a2] (ho.alloc _) rfl (cell_new _ _ _) (by have := HB.out.size; simp at this ⊢; omega) (by simp) 26
      have HR := Lib.hid (show ReRel (w.alloc (.cells #[.int .u8 a0, .int .u8 a1, .int .u8 a2, .int .u8 a3, .int .u8 a4, .int .u8 a5, .int .u8 a6, .int .u8 a7, .int .u8 a8, .int .u8 a9, .int .u8 a10, .int .u8 a11, .int .i64 t, .string s] 25)) (w.heap.size + 1) [] [a0, a1, a2, a3, a4, a5] 3 v' (.int .i64 3) w' from ⟨3, rfl, rfl, ho', (HB.out.alloc (by have := HB.out.size; simp at this; omega) _).trans hb'⟩)
      have HA := Lib.hid hr
      clear ho ho' hb' hr
      go_wp2_with (at_builtin; (with_reducible refine wpList_append_run ?_ (.tmp 11) (.tmp 16) 26 26 ?_ ?_ ?_ 26 ?_ HA.out ?_); (focus rfl); (focus rfl); (focus rfl); (focus rfl); (focus rfl))
      go_roundg 3
      case measure => omega
      case rel => exact HR.out
    | 3, hk, ho =>
      rw [show ((3 : Nat) : Int) = 3 from rfl]
      have ck : wr.cell? ⟨w.heap.size, 3, none⟩ = some (.int .u8 a3) := (HB.out.cell (p := ⟨w.heap.size, 3, none⟩) (by simp)).trans (by simp [go_sem])
      obtain ⟨v', w', hr, ho', hb'⟩ := append_cells (wr.alloc (.cells #[.int .u8 a3] 5)) (w.heap.size + 1) u4 _ wr.heap.size 1 1 [a3] (ho.alloc _) rfl (cell_new _ _ _) (by have := HB.out.size; simp at this ⊢; omega) (by simp) 26
      have HR := Lib.hid (show ReRel (w.alloc (.cells #[.int .u8 a0, .int .u8 a1, .int .u8 a2, .int .u8 a3, .int .u8 a4, .int .u8 a5, .int .u8 a6, .int .u8 a7, .int .u8 a8, .int .u8 a9, .int .u8 a10, .int .u8 a11, .int .i64 t, .string s] 25)) (w.heap.size + 1) [] [a0, a1, a2, a3, a4, a5] 2 v' (.int .i64 4) w' from ⟨4, rfl, rfl, ho', (HB.out.alloc (by have := HB.out.size; simp at this; omega) _).trans hb'⟩)
      have HA := Lib.hid hr
      clear ho ho' hb' hr
      go_wp2_with (at_builtin; (with_reducible refine wpList_append_run ?_ (.tmp 11) (.tmp 16) 26 26 ?_ ?_ ?_ 26 ?_ HA.out ?_); (focus rfl); (focus rfl); (focus rfl); (focus rfl); (focus rfl))
      go_roundg 2
      case measure => omega
      case rel => exact HR.out
    | 4, hk, ho =>
      rw [show ((4 : Nat) : Int) = 4 from rfl]
      have ck : wr.cell? ⟨w.heap.size, 4, none⟩ = some (.int .u8 a4) := (HB.out.cell (p := ⟨w.heap.size, 4, none⟩) (by simp)).trans (by simp [go_sem])
      obtain ⟨v', w', hr, ho', hb'⟩ := append_cells (wr.alloc (.cells #[.int .u8 a4] 5)) (w.heap.size + 1) u4 _ wr.heap.size 1 1 [a4] (ho.alloc _) rfl (cell_new _ _ _) (by have := HB.out.size; simp at this ⊢; omega) (by simp) 26
      have HR := Lib.hid (show ReRel (w.alloc (.cells #[.int .u8 a0, .int .u8 a1, .int .u8 a2, .int .u8 a3, .int .u8 a4, .int .u8 a5, .int .u8 a6, .int .u8 a7, .int .u8 a8, .int .u8 a9, .int .u8 a10, .int .u8 a11, .int .i64 t, .string s] 25)) (w.heap.size + 1) [] [a0, a1, a2, a3, a4, a5] 1 v' (.int .i64 5) w' from ⟨5, rfl, rfl, ho', (HB.out.alloc (by have := HB.out.size; simp at this; omega) _).trans hb'⟩)
      have HA := Lib.hid hr
      clear ho ho' hb' hr
      go_wp2_with (at_builtin; (with_reducible refine wpList_append_run ?_ (.tmp 11) (.tmp 16) 26 26 ?_ ?_ ?_ 26 ?_ HA.out ?_); (focus rfl); (focus rfl); (focus rfl); (focus rfl); (focus rfl))
      go_roundg 1
      case measure => omega
      case rel => exact HR.out
    | 5, hk, ho =>
      rw [show ((5 : Nat) : Int) = 5 from rfl]
      have ck : wr.cell? ⟨w.heap.size, 5, none⟩ = some (.int .u8 a5) := (HB.out.cell (p := ⟨w.heap.size, 5, none⟩) (by simp)).trans (by simp [go_sem])
      obtain ⟨v', w', hr, ho', hb'⟩ := append_cells (wr.alloc (.cells #[.int .u8 a5] 5)) (w.heap.size + 1) u4 _ wr.heap.size 1 1 [a5] (ho.alloc _) rfl (cell_new _ _ _) (by have := HB.out.size; simp at this ⊢; omega) (by simp) 26
      have HR := Lib.hid (show ReRel (w.alloc (.cells #[.int .u8 a0, .int .u8 a1, .int .u8 a2, .int .u8 a3, .int .u8 a4, .int .u8 a5, .int .u8 a6, .int .u8 a7, .int .u8 a8, .int .u8 a9, .int .u8 a10, .int .u8 a11, .int .i64 t, .string s] 25)) (w.heap.size + 1) [] [a0, a1, a2, a3, a4, a5] 0 v' (.int .i64 6) w' from ⟨6, rfl, rfl, ho', (HB.out.alloc (by have := HB.out.size; simp at this; omega) _).trans hb'⟩)
      have HA := Lib.hid hr
      clear ho ho' hb' hr
      go_wp2_with (at_builtin; (with_reducible refine wpList_append_run ?_ (.tmp 11) (.tmp 16) 26 26 ?_ ?_ ?_ 26 ?_ HA.out ?_); (focus rfl); (focus rfl); (focus rfl); (focus rfl); (focus rfl))
      go_roundg 0
      case measure => omega
      case rel => exact HR.out
    | 6, hk, ho =>
      rw [show ((6 : Nat) : Int) = 6 from rfl]
      have HO := Lib.hid (show Own wr (w.heap.size + 1) u4 [a0, a1, a2, a3, a4, a5] from ho)
      clear ho
      go_wp2
      go_loopg [4, 6] 6 (fun gg v i wr => ReRel (w.alloc (.cells #[.int .u8 a0, .int .u8 a1, .int .u8 a2, .int .u8 a3, .int .u8 a4, .int .u8 a5, .int .u8 a6, .int .u8 a7, .int .u8 a8, .int .u8 a9, .int .u8 a10, .int .u8 a11, .int .i64 t, .string s] 25)) (w.heap.size + 1) [a0, a1, a2, a3, a4, a5] [a6, a7, a8, a9, a10, a11] gg v i wr)
      case atStart => exact ⟨0, rfl, rfl, HO.out, HB.out⟩
      case round =>
        clear HO HB
        obtain ⟨k, hk, rfl, ho, hbel⟩ := hrel
        have HB := Lib.hid hbel
        clear hbel
        match k, hk, ho with
        | 0, hk, ho =>
          rw [show ((0 : Nat) : Int) = 0 from rfl]
          have ck : wr.cell? ⟨w.heap.size, 6, none⟩ = some (.int .u8 a6) := (HB.out.cell (p := ⟨w.heap.size, 6, none⟩) (by simp)).trans (by simp [go_sem])
          obtain ⟨v', w', hr, ho', hb'⟩ := append_cells (wr.alloc (.cells #[.int .u8 a6] 5)) (w.heap.size + 1) u4 _ wr.heap.size 1 1 [a6] (ho.alloc _) rfl (cell_new _ _ _) (by have := HB.out.size; simp at this ⊢; omega) (by simp) 26
          have HR := Lib.hid (show ReRel (w.alloc (.cells #[.int .u8 a0, .int .u8 a1, .int .u8 a2, .int .u8 a3, .int .u8 a4, .int .u8 a5, .int .u8 a6, .int .u8 a7, .int .u8 a8, .int .u8 a9, .int .u8 a10, .int .u8 a11, .int .i64 t, .string s] 25)) (w.heap.size + 1) [a0, a1, a2, a3, a4, a5] [a6, a7, a8, a9, a10, a11] 5 v' (.int .i64 1) w' from ⟨1, rfl, rfl, ho', (HB.out.alloc (by have := HB.out.size; simp at this; omega) _).trans hb'⟩)
          have HA := Lib.hid hr
          clear ho ho' hb' hr
          go_wp2_with (at_builtin; (with_reducible refine wpList_append_run ?_ (.tmp 22) (.tmp 27) 26 26 ?_ ?_ ?_ 26 ?_ HA.out ?_); (focus rfl); (focus rfl); (focus rfl); (focus rfl); (focus rfl))
          go_roundg 5
          case measure => omega
          case rel => exact HR.out
        | 1, hk, ho =>
          rw [show ((1 : Nat) : Int) = 1 from rfl]
          have ck : wr.cell? ⟨w.heap.size, 7, none⟩ = some (.int .u8 a7) := (HB.out.cell (p := ⟨w.heap.size, 7, none⟩) (by simp)).trans (by simp [go_sem])
          obtain ⟨v', w', hr, ho', hb'⟩ := append_cells (wr.alloc (.cells #[.int .u8 a7] 5)) (w.heap.size + 1) u4 _ wr.heap.size 1 1 [a7] (ho.alloc _) rfl (cell_new _ _ _) (by have := HB.out.size; simp at this ⊢; omega) (by simp) 26
          have HR := Lib.hid (show ReRel (w.alloc (.cells #[.int .u8 a0, .int .u8 a1, .int .u8 a2, .int .u8 a3, .int .u8 a4, .int .u8 a5, .int .u8 a6, .int .u8 a7, .int .u8 a8, .int .u8 a9, .int .u8 a10, .int .u8 a11, .int .i64 t, .string s] 25)) (w.heap.size + 1) [a0, a1, a2, a3, a4, a5] [a6, a7, a8, a9, a10, a11] 4 v' (.int .i64 2) w' from ⟨2, rfl, rfl, ho', (HB.out.alloc (by have := HB.out.size; simp at this; omega) _).trans hb'⟩)
          have HA := Lib.hid hr
          clear ho ho' hb' hr
          go_wp2_with (at_builtin; (with_reducible refine wpList_append_run ?_ (.tmp 22) (.tmp 27) 26 26 ?_ ?_ ?_ 26 ?_ HA.out ?_); (focus rfl); (focus rfl); (focus rfl); (focus rfl); (focus rfl))
          go_roundg 4
          case measure => omega
          case rel => exact HR.out
        | 2, hk, ho =>
          rw [show ((2 : Nat) : Int) = 2 from rfl]
          have ck : wr.cell? ⟨w.heap.size, 8, none⟩ = some (.int .u8 a8) := (HB.out.cell (p := ⟨w.heap.size, 8, none⟩) (by simp)).trans (by simp [go_sem])
          obtain ⟨v', w', hr, ho', hb'⟩ := append_cells (wr.alloc (.cells #[.int .u8 a8] 5)) (w.heap.size + 1) u4 _ wr.heap.size 1 1 [a8] (ho.alloc _) rfl (cell_new _ _ _) (by have := HB.out.size; simp at this ⊢; omega) (by simp) 26
          have HR := Lib.hid (show ReRel (w.alloc (.cells #[.int .u8 a0, .int .u8 a1, .int .u8 a2, .int .u8 a3, .int .u8 a4, .int .u8 a5, .int .u8 a6, .int .u8 a7, .int .u8 a8, .int .u8 a9, .int .u8 a10, .int .u8 a11, .int .i64 t, .string s] 25)) (w.heap.size + 1) [a0, a1, a2, a3, a4, a5] [a6, a7, a8, a9, a10, a11] 3 v' (.int .i64 3) w' from ⟨3, rfl, rfl, ho', (HB.out.alloc (by have := HB.out.size; simp at this; omega) _).trans hb'⟩)
          have HA := Lib.hid hr
          clear ho ho' hb' hr
          go_wp2_with (at_builtin; (with_reducible refine wpList_append_run ?_ (.tmp 22) (.tmp 27) 26 26 ?_ ?_ ?_ 26 ?_ HA.out ?_); (focus rfl); (focus rfl); (focus rfl); (focus rfl); (focus rfl))
          go_roundg 3
          case measure => omega
          case rel => exact HR.out
        | 3, hk, ho =>
          rw [show ((3 : Nat) : Int) = 3 from rfl]
          have ck : wr.cell? ⟨w.heap.size, 9, none⟩ = some (.int .u8 a9) := (HB.out.cell (p := ⟨w.heap.size, 9, none⟩) (by simp)).trans (by simp [go_sem])
          obtain ⟨v', w', hr, ho', hb'⟩ := append_cells (wr.alloc (.cells #[.int .u8 a9] 5)) (w.heap.size + 1) u4 _ wr.heap.size 1 1 [a9] (ho.alloc _) rfl (cell_new _ _ _) (by have := HB.out.size; simp at this ⊢; omega) (by simp) 26
          have HR := Lib.hid (show ReRel (w.alloc (.cells #[.int .u8 a0, .int .u8 a1, .int .u8 a2, .int .u8 a3, .int .u8 a4, .int .u8 a5, .int .u8 a6, .int .u8 a7, .int .u8 a8, .int .u8 a9, .int .u8 a10, .int .u8 a11, .int .i64 t, .string s] 25)) (w.heap.size + 1) [a0, a1, a2, a3, a4, a5] [a6, a7, a8, a9, a10, a11] 2 v' (.int .i64 4) w' from ⟨4, rfl, rfl, ho', (HB.out.alloc (by have := HB.out.size; simp at this; omega) _).trans hb'⟩)
          have HA := Lib.hid hr
          clear ho ho' hb' hr
          go_wp2_with (at_builtin; (with_reducible refine wpList_append_run ?_ (.tmp 22) (.tmp 27) 26 26 ?_ ?_ ?_ 26 ?_ HA.out ?_); (focus rfl); (focus rfl); (focus rfl); (focus rfl); (focus rfl))
          go_roundg 2
          case measure => omega
          case rel => exact HR.out
        | 4, hk, ho =>
          rw [show ((4 : Nat) : Int) = 4 from rfl]
          have ck : wr.cell? ⟨w.heap.size, 10, none⟩ = some (.int .u8 a10) := (HB.out.cell (p := ⟨w.heap.size, 10, none⟩) (by simp)).trans (by simp [go_sem])
          obtain ⟨v', w', hr, ho', hb'⟩ := append_cells (wr.alloc (.cells #[.int .u8 a10] 5)) (w.heap.size + 1) u4 _ wr.heap.size 1 1 [a10] (ho.alloc _) rfl (cell_new _ _ _) (by have := HB.out.size; simp at this ⊢; omega) (by simp) 26
          have HR := Lib.hid (show ReRel (w.alloc (.cells #[.int .u8 a0, .int .u8 a1, .int .u8 a2, .int .u8 a3, .int .u8 a4, .int .u8 a5, .int .u8 a6, .int .u8 a7, .int .u8 a8, .int .u8 a9, .int .u8 a10, .int .u8 a11, .int .i64 t, .string s] 25)) (w.heap.size + 1) [a0, a1, a2, a3, a4, a5] [a6, a7, a8, a9, a10, a11] 1 v' (.int .i64 5) w' from ⟨5, rfl, rfl, ho', (HB.out.alloc (by have := HB.out.size; simp at this; omega) _).trans hb'⟩)
          have HA := Lib.hid hr
          clear ho ho' hb' hr
          go_wp2_with (at_builtin; (with_reducible refine wpList_append_run ?_ (.tmp 22) (.tmp 27) 26 26 ?_ ?_ ?_ 26 ?_ HA.out ?_); (focus rfl); (focus rfl); (focus rfl); (focus rfl); (focus rfl))
          go_roundg 1
          case measure => omega
          case rel => exact HR.out
        | 5, hk, ho =>
          rw [show ((5 : Nat) : Int) = 5 from rfl]
          have ck : wr.cell? ⟨w.heap.size, 11, none⟩ = some (.int .u8 a11) := (HB.out.cell (p := ⟨w.heap.size, 11, none⟩) (by simp)).trans (by simp [go_sem])
          obtain ⟨v', w', hr, ho', hb'⟩ := append_cells (wr.alloc (.cells #[.int .u8 a11] 5)) (w.heap.size + 1) u4 _ wr.heap.size 1 1 [a11] (ho.alloc _) rfl (cell_new _ _ _) (by have := HB.out.size; simp at this ⊢; omega) (by simp) 26
          have HR := Lib.hid (show ReRel (w.alloc (.cells #[.int .u8 a0, .int .u8 a1, .int .u8 a2, .int .u8 a3, .int .u8 a4, .int .u8 a5, .int .u8 a6, .int .u8 a7, .int .u8 a8, .int .u8 a9, .int .u8 a10, .int .u8 a11, .int .i64 t, .string s] 25)) (w.heap.size + 1) [a0, a1, a2, a3, a4, a5] [a6, a7, a8, a9, a10, a11] 0 v' (.int .i64 6) w' from ⟨6, rfl, rfl, ho', (HB.out.alloc (by have := HB.out.size; simp at this; omega) _).trans hb'⟩)
          have HA := Lib.hid hr
          clear ho ho' hb' hr
          go_wp2_with (at_builtin; (with_reducible refine wpList_append_run ?_ (.tmp 22) (.tmp 27) 26 26 ?_ ?_ ?_ 26 ?_ HA.out ?_); (focus rfl); (focus rfl); (focus rfl); (focus rfl); (focus rfl))
          go_roundg 0
          case measure => omega
          case rel => exact HR.out
        | 6, hk, ho =>
          rw [show ((6 : Nat) : Int) = 6 from rfl]
          have ho6 : Own wr (w.heap.size + 1) u4 [a0, a1, a2, a3, a4, a5, a6, a7, a8, a9, a10, a11] := ho
          clear ho
          have c12 : wr.cell? ⟨w.heap.size, 12, none⟩ = some (.int .i64 t) := (HB.out.cell (p := ⟨w.heap.size, 12, none⟩) (by simp)).trans (by simp [go_sem])
          have c13 : wr.cell? ⟨w.heap.size, 13, none⟩ = some (.string s) := (HB.out.cell (p := ⟨w.heap.size, 13, none⟩) (by simp)).trans (by simp [go_sem])
          clear ho6
          go_wp2
          go_ret2
          exact ⟨rfl, (((Below.refl _ _).alloc (Nat.le_refl _) _)).trans (HB.out.mono (by simp))⟩
        | k + 7, hk, ho => omega
    | k + 7, hk, ho => omega

set_option maxHeartbeats 2000000 in
/-- outriderref02.Encode. -/
theorem rencode_hi (a0 a1 a2 a3 a4 a5 a6 a7 a8 a9 a10 a11 t : Int) (s : ByteArray) (w : World) (q0 : 0 ≤ a0 ∧ a0 ≤ 255) (q1 : 0 ≤ a1 ∧ a1 ≤ 255) (q2 : 0 ≤ a2 ∧ a2 ≤ 255) (q3 : 0 ≤ a3 ∧ a3 ≤ 255) (q4 : 0 ≤ a4 ∧ a4 ≤ 255) (q5 : 0 ≤ a5 ∧ a5 ≤ 255) (q6 : 0 ≤ a6 ∧ a6 ≤ 255) (q7 : 0 ≤ a7 ∧ a7 ≤ 255) (q8 : 0 ≤ a8 ∧ a8 ≤ 255) (q9 : 0 ≤ a9 ∧ a9 ≤ 255) (q10 : 0 ≤ a10 ∧ a10 ≤ 255) (q11 : 0 ≤ a11 ∧ a11 ≤ 255) (h1 : 65535 < t) :
    Calls Try.prog 11 #[.agg #[.int .u8 a0, .int .u8 a1, .int .u8 a2, .int .u8 a3, .int .u8 a4, .int .u8 a5, .int .u8 a6, .int .u8 a7, .int .u8 a8, .int .u8 a9, .int .u8 a10, .int .u8 a11, .int .i64 t, .string s]] w (fun e w' => e = .returned (.tuple #[.slice none 0 0, .int .i64 1]) ∧ Below w.heap.size w w') := by
  have g1 : decide (t < 1536) = false := by simp; omega
  have g2 : decide (65535 < t) = true := by simp; omega
  go_enter Try.func11, Try.ntmps11
  go_wp2_with fail
  go_loopg [4, 5] 6 (fun gg v i wr => ReRel (w.alloc (.cells #[.int .u8 a0, .int .u8 a1, .int .u8 a2, .int .u8 a3, .int .u8 a4, .int .u8 a5, .int .u8 a6, .int .u8 a7, .int .u8 a8, .int .u8 a9, .int .u8 a10, .int .u8 a11, .int .i64 t, .string s] 25)) (w.heap.size + 1) [] [a0, a1, a2, a3, a4, a5] gg v i wr)
  case atStart => exact ⟨0, rfl, rfl, Own.none_ _ _, Below.refl _ _⟩
  case round =>
    obtain ⟨k, hk, rfl, ho, hbel⟩ := hrel
    have HB := Lib.hid hbel
    clear hbel
    match k, hk, ho with
    | 0, hk, ho =>
      rw [show ((0 : Nat) : Int) = 0 from rfl]
      have ck : wr.cell? ⟨w.heap.size, 0, none⟩ = some (.int .u8 a0) := (HB.out.cell (p := ⟨w.heap.size, 0, none⟩) (by simp)).trans (by simp [go_sem])
      obtain ⟨v', w', hr, ho', hb'⟩ := append_cells (wr.alloc (.cells #[.int .u8 a0] 5)) (w.heap.size + 1) u4 _ wr.heap.size 1 1 [a0] (ho.alloc _) rfl (cell_new _ _ _) (by have := HB.out.size; simp at this ⊢; omega) (by simp) 26
      have HR := Lib.hid (show ReRel (w.alloc (.cells #[.int .u8 a0, .int .u8 a1, .int .u8 a2, .int .u8 a3, .int .u8 a4, .int .u8 a5, .int .u8 a6, .int .u8 a7, .int .u8 a8, .int .u8 a9, .int .u8 a10, .int .u8 a11, .int .i64 t, .string s] 25)) (w.heap.size + 1) [] [a0, a1, a2, a3, a4, a5] 5 v' (.int .i64 1) w' from ⟨1, rfl, rfl, ho', (HB.out.alloc (by have := HB.out.size; simp at this; omega) _).trans hb'⟩)
      have HA := Lib.hid hr
      clear ho ho' hb' hr
      go_wp2_with (at_builtin; (with_reducible refine wpList_append_run ?_ (.tmp 11) (.tmp 16) 26 26 ?_ ?_ ?_ 26 ?_ HA.out ?_); (focus rfl); (focus rfl); (focus rfl); (focus rfl); (focus rfl))
      go_roundg 5
      case measure => omega
      case rel => exact HR.out
    | 1, hk, ho =>
      rw [show ((1 : Nat) : Int) = 1 from rfl]
      have ck : wr.cell? ⟨w.heap.size, 1, none⟩ = some (.int .u8 a1) := (HB.out.cell (p := ⟨w.heap.size, 1, none⟩) (by simp)).trans (by simp [go_sem])
      obtain ⟨v', w', hr, ho', hb'⟩ := append_cells (wr.alloc (.cells #[.int .u8 a1] 5)) (w.heap.size + 1) u4 _ wr.heap.size 1 1 [a1] (ho.alloc _) rfl (cell_new _ _ _) (by have := HB.out.size; simp at this ⊢; omega) (by simp) 26
      have HR := Lib.hid (show ReRel (w.alloc (.cells #[.int .u8 a0, .int .u8 a1, .int .u8 a2, .int .u8 a3, .int .u8 a4, .int .u8 a5, .int .u8 a6, .int .u8 a7, .int .u8 a8, .int .u8 a9, .int .u8 a10, .int .u8 a11, .int .i64 t, .string s] 25)) (w.heap.size + 1) [] [a0, a1, a2, a3, a4, a5] 4 v' (.int .i64 2) w' from ⟨2, rfl, rfl, ho', (HB.out.alloc (by have := HB.out.size; simp at this; omega) _).trans hb'⟩)
      have HA := Lib.hid hr
      clear ho ho' hb' hr
      go_wp2_with (at_builtin; (with_reducible refine wpList_append_run ?_ (.tmp 11) (.tmp 16) 26 26 ?_ ?_ ?_ 26 ?_ HA.out ?_); (focus rfl); (focus rfl); (focus rfl); (focus rfl); (focus rfl))
      go_roundg 4
      case measure => omega
      case rel => exact HR.out
    | 2, hk, ho =>
      rw [show ((2 : Nat) : Int) = 2 from rfl]
      have ck : wr.cell? ⟨w.heap.size, 2, none⟩ = some (.int .u8 a2) := (HB.out.cell (p := ⟨w.heap.size, 2, none⟩) (by simp)).trans (by simp [go_sem])
      obtain ⟨v', w', hr, ho', hb'⟩ := append_cells (wr.alloc (.cells #[.int .u8 a2] 5)) (w.heap.size + 1) u4 _ wr.heap.size 1 1 [a2] (ho.alloc _) rfl (cell_new _ _ _) (by have := HB.out.size; simp at this ⊢; omega) (by simp) 26
      have HR := Lib.hid (show ReRel (w.alloc (.cells #[.int .u8 a0, .int .u8 a1, .int .u8 a2, .int .u8 a3, .int .u8 a4, .int .u8 a5, .int .u8 a6, .int .u8 a7, .int .u8 a8, .int .u8 a9, .int .u8 a10, .int .u8 a11, .int .i64 t, .string s] 25)) (w.heap.size + 1) [] [a0, a1, a2, a3, a4, a5] 3 v' (.int .i64 3) w' from ⟨3, rfl, rfl, ho', (HB.out.alloc (by have := HB.out.size; simp at this; omega) _).trans hb'⟩)
      have HA := Lib.hid hr
      clear ho ho' hb' hr
      go_wp2_with (at_builtin; (with_reducible refine wpList_append_run ?_ (.tmp 11) (.tmp 16) 26 26 ?_ ?_ ?_ 26 ?_ HA.out ?_); (focus rfl); (focus rfl); (focus rfl); (focus rfl); (focus rfl))
      go_roundg 3
      case measure => omega
      case rel => exact HR.out
    | 3, hk, ho =>
      rw [show ((3 : Nat) : Int) = 3 from rfl]
      have ck : wr.cell? ⟨w.heap.size, 3, none⟩ = some (.int .u8 a3) := (HB.out.cell (p := ⟨w.heap.size, 3, none⟩) (by simp)).trans (by simp [go_sem])
      obtain ⟨v', w', hr, ho', hb'⟩ := append_cells (wr.alloc (.cells #[.int .u8 a3] 5)) (w.heap.size + 1) u4 _ wr.heap.size 1 1 [a3] (ho.alloc _) rfl (cell_new _ _ _) (by have := HB.out.size; simp at this ⊢; omega) (by simp) 26
      have HR := Lib.hid (show ReRel (w.alloc (.cells #[.int .u8 a0, .int .u8 a1, .int .u8 a2, .int .u8 a3, .int .u8 a4, .int .u8 a5, .int .u8 a6, .int .u8 a7, .int .u8 a8, .int .u8 a9, .int .u8 a10, .int .u8 a11, .int .i64 t, .string s] 25)) (w.heap.size + 1) [] [a0, a1, a2, a3, a4, a5] 2 v' (.int .i64 4) w' from ⟨4, rfl, rfl, ho', (HB.out.alloc (by have := HB.out.size; simp at this; omega) _).trans hb'⟩)
      have HA := Lib.hid hr
      clear ho ho' hb' hr
      go_wp2_with (at_builtin; (with_reducible refine wpList_append_run ?_ (.tmp 11) (.tmp 16) 26 26 ?_ ?_ ?_ 26 ?_ HA.out ?_); (focus rfl); (focus rfl); (focus rfl); (focus rfl); (focus rfl))
      go_roundg 2
      case measure => omega
      case rel => exact HR.out
    | 4, hk, ho =>
      rw [show ((4 : Nat) : Int) = 4 from rfl]
      have ck : wr.cell? ⟨w.heap.size, 4, none⟩ = some (.int .u8 a4) := (HB.out.cell (p := ⟨w.heap.size, 4, none⟩) (by simp)).trans (by simp [go_sem])
      obtain ⟨v', w', hr, ho', hb'⟩ := append_cells (wr.alloc (.cells #[.int .u8 a4] 5)) (w.heap.size + 1) u4 _ wr.heap.size 1 1 [a4] (ho.alloc _) rfl (cell_new _ _ _) (by have := HB.out.size; simp at this ⊢; omega) (by simp) 26
      have HR := Lib.hid (show ReRel (w.alloc (.cells #[.int .u8 a0, .int .u8 a1, .int .u8 a2, .int .u8 a3, .int .u8 a4, .int .u8 a5, .int .u8 a6, .int .u8 a7, .int .u8 a8, .int .u8 a9, .int .u8 a10, .int .u8 a11, .int .i64 t, .string s] 25)) (w.heap.size + 1) [] [a0, a1, a2, a3, a4, a5] 1 v' (.int .i64 5) w' from ⟨5, rfl, rfl, ho', (HB.out.alloc (by have := HB.out.size; simp at this; omega) _).trans hb'⟩)
      have HA := Lib.hid hr
      clear ho ho' hb' hr
      go_wp2_with (at_builtin; (with_reducible refine wpList_append_run ?_ (.tmp 11) (.tmp 16) 26 26 ?_ ?_ ?_ 26 ?_ HA.out ?_); (focus rfl); (focus rfl); (focus rfl); (focus rfl); (focus rfl))
      go_roundg 1
      case measure => omega
      case rel => exact HR.out
    | 5, hk, ho =>
      rw [show ((5 : Nat) : Int) = 5 from rfl]
      have ck : wr.cell? ⟨w.heap.size, 5, none⟩ = some (.int .u8 a5) := (HB.out.cell (p := ⟨w.heap.size, 5, none⟩) (by simp)).trans (by simp [go_sem])
      obtain ⟨v', w', hr, ho', hb'⟩ := append_cells (wr.alloc (.cells #[.int .u8 a5] 5)) (w.heap.size + 1) u4 _ wr.heap.size 1 1 [a5] (ho.alloc _) rfl (cell_new _ _ _) (by have := HB.out.size; simp at this ⊢; omega) (by simp) 26
      have HR := Lib.hid (show ReRel (w.alloc (.cells #[.int .u8 a0, .int .u8 a1, .int .u8 a2, .int .u8 a3, .int .u8 a4, .int .u8 a5, .int .u8 a6, .int .u8 a7, .int .u8 a8, .int .u8 a9, .int .u8 a10, .int .u8 a11, .int .i64 t, .string s] 25)) (w.heap.size + 1) [] [a0, a1, a2, a3, a4, a5] 0 v' (.int .i64 6) w' from ⟨6, rfl, rfl, ho', (HB.out.alloc (by have := HB.out.size; simp at this; omega) _).trans hb'⟩)
      have HA := Lib.hid hr
      clear ho ho' hb' hr
      go_wp2_with (at_builtin; (with_reducible refine wpList_append_run ?_ (.tmp 11) (.tmp 16) 26 26 ?_ ?_ ?_ 26 ?_ HA.out ?_); (focus rfl); (focus rfl); (focus rfl); (focus rfl); (focus rfl))
      go_roundg 0
      case measure => omega
      case rel => exact HR.out
    | 6, hk, ho =>
      rw [show ((6 : Nat) : Int) = 6 from rfl]
      have HO := Lib.hid (show Own wr (w.heap.size + 1) u4 [a0, a1, a2, a3, a4, a5] from ho)
      clear ho
      go_wp2
      go_loopg [4, 6] 6 (fun gg v i wr => ReRel (w.alloc (.cells #[.int .u8 a0, .int .u8 a1, .int .u8 a2, .int .u8 a3, .int .u8 a4, .int .u8 a5, .int .u8 a6, .int .u8 a7, .int .u8 a8, .int .u8 a9, .int .u8 a10, .int .u8 a11, .int .i64 t, .string s] 25)) (w.heap.size + 1) [a0, a1, a2, a3, a4, a5] [a6, a7, a8, a9, a10, a11] gg v i wr)
      case atStart => exact ⟨0, rfl, rfl, HO.out, HB.out⟩
      case round =>
        clear HO HB
        obtain ⟨k, hk, rfl, ho, hbel⟩ := hrel
        have HB := Lib.hid hbel
        clear hbel
        match k, hk, ho with
        | 0, hk, ho =>
          rw [show ((0 : Nat) : Int) = 0 from rfl]
          have ck : wr.cell? ⟨w.heap.size, 6, none⟩ = some (.int .u8 a6) := (HB.out.cell (p := ⟨w.heap.size, 6, none⟩) (by simp)).trans (by simp [go_sem])
          obtain ⟨v', w', hr, ho', hb'⟩ := append_cells (wr.alloc (.cells #[.int .u8 a6] 5)) (w.heap.size + 1) u4 _ wr.heap.size 1 1 [a6] (ho.alloc _) rfl (cell_new _ _ _) (by have := HB.out.size; simp at this ⊢; omega) (by simp) 26
          have HR := Lib.hid (show ReRel (w.alloc (.cells #[.int .u8 a0, .int .u8 a1, .int .u8 a2, .int .u8 a3, .int .u8 a4, .int .u8 a5, .int .u8 a6, .int .u8 a7, .int .u8 a8, .int .u8 a9, .int .u8 a10, .int .u8 a11, .int .i64 t, .string s] 25)) (w.heap.size + 1) [a0, a1, a2, a3, a4, a5] [a6, a7, a8, a9, a10, a11] 5 v' (.int .i64 1) w' from ⟨1, rfl, rfl, ho', (HB.out.alloc (by have := HB.out.size; simp at this; omega) _).trans hb'⟩)
          have HA := Lib.hid hr
          clear ho ho' hb' hr
          go_wp2_with (at_builtin; (with_reducible refine wpList_append_run ?_ (.tmp 22) (.tmp 27) 26 26 ?_ ?_ ?_ 26 ?_ HA.out ?_); (focus rfl); (focus rfl); (focus rfl); (focus rfl); (focus rfl))
          go_roundg 5
          case measure => omega
          case rel => exact HR.out
        | 1, hk, ho =>
          rw [show ((1 : Nat) : Int) = 1 from rfl]
          have ck : wr.cell? ⟨w.heap.size, 7, none⟩ = some (.int .u8 a7) := (HB.out.cell (p := ⟨w.heap.size, 7, none⟩) (by simp)).trans (by simp [go_sem])
          obtain ⟨v', w', hr, ho', hb'⟩ := append_cells (wr.alloc (.cells #[.int .u8 a7] 5)) (w.heap.size + 1) u4 _ wr.heap.size 1 1 [a7] (ho.alloc _) rfl (cell_new _ _ _) (by have := HB.out.size; simp at this ⊢; omega) (by simp) 26
          have HR := Lib.hid (show ReRel (w.alloc (.cells #[.int .u8 a0, .int .u8 a1, .int .u8 a2, .int .u8 a3, .int .u8 a4, .int .u8 a5, .int .u8 a6, .int .u8 a7, .int .u8 a8, .int .u8 a9, .int .u8 a10, .int .u8 a11, .int .i64 t, .string s] 25)) (w.heap.size + 1) [a0, a1, a2, a3, a4, a5] [a6, a7, a8, a9, a10, a11] 4 v' (.int .i64 2) w' from ⟨2, rfl, rfl, ho', (HB.out.alloc (by have := HB.out.size; simp at this; omega) _).trans hb'⟩)
          have HA := Lib.hid hr
          clear ho ho' hb' hr
          go_wp2_with (at_builtin; (with_reducible refine wpList_append_run ?_ (.tmp 22) (.tmp 27) 26 26 ?_ ?_ ?_ 26 ?_ HA.out ?_); (focus rfl); (focus rfl); (focus rfl); (focus rfl); (focus rfl))
          go_roundg 4
          case measure => omega
          case rel => exact HR.out
        | 2, hk, ho =>
          rw [show ((2 : Nat) : Int) = 2 from rfl]
          have ck : wr.cell? ⟨w.heap.size, 8, none⟩ = some (.int .u8 a8) := (HB.out.cell (p := ⟨w.heap.size, 8, none⟩) (by simp)).trans (by simp [go_sem])
          obtain ⟨v', w', hr, ho', hb'⟩ := append_cells (wr.alloc (.cells #[.int .u8 a8] 5)) (w.heap.size + 1) u4 _ wr.heap.size 1 1 [a8] (ho.alloc _) rfl (cell_new _ _ _) (by have := HB.out.size; simp at this ⊢; omega) (by simp) 26
          have HR := Lib.hid (show ReRel (w.alloc (.cells #[.int .u8 a0, .int .u8 a1, .int .u8 a2, .int .u8 a3, .int .u8 a4, .int .u8 a5, .int .u8 a6, .int .u8 a7, .int .u8 a8, .int .u8 a9, .int .u8 a10, .int .u8 a11, .int .i64 t, .string s] 25)) (w.heap.size + 1) [a0, a1, a2, a3, a4, a5] [a6, a7, a8, a9, a10, a11] 3 v' (.int .i64 3) w' from ⟨3, rfl, rfl, ho', (HB.out.alloc (by have := HB.out.size; simp at this; omega) _).trans hb'⟩)
          have HA := Lib.hid hr
          clear ho ho' hb' hr
          go_wp2_with (at_builtin; (with_reducible refine wpList_append_run ?_ (.tmp 22) (.tmp 27) 26 26 ?_ ?_ ?_ 26 ?_ HA.out ?_); (focus rfl); (focus rfl); (focus rfl); (focus rfl); (focus rfl))
          go_roundg 3
          case measure => omega
          case rel => exact HR.out
        | 3, hk, ho =>
          rw [show ((3 : Nat) : Int) = 3 from rfl]
          have ck : wr.cell? ⟨w.heap.size, 9, none⟩ = some (.int .u8 a9) := (HB.out.cell (p := ⟨w.heap.size, 9, none⟩) (by simp)).trans (by simp [go_sem])
          obtain ⟨v', w', hr, ho', hb'⟩ := append_cells (wr.alloc (.cells #[.int .u8 a9] 5)) (w.heap.size + 1) u4 _ wr.heap.size 1 1 [a9] (ho.alloc _) rfl (cell_new _ _ _) (by have := HB.out.size; simp at this ⊢; omega) (by simp) 26
          have HR := Lib.hid (show ReRel (w.alloc (.cells #[.int .u8 a0, .int .u8 a1, .int .u8 a2, .int .u8 a3, .int .u8 a4, .int .u8 a5, .int .u8 a6, .int .u8 a7, .int .u8 a8, .int .u8 a9, .int .u8 a10, .int .u8 a11, .int .i64 t, .string s] 25)) (w.heap.size + 1) [a0, a1, a2, a3, a4, a5] [a6, a7, a8, a9, a10, a11] 2 v' (.int .i64 4) w' from ⟨4, rfl, rfl, ho', (HB.out.alloc (by have := HB.out.size; simp at this; omega) _).trans hb'⟩)
          have HA := Lib.hid hr
          clear ho ho' hb' hr
          go_wp2_with (at_builtin; (with_reducible refine wpList_append_run ?_ (.tmp 22) (.tmp 27) 26 26 ?_ ?_ ?_ 26 ?_ HA.out ?_); (focus rfl); (focus rfl); (focus rfl); (focus rfl); (focus rfl))
          go_roundg 2
          case measure => omega
          case rel => exact HR.out
        | 4, hk, ho =>
          rw [show ((4 : Nat) : Int) = 4 from rfl]
          have ck : wr.cell? ⟨w.heap.size, 10, none⟩ = some (.int .u8 a10) := (HB.out.cell (p := ⟨w.heap.size, 10, none⟩) (by simp)).trans (by simp [go_sem])
          obtain ⟨v', w', hr, ho', hb'⟩ := append_cells (wr.alloc (.cells #[.int .u8 a10] 5)) (w.heap.size + 1) u4 _ wr.heap.size 1 1 [a10] (ho.alloc _) rfl (cell_new _ _ _) (by have := HB.out.size; simp at this ⊢; omega) (by simp) 26
          have HR := Lib.hid (show ReRel (w.alloc (.cells #[.int .u8 a0, .int .u8 a1, .int .u8 a2, .int .u8 a3, .int .u8 a4, .int .u8 a5, .int .u8 a6, .int .u8 a7, .int .u8 a8, .int .u8 a9, .int .u8 a10, .int .u8 a11, .int .i64 t, .string s] 25)) (w.heap.size + 1) [a0, a1, a2, a3, a4, a5] [a6, a7, a8, a9, a10, a11] 1 v' (.int .i64 5) w' from ⟨5, rfl, rfl, ho', (HB.out.alloc (by have := HB.out.size; simp at this; omega) _).trans hb'⟩)
          have HA := Lib.hid hr
          clear ho ho' hb' hr
          go_wp2_with (at_builtin; (with_reducible refine wpList_append_run ?_ (.tmp 22) (.tmp 27) 26 26 ?_ ?_ ?_ 26 ?_ HA.out ?_); (focus rfl); (focus rfl); (focus rfl); (focus rfl); (focus rfl))
          go_roundg 1
          case measure => omega
          case rel => exact HR.out
        | 5, hk, ho =>
          rw [show ((5 : Nat) : Int) = 5 from rfl]
          have ck : wr.cell? ⟨w.heap.size, 11, none⟩ = some (.int .u8 a11) := (HB.out.cell (p := ⟨w.heap.size, 11, none⟩) (by simp)).trans (by simp [go_sem])
          obtain ⟨v', w', hr, ho', hb'⟩ := append_cells (wr.alloc (.cells #[.int .u8 a11] 5)) (w.heap.size + 1) u4 _ wr.heap.size 1 1 [a11] (ho.alloc _) rfl (cell_new _ _ _) (by have := HB.out.size; simp at this ⊢; omega) (by simp) 26
          have HR := Lib.hid (show ReRel (w.alloc (.cells #[.int .u8 a0, .int .u8 a1, .int .u8 a2, .int .u8 a3, .int .u8 a4, .int .u8 a5, .int .u8 a6, .int .u8 a7, .int .u8 a8, .int .u8 a9, .int .u8 a10, .int .u8 a11, .int .i64 t, .string s] 25)) (w.heap.size + 1) [a0, a1, a2, a3, a4, a5] [a6, a7, a8, a9, a10, a11] 0 v' (.int .i64 6) w' from ⟨6, rfl, rfl, ho', (HB.out.alloc (by have := HB.out.size; simp at this; omega) _).trans hb'⟩)
          have HA := Lib.hid hr
          clear ho ho' hb' hr
          go_wp2_with (at_builtin; (with_reducible refine wpList_append_run ?_ (.tmp 22) (.tmp 27) 26 26 ?_ ?_ ?_ 26 ?_ HA.out ?_); (focus rfl); (focus rfl); (focus rfl); (focus rfl); (focus rfl))
          go_roundg 0
          case measure => omega
          case rel => exact HR.out
        | 6, hk, ho =>
          rw [show ((6 : Nat) : Int) = 6 from rfl]
          have ho6 : Own wr (w.heap.size + 1) u4 [a0, a1, a2, a3, a4, a5, a6, a7, a8, a9, a10, a11] := ho
          clear ho
          have c12 : wr.cell? ⟨w.heap.size, 12, none⟩ = some (.int .i64 t) := (HB.out.cell (p := ⟨w.heap.size, 12, none⟩) (by simp)).trans (by simp [go_sem])
          have c13 : wr.cell? ⟨w.heap.size, 13, none⟩ = some (.string s) := (HB.out.cell (p := ⟨w.heap.size, 13, none⟩) (by simp)).trans (by simp [go_sem])
          clear ho6
          go_wp2
          go_ret2
          exact ⟨rfl, (((Below.refl _ _).alloc (Nat.le_refl _) _)).trans (HB.out.mono (by simp))⟩
        | k + 7, hk, ho => omega
    | k + 7, hk, ho => omega


end Go.Proofs.Ytmjjdgcgngnjhaa
