/-
  What the reference's Decode does: a frame without a body.
-/
import Derived.Test.YtmjjdgcgngnjhaaRdec
namespace Go.Proofs.Ytmjjdgcgngnjhaa
open Go.RowKit
set_option linter.unusedVariables false

set_option maxHeartbeats 1000000 in
/-- outriderref02.Decode. -/
theorem rdecode_ok14 (b off : Nat) (x0 x1 x2 x3 x4 x5 x6 x7 x8 x9 x10 x11 x12 x13 : Int) (r : List Int) (w : World) (hp : Part w ⟨some ⟨b, off, none⟩, 14, 14, (x0 :: x1 :: x2 :: x3 :: x4 :: x5 :: x6 :: x7 :: x8 :: x9 :: x10 :: x11 :: x12 :: x13 :: r)⟩) (ht : 1536 ≤ x12 * 256 + x13) (q0 : 0 ≤ x0 ∧ x0 ≤ 255) (q1 : 0 ≤ x1 ∧ x1 ≤ 255) (q2 : 0 ≤ x2 ∧ x2 ≤ 255) (q3 : 0 ≤ x3 ∧ x3 ≤ 255) (q4 : 0 ≤ x4 ∧ x4 ≤ 255) (q5 : 0 ≤ x5 ∧ x5 ≤ 255) (q6 : 0 ≤ x6 ∧ x6 ≤ 255) (q7 : 0 ≤ x7 ∧ x7 ≤ 255) (q8 : 0 ≤ x8 ∧ x8 ≤ 255) (q9 : 0 ≤ x9 ∧ x9 ≤ 255) (q10 : 0 ≤ x10 ∧ x10 ≤ 255) (q11 : 0 ≤ x11 ∧ x11 ≤ 255) (q12 : 0 ≤ x12 ∧ x12 ≤ 255) (q13 : 0 ≤ x13 ∧ x13 ≤ 255) :
    Calls Try.prog 14 #[.slice (some ⟨b, off, none⟩) 14 14] w fun e w' => e = .returned (.tuple #[.agg #[.int .u8 x0, .int .u8 x1, .int .u8 x2, .int .u8 x3, .int .u8 x4, .int .u8 x5, .int .u8 x6, .int .u8 x7, .int .u8 x8, .int .u8 x9, .int .u8 x10, .int .u8 x11, .int .i64 (x12 * 256 + x13), .string (strOfNums r)], .int .i64 0]) ∧ Below w.heap.size w w' := by
  have hlen : 14 + r.length = 14 := by have : (x0 :: x1 :: x2 :: x3 :: x4 :: x5 :: x6 :: x7 :: x8 :: x9 :: x10 :: x11 :: x12 :: x13 :: r).length = 14 := hp.1; simp at this; simp [this]
  obtain ⟨b', off', e', hc⟩ := hp.2.2.2 (show 0 < 14 by omega)
  have e1 : some (⟨b, off, none⟩ : Addr) = some ⟨b', off', none⟩ := e'
  simp only [Option.some.injEq, Addr.mk.injEq] at e1
  obtain ⟨rfl, rfl, -⟩ := e1
  have c12 : w.cell? ⟨b, off + 12, none⟩ = some (.int .u8 x12) := hc 12 (show 12 < 14 by omega)
  have c13 : w.cell? ⟨b, off + 13, none⟩ = some (.int .u8 x13) := hc 13 (show 13 < 14 by omega)
  have hbl : b < w.heap.size := World.block_lt_of_cell? _ _ c12
  have k0 : w.cell? ⟨b, off, none⟩ = some (.int .u8 x0) := hc 0 (show 0 < 14 by omega)
  have k1 : w.cell? ⟨b, off + 1, none⟩ = some (.int .u8 x1) := hc 1 (show 1 < 14 by omega)
  have k2 : w.cell? ⟨b, off + 2, none⟩ = some (.int .u8 x2) := hc 2 (show 2 < 14 by omega)
  have k3 : w.cell? ⟨b, off + 3, none⟩ = some (.int .u8 x3) := hc 3 (show 3 < 14 by omega)
  have k4 : w.cell? ⟨b, off + 4, none⟩ = some (.int .u8 x4) := hc 4 (show 4 < 14 by omega)
  have k5 : w.cell? ⟨b, off + 5, none⟩ = some (.int .u8 x5) := hc 5 (show 5 < 14 by omega)
  have k6 : w.cell? ⟨b, off + 6, none⟩ = some (.int .u8 x6) := hc 6 (show 6 < 14 by omega)
  have k7 : w.cell? ⟨b, off + 7, none⟩ = some (.int .u8 x7) := hc 7 (show 7 < 14 by omega)
  have k8 : w.cell? ⟨b, off + 8, none⟩ = some (.int .u8 x8) := hc 8 (show 8 < 14 by omega)
  have k9 : w.cell? ⟨b, off + 9, none⟩ = some (.int .u8 x9) := hc 9 (show 9 < 14 by omega)
  have k10 : w.cell? ⟨b, off + 10, none⟩ = some (.int .u8 x10) := hc 10 (show 10 < 14 by omega)
  have k11 : w.cell? ⟨b, off + 11, none⟩ = some (.int .u8 x11) := hc 11 (show 11 < 14 by omega)
  clear hc e'
  have g6 : decide (x12 * 256 + x13 < 1536) = false := by simp; omega
  have hr : r = [] := List.eq_nil_of_length_eq_zero (by omega)
  have hcv : (convert 26 9 (.slice (some ⟨b, off, none⟩) 0 0)).run Try.prog (w.alloc (.cells #[.int .u8 0, .int .u8 0, .int .u8 0, .int .u8 0, .int .u8 0, .int .u8 0, .int .u8 0, .int .u8 0, .int .u8 0, .int .u8 0, .int .u8 0, .int .u8 0, .int .i64 0, .string ⟨#[]⟩] 25)).drew = .ok (.string (strOfNums r)) (w.alloc (.cells #[.int .u8 0, .int .u8 0, .int .u8 0, .int .u8 0, .int .u8 0, .int .u8 0, .int .u8 0, .int .u8 0, .int .u8 0, .int .u8 0, .int .u8 0, .int .u8 0, .int .i64 0, .string ⟨#[]⟩] 25)).drew := by
    rw [hr]
    exact convert_part (Part.gone rfl) 9 Try.underlying9
  have hcv2 : (convert 26 9 (.slice (some ⟨b, off, none⟩) 0 0)).run Try.prog ((w.alloc (.cells #[.int .u8 0, .int .u8 0, .int .u8 0, .int .u8 0, .int .u8 0, .int .u8 0, .int .u8 0, .int .u8 0, .int .u8 0, .int .u8 0, .int .u8 0, .int .u8 0, .int .i64 0, .string ⟨#[]⟩] 25)).alloc (.cells #[.int .u8 0, .int .u8 0, .int .u8 0, .int .u8 0, .int .u8 0, .int .u8 0, .int .u8 0, .int .u8 0, .int .u8 0, .int .u8 0, .int .u8 0, .int .u8 0, .int .i64 0, .string ⟨#[]⟩] 25)).drew = .ok (.string (strOfNums r)) ((w.alloc (.cells #[.int .u8 0, .int .u8 0, .int .u8 0, .int .u8 0, .int .u8 0, .int .u8 0, .int .u8 0, .int .u8 0, .int .u8 0, .int .u8 0, .int .u8 0, .int .u8 0, .int .i64 0, .string ⟨#[]⟩] 25)).alloc (.cells #[.int .u8 0, .int .u8 0, .int .u8 0, .int .u8 0, .int .u8 0, .int .u8 0, .int .u8 0, .int .u8 0, .int .u8 0, .int .u8 0, .int .u8 0, .int .u8 0, .int .i64 0, .string ⟨#[]⟩] 25)).drew := by
    rw [hr]
    exact convert_part (Part.gone rfl) 9 Try.underlying9
  clear hr
  clear hp hlen
  go_enter Try.func14, Try.ntmps14
  go_wp2_with fail
  go_region
  go_wp2
  all_goals
    go_loopg [5] 6 (fun gg i wr => RdRel (fun k => ((w.alloc (.cells #[.int .u8 0, .int .u8 0, .int .u8 0, .int .u8 0, .int .u8 0, .int .u8 0, .int .u8 0, .int .u8 0, .int .u8 0, .int .u8 0, .int .u8 0, .int .u8 0, .int .i64 0, .string ⟨#[]⟩] 25)).alloc (.cells (fill k x0 x1 x2 x3 x4 x5 x6 x7 x8 x9 x10 x11 (x12 * 256 + x13) (strOfNums r)) 25)).drew) gg i wr)
    case atStart => exact ⟨0, rfl, rfl, rfl⟩
    case round =>
      obtain ⟨k, hk, rfl, rfl⟩ := hrel
      match k, hk with
      | 0, hk =>
        simp only [fill_0]
        rw [show ((0 : Nat) : Int) = 0 from rfl]
        go_wp2
        go_roundg 5
        case measure => omega
        case rel => exact ⟨1, rfl, rfl, rfl⟩
      | 1, hk =>
        simp only [fill_1]
        rw [show ((1 : Nat) : Int) = 1 from rfl]
        go_wp2
        go_roundg 4
        case measure => omega
        case rel => exact ⟨2, rfl, rfl, rfl⟩
      | 2, hk =>
        simp only [fill_2]
        rw [show ((2 : Nat) : Int) = 2 from rfl]
        go_wp2
        go_roundg 3
        case measure => omega
        case rel => exact ⟨3, rfl, rfl, rfl⟩
      | 3, hk =>
        simp only [fill_3]
        rw [show ((3 : Nat) : Int) = 3 from rfl]
        go_wp2
        go_roundg 2
        case measure => omega
        case rel => exact ⟨4, rfl, rfl, rfl⟩
      | 4, hk =>
        simp only [fill_4]
        rw [show ((4 : Nat) : Int) = 4 from rfl]
        go_wp2
        go_roundg 1
        case measure => omega
        case rel => exact ⟨5, rfl, rfl, rfl⟩
      | 5, hk =>
        simp only [fill_5]
        rw [show ((5 : Nat) : Int) = 5 from rfl]
        go_wp2
        go_roundg 0
        case measure => omega
        case rel => exact ⟨6, rfl, rfl, rfl⟩
      | 6, hk =>
        simp only [fill_6]
        rw [show ((6 : Nat) : Int) = 6 from rfl]
        go_wp2
        exact bodyPost_ret (v := .tuple #[.agg #[.int .u8 x0, .int .u8 x1, .int .u8 x2, .int .u8 x3, .int .u8 x4, .int .u8 x5, .int .u8 x6, .int .u8 x7, .int .u8 x8, .int .u8 x9, .int .u8 x10, .int .u8 x11, .int .i64 (x12 * 256 + x13), .string (strOfNums r)], .int .i64 0]) (by simp [results, Try.results14, go_sem]) rfl ⟨rfl, below_drew (((Below.refl _ _).alloc (Nat.le_refl _) _).alloc (by simp) _)⟩
      | k + 7, hk => omega

end Go.Proofs.Ytmjjdgcgngnjhaa
