/-
  The walk of EtherVirtuals.
-/
import Derived.Test.YtmjjdgcgngnjhaaFrame
namespace Go.Proofs.Ytmjjdgcgngnjhaa
open Go.ChangeShapes Go.WideShapes Go.ChangeAt Go.RowKit
set_option linter.unusedVariables false


attribute [local go_sem] mac_eq

theorem Virtual_four (n : Int) (w : World) (h1 : 1 ≤ n) (h2 : n ≤ 255) :
    Calls Try.prog 15 #[.int .i64 n, .bool false] w fun e w' => e = .returned (.tuple #[.agg #[.int .u8 0, .int .u8 0, .int .u8 94, .int .u8 0, .int .u8 1, .int .u8 n], .bool true]) ∧ Below w.heap.size w w' := Virtual_yes n false w h1 h2
theorem Virtual_six (n : Int) (w : World) (h1 : 1 ≤ n) (h2 : n ≤ 255) :
    Calls Try.prog 15 #[.int .i64 n, .bool true] w fun e w' => e = .returned (.tuple #[.agg #[.int .u8 0, .int .u8 0, .int .u8 94, .int .u8 0, .int .u8 2, .int .u8 n], .bool true]) ∧ Below w.heap.size w w' := Virtual_yes n true w h1 h2
theorem below_three {w w1 w2 w3 w4 : World} {o1 o2 o3 : Obj} (h1 : Below w.heap.size w w1) (h2 : Below (w1.alloc o1).heap.size (w1.alloc o1) w2) (h3 : Below (w2.alloc o2).heap.size (w2.alloc o2) w3) (h4 : Below (w3.alloc o3).heap.size (w3.alloc o3) w4) : Below w.heap.size w w4 := by
  have a1 : Below w.heap.size w (w1.alloc o1) := h1.alloc h1.size _
  have a2 : Below w.heap.size w (w2.alloc o2) := below_alloc (below_then a1 a1.size h2) _
  have a3 : Below w.heap.size w (w3.alloc o3) := below_alloc (below_then a2 a2.size h3) _
  exact below_then a3 a3.size h4
theorem eq_self_beq (a b : Int) : (((0 == 0) && (0 == 0) && (94 == 94) && (0 == 0) && (1 == 1) && (a == b)) == (a == b)) = true := by simp

set_option maxHeartbeats 1000000 in
theorem virt_in_in (a b : Int) (w : World) (ha : 1 ≤ a ∧ a ≤ 255) (hb : 1 ≤ b ∧ b ≤ 255) :
    Calls Try.prog 7 #[.int .i64 a, .int .i64 b] w fun e w' => e = .returned (.bool true) ∧ Below w.heap.size w w' := by
  have da1 : decide (a < 1) = false := by simp; omega
  have da2 : decide (255 < a) = false := by simp; omega
  have db1 : decide (b < 1) = false := by simp; omega
  have db2 : decide (255 < b) = false := by simp; omega
  go_enter Try.func7, Try.ntmps7
  go_wp2_with fail
  refine (Virtual_four a _ (by omega) (by omega)).mono ?_
  rintro e w1 ⟨rfl, hb1⟩
  go_wp2_with fail
  refine (Virtual_four b _ (by omega) (by omega)).mono ?_
  rintro e w2 ⟨rfl, hb2⟩
  go_wp2_with fail
  refine (Virtual_six b _ (by omega) (by omega)).mono ?_
  rintro e w3 ⟨rfl, hb3⟩
  obtain ⟨hc2, hf2⟩ := bcell hb2
  obtain ⟨hc3, hf3⟩ := bcell hb3
  have z2 := hb2.size
  have z3 := hb3.size
  simp at z2 z3
  go_wp2_with fail
  refine (alive_any _).mono ?_
  rintro e w4 ⟨rfl, hb4⟩
  obtain ⟨hc4, hf4⟩ := bcell hb4
  have y1 : w1.heap.size < w2.heap.size := by omega
  have y2 : w1.heap.size < w2.heap.size + 1 := by omega
  have y3 : w1.heap.size < w3.heap.size := by omega
  have y4 : w1.heap.size < w3.heap.size + 1 := by omega
  have y5 : w2.heap.size < w3.heap.size := by omega
  have y6 : w2.heap.size < w3.heap.size + 1 := by omega
  go_wp2
  go_ret
  exact ⟨by first | rfl | simp, below_three hb1 hb2 hb3 hb4⟩

set_option maxHeartbeats 1000000 in
theorem virt_in_lo (a b : Int) (w : World) (ha : 1 ≤ a ∧ a ≤ 255) (hb : b < 1) :
    Calls Try.prog 7 #[.int .i64 a, .int .i64 b] w fun e w' => e = .returned (.bool true) ∧ Below w.heap.size w w' := by
  have da1 : decide (a < 1) = false := by simp; omega
  have da2 : decide (255 < a) = false := by simp; omega
  have db1 : decide (b < 1) = true := by simp; omega
  go_enter Try.func7, Try.ntmps7
  go_wp2_with fail
  refine (Virtual_four a _ (by omega) (by omega)).mono ?_
  rintro e w1 ⟨rfl, hb1⟩
  go_wp2_with fail
  refine (Virtual_no b false _ (by omega)).mono ?_
  rintro e w2 ⟨rfl, hb2⟩
  go_wp2_with fail
  refine (Virtual_no b true _ (by omega)).mono ?_
  rintro e w3 ⟨rfl, hb3⟩
  obtain ⟨hc2, hf2⟩ := bcell hb2
  obtain ⟨hc3, hf3⟩ := bcell hb3
  have z2 := hb2.size
  have z3 := hb3.size
  simp at z2 z3
  go_wp2_with fail
  refine (alive_any _).mono ?_
  rintro e w4 ⟨rfl, hb4⟩
  obtain ⟨hc4, hf4⟩ := bcell hb4
  have y1 : w1.heap.size < w2.heap.size := by omega
  have y2 : w1.heap.size < w2.heap.size + 1 := by omega
  have y3 : w1.heap.size < w3.heap.size := by omega
  have y4 : w1.heap.size < w3.heap.size + 1 := by omega
  have y5 : w2.heap.size < w3.heap.size := by omega
  have y6 : w2.heap.size < w3.heap.size + 1 := by omega
  go_wp2
  go_ret
  exact ⟨by first | rfl | simp, below_three hb1 hb2 hb3 hb4⟩

set_option maxHeartbeats 1000000 in
theorem virt_in_hi (a b : Int) (w : World) (ha : 1 ≤ a ∧ a ≤ 255) (hb : 255 < b) :
    Calls Try.prog 7 #[.int .i64 a, .int .i64 b] w fun e w' => e = .returned (.bool true) ∧ Below w.heap.size w w' := by
  have da1 : decide (a < 1) = false := by simp; omega
  have da2 : decide (255 < a) = false := by simp; omega
  have db1 : decide (b < 1) = false := by simp; omega
  have db2 : decide (255 < b) = true := by simp; omega
  go_enter Try.func7, Try.ntmps7
  go_wp2_with fail
  refine (Virtual_four a _ (by omega) (by omega)).mono ?_
  rintro e w1 ⟨rfl, hb1⟩
  go_wp2_with fail
  refine (Virtual_no b false _ (by omega)).mono ?_
  rintro e w2 ⟨rfl, hb2⟩
  go_wp2_with fail
  refine (Virtual_no b true _ (by omega)).mono ?_
  rintro e w3 ⟨rfl, hb3⟩
  obtain ⟨hc2, hf2⟩ := bcell hb2
  obtain ⟨hc3, hf3⟩ := bcell hb3
  have z2 := hb2.size
  have z3 := hb3.size
  simp at z2 z3
  go_wp2_with fail
  refine (alive_any _).mono ?_
  rintro e w4 ⟨rfl, hb4⟩
  obtain ⟨hc4, hf4⟩ := bcell hb4
  have y1 : w1.heap.size < w2.heap.size := by omega
  have y2 : w1.heap.size < w2.heap.size + 1 := by omega
  have y3 : w1.heap.size < w3.heap.size := by omega
  have y4 : w1.heap.size < w3.heap.size + 1 := by omega
  have y5 : w2.heap.size < w3.heap.size := by omega
  have y6 : w2.heap.size < w3.heap.size + 1 := by omega
  go_wp2
  go_ret
  exact ⟨by first | rfl | simp, below_three hb1 hb2 hb3 hb4⟩

set_option maxHeartbeats 1000000 in
theorem virt_lo_in (a b : Int) (w : World) (ha : a < 1) (hb : 1 ≤ b ∧ b ≤ 255) :
    Calls Try.prog 7 #[.int .i64 a, .int .i64 b] w fun e w' => e = .returned (.bool true) ∧ Below w.heap.size w w' := by
  have da1 : decide (a < 1) = true := by simp; omega
  have db1 : decide (b < 1) = false := by simp; omega
  have db2 : decide (255 < b) = false := by simp; omega
  go_enter Try.func7, Try.ntmps7
  go_wp2_with fail
  refine (Virtual_no a false _ (by omega)).mono ?_
  rintro e w1 ⟨rfl, hb1⟩
  go_wp2_with fail
  refine (Virtual_four b _ (by omega) (by omega)).mono ?_
  rintro e w2 ⟨rfl, hb2⟩
  go_wp2_with fail
  refine (Virtual_six b _ (by omega) (by omega)).mono ?_
  rintro e w3 ⟨rfl, hb3⟩
  obtain ⟨hc2, hf2⟩ := bcell hb2
  obtain ⟨hc3, hf3⟩ := bcell hb3
  have z2 := hb2.size
  have z3 := hb3.size
  simp at z2 z3
  go_wp2_with fail
  refine (alive_any _).mono ?_
  rintro e w4 ⟨rfl, hb4⟩
  obtain ⟨hc4, hf4⟩ := bcell hb4
  have y1 : w1.heap.size < w2.heap.size := by omega
  have y2 : w1.heap.size < w2.heap.size + 1 := by omega
  have y3 : w1.heap.size < w3.heap.size := by omega
  have y4 : w1.heap.size < w3.heap.size + 1 := by omega
  have y5 : w2.heap.size < w3.heap.size := by omega
  have y6 : w2.heap.size < w3.heap.size + 1 := by omega
  go_wp2
  go_ret
  exact ⟨by first | rfl | simp, below_three hb1 hb2 hb3 hb4⟩

set_option maxHeartbeats 1000000 in
theorem virt_lo_out (a b : Int) (w : World) (ha : a < 1) (hb : b < 1 ∨ 255 < b) :
    Calls Try.prog 7 #[.int .i64 a, .int .i64 b] w fun e w' => e = .returned (.bool true) ∧ Below w.heap.size w w' := by
  have da1 : decide (a < 1) = true := by simp; omega
  go_enter Try.func7, Try.ntmps7
  go_wp2_with fail
  refine (Virtual_no a false _ (by omega)).mono ?_
  rintro e w1 ⟨rfl, hb1⟩
  go_wp2_with fail
  refine (Virtual_no b false _ (by omega)).mono ?_
  rintro e w2 ⟨rfl, hb2⟩
  go_wp2_with fail
  refine (Virtual_no b true _ (by omega)).mono ?_
  rintro e w3 ⟨rfl, hb3⟩
  obtain ⟨hc2, hf2⟩ := bcell hb2
  obtain ⟨hc3, hf3⟩ := bcell hb3
  have z2 := hb2.size
  have z3 := hb3.size
  simp at z2 z3
  go_wp2_with fail
  refine (alive_any _).mono ?_
  rintro e w4 ⟨rfl, hb4⟩
  obtain ⟨hc4, hf4⟩ := bcell hb4
  have y1 : w1.heap.size < w2.heap.size := by omega
  have y2 : w1.heap.size < w2.heap.size + 1 := by omega
  have y3 : w1.heap.size < w3.heap.size := by omega
  have y4 : w1.heap.size < w3.heap.size + 1 := by omega
  have y5 : w2.heap.size < w3.heap.size := by omega
  have y6 : w2.heap.size < w3.heap.size + 1 := by omega
  go_wp2
  go_ret
  exact ⟨by first | rfl | simp, below_three hb1 hb2 hb3 hb4⟩

set_option maxHeartbeats 1000000 in
theorem virt_hi_in (a b : Int) (w : World) (ha : 255 < a) (hb : 1 ≤ b ∧ b ≤ 255) :
    Calls Try.prog 7 #[.int .i64 a, .int .i64 b] w fun e w' => e = .returned (.bool true) ∧ Below w.heap.size w w' := by
  have da1 : decide (a < 1) = false := by simp; omega
  have da2 : decide (255 < a) = true := by simp; omega
  have db1 : decide (b < 1) = false := by simp; omega
  have db2 : decide (255 < b) = false := by simp; omega
  go_enter Try.func7, Try.ntmps7
  go_wp2_with fail
  refine (Virtual_no a false _ (by omega)).mono ?_
  rintro e w1 ⟨rfl, hb1⟩
  go_wp2_with fail
  refine (Virtual_four b _ (by omega) (by omega)).mono ?_
  rintro e w2 ⟨rfl, hb2⟩
  go_wp2_with fail
  refine (Virtual_six b _ (by omega) (by omega)).mono ?_
  rintro e w3 ⟨rfl, hb3⟩
  obtain ⟨hc2, hf2⟩ := bcell hb2
  obtain ⟨hc3, hf3⟩ := bcell hb3
  have z2 := hb2.size
  have z3 := hb3.size
  simp at z2 z3
  go_wp2_with fail
  refine (alive_any _).mono ?_
  rintro e w4 ⟨rfl, hb4⟩
  obtain ⟨hc4, hf4⟩ := bcell hb4
  have y1 : w1.heap.size < w2.heap.size := by omega
  have y2 : w1.heap.size < w2.heap.size + 1 := by omega
  have y3 : w1.heap.size < w3.heap.size := by omega
  have y4 : w1.heap.size < w3.heap.size + 1 := by omega
  have y5 : w2.heap.size < w3.heap.size := by omega
  have y6 : w2.heap.size < w3.heap.size + 1 := by omega
  go_wp2
  go_ret
  exact ⟨by first | rfl | simp, below_three hb1 hb2 hb3 hb4⟩

set_option maxHeartbeats 1000000 in
theorem virt_hi_out (a b : Int) (w : World) (ha : 255 < a) (hb : b < 1 ∨ 255 < b) :
    Calls Try.prog 7 #[.int .i64 a, .int .i64 b] w fun e w' => e = .returned (.bool true) ∧ Below w.heap.size w w' := by
  have da1 : decide (a < 1) = false := by simp; omega
  have da2 : decide (255 < a) = true := by simp; omega
  go_enter Try.func7, Try.ntmps7
  go_wp2_with fail
  refine (Virtual_no a false _ (by omega)).mono ?_
  rintro e w1 ⟨rfl, hb1⟩
  go_wp2_with fail
  refine (Virtual_no b false _ (by omega)).mono ?_
  rintro e w2 ⟨rfl, hb2⟩
  go_wp2_with fail
  refine (Virtual_no b true _ (by omega)).mono ?_
  rintro e w3 ⟨rfl, hb3⟩
  obtain ⟨hc2, hf2⟩ := bcell hb2
  obtain ⟨hc3, hf3⟩ := bcell hb3
  have z2 := hb2.size
  have z3 := hb3.size
  simp at z2 z3
  go_wp2_with fail
  refine (alive_any _).mono ?_
  rintro e w4 ⟨rfl, hb4⟩
  obtain ⟨hc4, hf4⟩ := bcell hb4
  have y1 : w1.heap.size < w2.heap.size := by omega
  have y2 : w1.heap.size < w2.heap.size + 1 := by omega
  have y3 : w1.heap.size < w3.heap.size := by omega
  have y4 : w1.heap.size < w3.heap.size + 1 := by omega
  have y5 : w2.heap.size < w3.heap.size := by omega
  have y6 : w2.heap.size < w3.heap.size + 1 := by omega
  go_wp2
  go_ret
  exact ⟨by first | rfl | simp, below_three hb1 hb2 hb3 hb4⟩

theorem virtuals_walk (a b : Int) (w : World) (_ : (Lit.int .i64 a).wf = true) (_ : (Lit.int .i64 b).wf = true) :
    Calls Try.prog 7 #[.int .i64 a, .int .i64 b] w fun e w' => e = .returned (.bool true) ∧ Below w.heap.size w w' := by
  by_cases h1 : a < 1
  · by_cases h2 : b < 1 ∨ 255 < b
    · exact virt_lo_out a b w h1 h2
    · exact virt_lo_in a b w h1 (by omega)
  · by_cases h3 : 255 < a
    · by_cases h2 : b < 1 ∨ 255 < b
      · exact virt_hi_out a b w h3 h2
      · exact virt_hi_in a b w h3 (by omega)
    · by_cases h4 : b < 1
      · exact virt_in_lo a b w (by omega) h4
      · by_cases h5 : 255 < b
        · exact virt_in_hi a b w (by omega) h5
        · exact virt_in_in a b w (by omega) (by omega)

end Go.Proofs.Ytmjjdgcgngnjhaa
