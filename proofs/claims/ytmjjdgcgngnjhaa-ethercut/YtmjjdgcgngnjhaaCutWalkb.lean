/-
  The walk of EtherCut, where less of the body is read.
-/
import Derived.Test.YtmjjdgcgngnjhaaCutWalk
namespace Go.Proofs.Ytmjjdgcgngnjhaa
open Go.ChangeShapes Go.WideShapes Go.ChangeAt Go.RowKit
set_option linter.unusedVariables false


attribute [local go_sem ↓] frame_eq25 frame_eq30

set_option maxHeartbeats 2000000 in
theorem cut_ok (a0 a1 a2 a3 a4 a5 a6 a7 a8 a9 a10 a11 t : Int) (s : ByteArray) (k : Nat) (w : World) (q0 : 0 ≤ a0 ∧ a0 ≤ 255) (q1 : 0 ≤ a1 ∧ a1 ≤ 255) (q2 : 0 ≤ a2 ∧ a2 ≤ 255) (q3 : 0 ≤ a3 ∧ a3 ≤ 255) (q4 : 0 ≤ a4 ∧ a4 ≤ 255) (q5 : 0 ≤ a5 ∧ a5 ≤ 255) (q6 : 0 ≤ a6 ∧ a6 ≤ 255) (q7 : 0 ≤ a7 ∧ a7 ≤ 255) (q8 : 0 ≤ a8 ∧ a8 ≤ 255) (q9 : 0 ≤ a9 ∧ a9 ≤ 255) (q10 : 0 ≤ a10 ∧ a10 ≤ 255) (q11 : 0 ≤ a11 ∧ a11 ≤ 255) (h1 : 1536 ≤ t) (h2 : t ≤ 65535) (h3 : s.size ≤ 1500) (hn : 14 ≤ k) (hk : k ≤ 14 + s.size) :
    Calls Try.prog 9 #[.agg #[.int .u8 a0, .int .u8 a1, .int .u8 a2, .int .u8 a3, .int .u8 a4, .int .u8 a5, .int .u8 a6, .int .u8 a7, .int .u8 a8, .int .u8 a9, .int .u8 a10, .int .u8 a11, .int .i64 t, .string s], .int .i64 (k : Int)] w fun e w' => e = .returned (.bool true) ∧ Below w.heap.size w w' := by
  have A0 : Below w.heap.size w (w.alloc (.cells #[.int .u8 a0, .int .u8 a1, .int .u8 a2, .int .u8 a3, .int .u8 a4, .int .u8 a5, .int .u8 a6, .int .u8 a7, .int .u8 a8, .int .u8 a9, .int .u8 a10, .int .u8 a11, .int .i64 t, .string s] 25)) := (Below.refl _ _).alloc (Nat.le_refl _) _
  have i1 : (0 : Int) ≤ (k : Int) := by omega
  have i2 : (k : Int) ≤ 14 + (s.size : Int) := by omega
  have d1 : decide ((k : Int) < 0) = false := by simp
  have d2 : decide ((14 : Int) + s.size < (k : Int)) = false := by simp; omega
  have d3 : decide ((k : Int) < 14) = false := by simp; omega
  have d4 : decide (k < 14) = false := by simp; omega
  go_enter Try.func9, Try.ntmps9
  go_wp2_with fail
  refine (encode_yes a0 a1 a2 a3 a4 a5 a6 a7 a8 a9 a10 a11 t s _ q0 q1 q2 q3 q4 q5 q6 q7 q8 q9 q10 q11 h1 h2 h3).mono ?_
  rintro e w1 ⟨rfl, hp1, hb1⟩
  obtain ⟨hc1, hf1⟩ := bcell hb1
  have A1 := below_then A0 A0.size hb1
  simp only [World.size_alloc] at hp1
  go_wp2_with fail
  refine (decode_cut a0 a1 a2 a3 a4 a5 a6 a7 a8 a9 a10 a11 t s _ k _ hp1.out q0 q1 q2 q3 q4 q5 q6 q7 q8 q9 q10 q11 h1 h2 h3 hn hk).mono ?_
  rintro e w2 ⟨rfl, hb2⟩
  clear hp1
  obtain ⟨hc2, hf2⟩ := bcell hb2
  have z1 := hb1.size
  have z2 := hb2.size
  simp only [World.size_alloc] at z1
  have y1 : w.heap.size < w1.heap.size := by omega
  have y2 : w.heap.size < w2.heap.size := by omega
  have y3 : w.heap.size < w2.heap.size + 1 := by omega
  have i3 : (0 : Int) ≤ (k : Int) - 14 := by omega
  have i4 : (k : Int) - 14 ≤ (s.size : Int) := by omega
  have i5 : ((k : Int) - 14).toNat = k - 14 := by omega
  go_wp2_with fail
  refine (alive_any _).mono ?_
  rintro e w3 ⟨rfl, hb3⟩
  obtain ⟨hc3, hf3⟩ := bcell hb3
  have A2 := (below_then A1 A1.size hb2).setCell (p := ⟨w.heap.size, 13, none⟩) (Nat.le_refl _) (.string (s.extract 0 (k - 14)))
  have A3 := below_alloc A2 (.cells #[.int .u8 a0, .int .u8 a1, .int .u8 a2, .int .u8 a3, .int .u8 a4, .int .u8 a5, .int .u8 a6, .int .u8 a7, .int .u8 a8, .int .u8 a9, .int .u8 a10, .int .u8 a11, .int .i64 t, .string (s.extract 0 (k - 14))] 30)
  have A4 := below_then A3 A3.size hb3
  go_wp2
  go_ret
  exact ⟨by first | rfl | simp, A4⟩

end Go.Proofs.Ytmjjdgcgngnjhaa
