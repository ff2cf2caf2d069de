/-
  Parts of the walk of EtherBack.
-/
import Derived.Test.YtmjjdgcgngnjhaaBackPre
namespace Go.Proofs.Ytmjjdgcgngnjhaa
open Go.ChangeShapes Go.WideShapes Go.ChangeAt Go.RowKit
set_option linter.unusedVariables false


attribute [local go_sem ↓] frame_eq25 frame_eq30

set_option maxHeartbeats 2000000 in
theorem back_yes_short (a0 a1 a2 a3 a4 a5 a6 a7 a8 a9 a10 a11 t : Int) (s : ByteArray) (a : Option Addr) (n c : Nat) (bs : List Int) (w : World) (hs : s.size ≤ 140737488351232) (q0 : 0 ≤ a0 ∧ a0 ≤ 255) (q1 : 0 ≤ a1 ∧ a1 ≤ 255) (q2 : 0 ≤ a2 ∧ a2 ≤ 255) (q3 : 0 ≤ a3 ∧ a3 ≤ 255) (q4 : 0 ≤ a4 ∧ a4 ≤ 255) (q5 : 0 ≤ a5 ∧ a5 ≤ 255) (q6 : 0 ≤ a6 ∧ a6 ≤ 255) (q7 : 0 ≤ a7 ∧ a7 ≤ 255) (q8 : 0 ≤ a8 ∧ a8 ≤ 255) (q9 : 0 ≤ a9 ∧ a9 ≤ 255) (q10 : 0 ≤ a10 ∧ a10 ≤ 255) (q11 : 0 ≤ a11 ∧ a11 ≤ 255) (h1 : 1536 ≤ t) (h2 : t ≤ 65535) (h3 : s.size ≤ 1500) (hp : Part w ⟨a, n, c, bs⟩) (hn : n ≤ 140737488351232) (hd : n < 14 ∨ 1514 < n) :
    Calls Try.prog 5 #[.agg #[.int .u8 a0, .int .u8 a1, .int .u8 a2, .int .u8 a3, .int .u8 a4, .int .u8 a5, .int .u8 a6, .int .u8 a7, .int .u8 a8, .int .u8 a9, .int .u8 a10, .int .u8 a11, .int .i64 t, .string s], .slice a n c] w fun e w' => e = .returned (.bool true) ∧ Below w.heap.size w w' := by
  have HP := Lib.hid hp
  clear hp
  have A0 : Below w.heap.size w (w.alloc (.cells #[.int .u8 a0, .int .u8 a1, .int .u8 a2, .int .u8 a3, .int .u8 a4, .int .u8 a5, .int .u8 a6, .int .u8 a7, .int .u8 a8, .int .u8 a9, .int .u8 a10, .int .u8 a11, .int .i64 t, .string s] 25)) := (Below.refl _ _).alloc (Nat.le_refl _) _
  go_enter Try.func5, Try.ntmps5
  go_wp2_with fail
  refine (encode_yes a0 a1 a2 a3 a4 a5 a6 a7 a8 a9 a10 a11 t s _ q0 q1 q2 q3 q4 q5 q6 q7 q8 q9 q10 q11 h1 h2 h3).mono ?_
  rintro e w1 ⟨rfl, hp1, hb1⟩
  obtain ⟨hc1, hf1⟩ := bcell hb1
  have z1 := hb1.size
  simp only [World.size_alloc] at z1 hp1
  have A1 := below_then A0 A0.size hb1
  go_wp2_with fail
  refine (decode_wire a0 a1 a2 a3 a4 a5 a6 a7 a8 a9 a10 a11 t s _ _ hp1.out q0 q1 q2 q3 q4 q5 q6 q7 q8 q9 q10 q11 h1 h2 h3).mono ?_
  rintro e w2 ⟨rfl, hb2⟩
  obtain ⟨hc2, hf2⟩ := bcell hb2
  have z2 := hb2.size
  have A2 := below_alloc (below_then A1 A1.size hb2) (.cells #[.int .u8 a0, .int .u8 a1, .int .u8 a2, .int .u8 a3, .int .u8 a4, .int .u8 a5, .int .u8 a6, .int .u8 a7, .int .u8 a8, .int .u8 a9, .int .u8 a10, .int .u8 a11, .int .i64 t, .string s] 30)
  have y1 : w.heap.size < w1.heap.size := by omega
  have y2 : w.heap.size < w2.heap.size := by omega
  have y3 : w.heap.size < w2.heap.size + 1 := by omega
  have HP2 := Lib.hid (HP.out.below A2)
  go_wp2_with fail
  refine (decode_short a n c _ hn hd).mono ?_
  rintro e w3 ⟨rfl, hb3⟩
  have A3 := below_alloc (below_then A2 A2.size hb3) (.cells #[.int .u8 0, .int .u8 0, .int .u8 0, .int .u8 0, .int .u8 0, .int .u8 0, .int .u8 0, .int .u8 0, .int .u8 0, .int .u8 0, .int .u8 0, .int .u8 0, .int .i64 0, .string ⟨#[]⟩] 30)
  go_wp2_with fail
  refine (alive_any _).mono ?_
  rintro e w4 ⟨rfl, hb4⟩
  obtain ⟨hc4, hf4⟩ := bcell hb4
  have A4 := below_then A3 A3.size hb4
  go_wp2
  go_ret
  exact ⟨by first | rfl | simp, A4⟩

set_option maxHeartbeats 2000000 in
theorem back_yes_low (a0 a1 a2 a3 a4 a5 a6 a7 a8 a9 a10 a11 t : Int) (s : ByteArray) (b off n c : Nat) (x0 x1 x2 x3 x4 x5 x6 x7 x8 x9 x10 x11 x12 x13 : Int) (r : List Int) (w : World) (hs : s.size ≤ 140737488351232) (q0 : 0 ≤ a0 ∧ a0 ≤ 255) (q1 : 0 ≤ a1 ∧ a1 ≤ 255) (q2 : 0 ≤ a2 ∧ a2 ≤ 255) (q3 : 0 ≤ a3 ∧ a3 ≤ 255) (q4 : 0 ≤ a4 ∧ a4 ≤ 255) (q5 : 0 ≤ a5 ∧ a5 ≤ 255) (q6 : 0 ≤ a6 ∧ a6 ≤ 255) (q7 : 0 ≤ a7 ∧ a7 ≤ 255) (q8 : 0 ≤ a8 ∧ a8 ≤ 255) (q9 : 0 ≤ a9 ∧ a9 ≤ 255) (q10 : 0 ≤ a10 ∧ a10 ≤ 255) (q11 : 0 ≤ a11 ∧ a11 ≤ 255) (h1 : 1536 ≤ t) (h2 : t ≤ 65535) (h3 : s.size ≤ 1500) (hp : Part w ⟨some ⟨b, off, none⟩, n, c, (x0 :: x1 :: x2 :: x3 :: x4 :: x5 :: x6 :: x7 :: x8 :: x9 :: x10 :: x11 :: x12 :: x13 :: r)⟩) (hn : n ≤ 1514) (hd : x12 * 256 + x13 < 1536) (p0 : 0 ≤ x0 ∧ x0 ≤ 255) (p1 : 0 ≤ x1 ∧ x1 ≤ 255) (p2 : 0 ≤ x2 ∧ x2 ≤ 255) (p3 : 0 ≤ x3 ∧ x3 ≤ 255) (p4 : 0 ≤ x4 ∧ x4 ≤ 255) (p5 : 0 ≤ x5 ∧ x5 ≤ 255) (p6 : 0 ≤ x6 ∧ x6 ≤ 255) (p7 : 0 ≤ x7 ∧ x7 ≤ 255) (p8 : 0 ≤ x8 ∧ x8 ≤ 255) (p9 : 0 ≤ x9 ∧ x9 ≤ 255) (p10 : 0 ≤ x10 ∧ x10 ≤ 255) (p11 : 0 ≤ x11 ∧ x11 ≤ 255) (p12 : 0 ≤ x12 ∧ x12 ≤ 255) (p13 : 0 ≤ x13 ∧ x13 ≤ 255) :
    Calls Try.prog 5 #[.agg #[.int .u8 a0, .int .u8 a1, .int .u8 a2, .int .u8 a3, .int .u8 a4, .int .u8 a5, .int .u8 a6, .int .u8 a7, .int .u8 a8, .int .u8 a9, .int .u8 a10, .int .u8 a11, .int .i64 t, .string s], .slice (some ⟨b, off, none⟩) n c] w fun e w' => e = .returned (.bool true) ∧ Below w.heap.size w w' := by
  have HP := Lib.hid hp
  clear hp
  have A0 : Below w.heap.size w (w.alloc (.cells #[.int .u8 a0, .int .u8 a1, .int .u8 a2, .int .u8 a3, .int .u8 a4, .int .u8 a5, .int .u8 a6, .int .u8 a7, .int .u8 a8, .int .u8 a9, .int .u8 a10, .int .u8 a11, .int .i64 t, .string s] 25)) := (Below.refl _ _).alloc (Nat.le_refl _) _
  go_enter Try.func5, Try.ntmps5
  go_wp2_with fail
  refine (encode_yes a0 a1 a2 a3 a4 a5 a6 a7 a8 a9 a10 a11 t s _ q0 q1 q2 q3 q4 q5 q6 q7 q8 q9 q10 q11 h1 h2 h3).mono ?_
  rintro e w1 ⟨rfl, hp1, hb1⟩
  obtain ⟨hc1, hf1⟩ := bcell hb1
  have z1 := hb1.size
  simp only [World.size_alloc] at z1 hp1
  have A1 := below_then A0 A0.size hb1
  go_wp2_with fail
  refine (decode_wire a0 a1 a2 a3 a4 a5 a6 a7 a8 a9 a10 a11 t s _ _ hp1.out q0 q1 q2 q3 q4 q5 q6 q7 q8 q9 q10 q11 h1 h2 h3).mono ?_
  rintro e w2 ⟨rfl, hb2⟩
  obtain ⟨hc2, hf2⟩ := bcell hb2
  have z2 := hb2.size
  have A2 := below_alloc (below_then A1 A1.size hb2) (.cells #[.int .u8 a0, .int .u8 a1, .int .u8 a2, .int .u8 a3, .int .u8 a4, .int .u8 a5, .int .u8 a6, .int .u8 a7, .int .u8 a8, .int .u8 a9, .int .u8 a10, .int .u8 a11, .int .i64 t, .string s] 30)
  have y1 : w.heap.size < w1.heap.size := by omega
  have y2 : w.heap.size < w2.heap.size := by omega
  have y3 : w.heap.size < w2.heap.size + 1 := by omega
  have HP2 := Lib.hid (HP.out.below A2)
  go_wp2_with fail
  refine (decode_low b off n c x0 x1 x2 x3 x4 x5 x6 x7 x8 x9 x10 x11 x12 x13 r _ HP2.out hn hd p0 p1 p2 p3 p4 p5 p6 p7 p8 p9 p10 p11 p12 p13).mono ?_
  rintro e w3 ⟨rfl, hb3⟩
  have A3 := below_alloc (below_then A2 A2.size hb3) (.cells #[.int .u8 0, .int .u8 0, .int .u8 0, .int .u8 0, .int .u8 0, .int .u8 0, .int .u8 0, .int .u8 0, .int .u8 0, .int .u8 0, .int .u8 0, .int .u8 0, .int .i64 0, .string ⟨#[]⟩] 30)
  go_wp2_with fail
  refine (alive_any _).mono ?_
  rintro e w4 ⟨rfl, hb4⟩
  obtain ⟨hc4, hf4⟩ := bcell hb4
  have A4 := below_then A3 A3.size hb4
  go_wp2
  go_ret
  exact ⟨by first | rfl | simp, A4⟩

end Go.Proofs.Ytmjjdgcgngnjhaa
