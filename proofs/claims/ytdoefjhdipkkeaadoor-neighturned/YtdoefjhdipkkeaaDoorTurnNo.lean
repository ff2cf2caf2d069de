/-
  The ways of NeighTurned on which nothing is turned.
-/
import Derived.Test.YtdoefjhdipkkeaaDoorLAlive
namespace Go.Proofs.YtdoefjhdipkkeaaDoor
open Go.RowKit
set_option linter.unusedVariables false
set_option maxRecDepth 10000

set_option maxHeartbeats 2000000 in
theorem turned_n1 (m0 m1 m2 m3 m4 m5 : Int) (f t : ByteArray) (x y : Int) (w : World) (hG : Glob w) (h1 : f.size ≠ 16) : Calls Tryd.prog 6 #[.agg #[.int .u8 m0, .int .u8 m1, .int .u8 m2, .int .u8 m3, .int .u8 m4, .int .u8 m5], .agg #[.string f, .string t], .agg #[.int .i64 x, .int .i64 y]] w fun e w' => e = .returned (.bool true) ∧ Below w.heap.size w w' := by
  have n1 : ((f.size : Int) != 16) = true := by simp; omega
  clear h1
  have HG0 := Lib.hid (((hG.alloc (.cells #[.int .u8 m0, .int .u8 m1, .int .u8 m2, .int .u8 m3, .int .u8 m4, .int .u8 m5] 23)).alloc (.cells #[.string f, .string t] 25)).alloc (.cells #[.int .i64 x, .int .i64 y] 48))
  clear hG
  go_enter Tryd.func6, Tryd.ntmps6
  go_wp2_with fail
  refine (alive_any _ HG0.out).mono ?_
  rintro e w1 ⟨rfl, hb1⟩
  have HB1 := Lib.hid (below_then ((((Below.refl w.heap.size w).alloc (Nat.le_refl _) (.cells #[.int .u8 m0, .int .u8 m1, .int .u8 m2, .int .u8 m3, .int .u8 m4, .int .u8 m5] 23)).alloc (by simp) (.cells #[.string f, .string t] 25)).alloc (by simp; omega) (.cells #[.int .i64 x, .int .i64 y] 48)) (by simp; omega) hb1)
  clear hb1
  go_wp2
  go_ret
  exact ⟨rfl, HB1.out⟩
set_option maxHeartbeats 2000000 in
theorem turned_n2 (m0 m1 m2 m3 m4 m5 : Int) (f t : ByteArray) (x y : Int) (w : World) (hG : Glob w) (h1 : f.size = 16) (h2 : t.size ≠ 16) : Calls Tryd.prog 6 #[.agg #[.int .u8 m0, .int .u8 m1, .int .u8 m2, .int .u8 m3, .int .u8 m4, .int .u8 m5], .agg #[.string f, .string t], .agg #[.int .i64 x, .int .i64 y]] w fun e w' => e = .returned (.bool true) ∧ Below w.heap.size w w' := by
  have n1 : ((f.size : Int) != 16) = false := by simp [h1]
  have n2 : ((t.size : Int) != 16) = true := by simp; omega
  clear h2
  have HG0 := Lib.hid (((hG.alloc (.cells #[.int .u8 m0, .int .u8 m1, .int .u8 m2, .int .u8 m3, .int .u8 m4, .int .u8 m5] 23)).alloc (.cells #[.string f, .string t] 25)).alloc (.cells #[.int .i64 x, .int .i64 y] 48))
  clear hG
  go_enter Tryd.func6, Tryd.ntmps6
  go_wp2_with fail
  refine (alive_any _ HG0.out).mono ?_
  rintro e w1 ⟨rfl, hb1⟩
  have HB1 := Lib.hid (below_then ((((Below.refl w.heap.size w).alloc (Nat.le_refl _) (.cells #[.int .u8 m0, .int .u8 m1, .int .u8 m2, .int .u8 m3, .int .u8 m4, .int .u8 m5] 23)).alloc (by simp) (.cells #[.string f, .string t] 25)).alloc (by simp; omega) (.cells #[.int .i64 x, .int .i64 y] 48)) (by simp; omega) hb1)
  clear hb1
  go_wp2
  go_ret
  exact ⟨rfl, HB1.out⟩
set_option maxHeartbeats 2000000 in
theorem turned_n3 (m0 m1 m2 m3 m4 m5 : Int) (f t : ByteArray) (x y : Int) (w : World) (hG : Glob w) (h1 : f.size = 16) (h2 : t.size = 16) (h3 : x < 0) : Calls Tryd.prog 6 #[.agg #[.int .u8 m0, .int .u8 m1, .int .u8 m2, .int .u8 m3, .int .u8 m4, .int .u8 m5], .agg #[.string f, .string t], .agg #[.int .i64 x, .int .i64 y]] w fun e w' => e = .returned (.bool true) ∧ Below w.heap.size w w' := by
  have n1 : ((f.size : Int) != 16) = false := by simp [h1]
  have n2 : ((t.size : Int) != 16) = false := by simp [h2]
  have n3 : decide (x < 0) = true := by simp; omega
  have HG0 := Lib.hid (((hG.alloc (.cells #[.int .u8 m0, .int .u8 m1, .int .u8 m2, .int .u8 m3, .int .u8 m4, .int .u8 m5] 23)).alloc (.cells #[.string f, .string t] 25)).alloc (.cells #[.int .i64 x, .int .i64 y] 48))
  clear hG
  go_enter Tryd.func6, Tryd.ntmps6
  go_wp2_with fail
  refine (alive_any _ HG0.out).mono ?_
  rintro e w1 ⟨rfl, hb1⟩
  have HB1 := Lib.hid (below_then ((((Below.refl w.heap.size w).alloc (Nat.le_refl _) (.cells #[.int .u8 m0, .int .u8 m1, .int .u8 m2, .int .u8 m3, .int .u8 m4, .int .u8 m5] 23)).alloc (by simp) (.cells #[.string f, .string t] 25)).alloc (by simp; omega) (.cells #[.int .i64 x, .int .i64 y] 48)) (by simp; omega) hb1)
  clear hb1
  go_wp2
  go_ret
  exact ⟨rfl, HB1.out⟩
set_option maxHeartbeats 2000000 in
theorem turned_n4 (m0 m1 m2 m3 m4 m5 : Int) (f t : ByteArray) (x y : Int) (w : World) (hG : Glob w) (h1 : f.size = 16) (h2 : t.size = 16) (h3 : 0 ≤ x) (h4 : 31 < x) : Calls Tryd.prog 6 #[.agg #[.int .u8 m0, .int .u8 m1, .int .u8 m2, .int .u8 m3, .int .u8 m4, .int .u8 m5], .agg #[.string f, .string t], .agg #[.int .i64 x, .int .i64 y]] w fun e w' => e = .returned (.bool true) ∧ Below w.heap.size w w' := by
  have n1 : ((f.size : Int) != 16) = false := by simp [h1]
  have n2 : ((t.size : Int) != 16) = false := by simp [h2]
  have n3 : decide (x < 0) = false := by simp; omega
  have n4 : decide (31 < x) = true := by simp; omega
  have HG0 := Lib.hid (((hG.alloc (.cells #[.int .u8 m0, .int .u8 m1, .int .u8 m2, .int .u8 m3, .int .u8 m4, .int .u8 m5] 23)).alloc (.cells #[.string f, .string t] 25)).alloc (.cells #[.int .i64 x, .int .i64 y] 48))
  clear hG
  go_enter Tryd.func6, Tryd.ntmps6
  go_wp2_with fail
  refine (alive_any _ HG0.out).mono ?_
  rintro e w1 ⟨rfl, hb1⟩
  have HB1 := Lib.hid (below_then ((((Below.refl w.heap.size w).alloc (Nat.le_refl _) (.cells #[.int .u8 m0, .int .u8 m1, .int .u8 m2, .int .u8 m3, .int .u8 m4, .int .u8 m5] 23)).alloc (by simp) (.cells #[.string f, .string t] 25)).alloc (by simp; omega) (.cells #[.int .i64 x, .int .i64 y] 48)) (by simp; omega) hb1)
  clear hb1
  go_wp2
  go_ret
  exact ⟨rfl, HB1.out⟩
set_option maxHeartbeats 2000000 in
theorem turned_n5 (m0 m1 m2 m3 m4 m5 : Int) (f t : ByteArray) (x y : Int) (w : World) (hG : Glob w) (h1 : f.size = 16) (h2 : t.size = 16) (h3 : 0 ≤ x) (h4 : x ≤ 31) (h5 : y < 1) : Calls Tryd.prog 6 #[.agg #[.int .u8 m0, .int .u8 m1, .int .u8 m2, .int .u8 m3, .int .u8 m4, .int .u8 m5], .agg #[.string f, .string t], .agg #[.int .i64 x, .int .i64 y]] w fun e w' => e = .returned (.bool true) ∧ Below w.heap.size w w' := by
  have n1 : ((f.size : Int) != 16) = false := by simp [h1]
  have n2 : ((t.size : Int) != 16) = false := by simp [h2]
  have n3 : decide (x < 0) = false := by simp; omega
  have n4 : decide (31 < x) = false := by simp; omega
  have n5 : decide (y < 1) = true := by simp; omega
  have HG0 := Lib.hid (((hG.alloc (.cells #[.int .u8 m0, .int .u8 m1, .int .u8 m2, .int .u8 m3, .int .u8 m4, .int .u8 m5] 23)).alloc (.cells #[.string f, .string t] 25)).alloc (.cells #[.int .i64 x, .int .i64 y] 48))
  clear hG
  go_enter Tryd.func6, Tryd.ntmps6
  go_wp2_with fail
  refine (alive_any _ HG0.out).mono ?_
  rintro e w1 ⟨rfl, hb1⟩
  have HB1 := Lib.hid (below_then ((((Below.refl w.heap.size w).alloc (Nat.le_refl _) (.cells #[.int .u8 m0, .int .u8 m1, .int .u8 m2, .int .u8 m3, .int .u8 m4, .int .u8 m5] 23)).alloc (by simp) (.cells #[.string f, .string t] 25)).alloc (by simp; omega) (.cells #[.int .i64 x, .int .i64 y] 48)) (by simp; omega) hb1)
  clear hb1
  go_wp2
  go_ret
  exact ⟨rfl, HB1.out⟩
set_option maxHeartbeats 2000000 in
theorem turned_n6 (m0 m1 m2 m3 m4 m5 : Int) (f t : ByteArray) (x y : Int) (w : World) (hG : Glob w) (h1 : f.size = 16) (h2 : t.size = 16) (h3 : 0 ≤ x) (h4 : x ≤ 31) (h5 : 1 ≤ y) (h6 : 255 < y) : Calls Tryd.prog 6 #[.agg #[.int .u8 m0, .int .u8 m1, .int .u8 m2, .int .u8 m3, .int .u8 m4, .int .u8 m5], .agg #[.string f, .string t], .agg #[.int .i64 x, .int .i64 y]] w fun e w' => e = .returned (.bool true) ∧ Below w.heap.size w w' := by
  have n1 : ((f.size : Int) != 16) = false := by simp [h1]
  have n2 : ((t.size : Int) != 16) = false := by simp [h2]
  have n3 : decide (x < 0) = false := by simp; omega
  have n4 : decide (31 < x) = false := by simp; omega
  have n5 : decide (y < 1) = false := by simp; omega
  have n6 : decide (255 < y) = true := by simp; omega
  have HG0 := Lib.hid (((hG.alloc (.cells #[.int .u8 m0, .int .u8 m1, .int .u8 m2, .int .u8 m3, .int .u8 m4, .int .u8 m5] 23)).alloc (.cells #[.string f, .string t] 25)).alloc (.cells #[.int .i64 x, .int .i64 y] 48))
  clear hG
  go_enter Tryd.func6, Tryd.ntmps6
  go_wp2_with fail
  refine (alive_any _ HG0.out).mono ?_
  rintro e w1 ⟨rfl, hb1⟩
  have HB1 := Lib.hid (below_then ((((Below.refl w.heap.size w).alloc (Nat.le_refl _) (.cells #[.int .u8 m0, .int .u8 m1, .int .u8 m2, .int .u8 m3, .int .u8 m4, .int .u8 m5] 23)).alloc (by simp) (.cells #[.string f, .string t] 25)).alloc (by simp; omega) (.cells #[.int .i64 x, .int .i64 y] 48)) (by simp; omega) hb1)
  clear hb1
  go_wp2
  go_ret
  exact ⟨rfl, HB1.out⟩

end Go.Proofs.YtdoefjhdipkkeaaDoor
