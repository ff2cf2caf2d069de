/-
  What the small functions of ether and of its reference do: virtual, told, Virtual, All, Group; how cards' addresses and frames compare.
-/
import Derived.Test.YtdoefjhdipkkeaaDoorPut
import Derived.WalkKit
import Derived.WalkSpells
import Derived.WalkSmall
import Derived.BigQuiet
import Derived.Deep.QuietTactic
import Derived.Deep.Draws
import Derived.Lib.Hide
import Derived.Laws.BitsAllLaws
import Derived.Below
import Derived.DeepKeys
namespace Go.Proofs.YtdoefjhdipkkeaaDoor.E
open Go.RowKit

theorem below_drewN {B : Nat} {a w : World} (h : Below B a w) (n : Nat) : Below B a (w.drewN n) := ⟨h.os, h.tape, h.output, h.size, h.block⟩
/-- Two cards' addresses are compared byte by byte. -/
theorem mac_eq_at (d : Nat) (a0 a1 a2 a3 a4 a5 b0 b1 b2 b3 b4 b5 : Int) (w : World) :
    (Op.equalIn (d + 2) 23 (.agg #[.int .u8 a0, .int .u8 a1, .int .u8 a2, .int .u8 a3, .int .u8 a4, .int .u8 a5]) (.agg #[.int .u8 b0, .int .u8 b1, .int .u8 b2, .int .u8 b3, .int .u8 b4, .int .u8 b5])).run Tryd.prog w = .ok ((a0 == b0) && (a1 == b1) && (a2 == b2) && (a3 == b3) && (a4 == b4) && (a5 == b5)) w := by
  obtain ⟨i, hi, -, -, -⟩ := info_parts info5
  rw [show d + 2 = (d + 1) + 1 from rfl, run_equalIn_array w (d + 1) _ _ Tryd.underlying23 hi]
  have hc : Tryd.prog.cellsOf 5 = 1 := by kernel_rfl
  rw [hc]
  simp [List.range, List.range.loop, Op.eqItems, part, isAgg, run_underlying Tryd.underlying5, run_equalIn_int w d 5 .u8 .u8 _ _ Tryd.underlying5]
  repeat' (split <;> simp_all)
theorem mac_eq (a0 a1 a2 a3 a4 a5 b0 b1 b2 b3 b4 b5 : Int) (w : World) :
    (Op.equalIn 10000 23 (.agg #[.int .u8 a0, .int .u8 a1, .int .u8 a2, .int .u8 a3, .int .u8 a4, .int .u8 a5]) (.agg #[.int .u8 b0, .int .u8 b1, .int .u8 b2, .int .u8 b3, .int .u8 b4, .int .u8 b5])).run Tryd.prog w = .ok ((a0 == b0) && (a1 == b1) && (a2 == b2) && (a3 == b3) && (a4 == b4) && (a5 == b5)) w := mac_eq_at 9998 _ _ _ _ _ _ _ _ _ _ _ _ w

theorem fields25 : Tryd.prog.fieldsOf 36 = Tryd.prog.fieldsOf 41 := by kernel_rfl

/-- Two frames are compared field by field. -/
theorem frame_eq25 (a0 a1 a2 a3 a4 a5 a6 a7 a8 a9 a10 a11 b0 b1 b2 b3 b4 b5 b6 b7 b8 b9 b10 b11 t u : Int) (x y : ByteArray) (w : World) :
    (Op.equalIn 10000 36 (.agg #[.int .u8 a0, .int .u8 a1, .int .u8 a2, .int .u8 a3, .int .u8 a4, .int .u8 a5, .int .u8 a6, .int .u8 a7, .int .u8 a8, .int .u8 a9, .int .u8 a10, .int .u8 a11, .int .i64 t, .string x]) (.agg #[.int .u8 b0, .int .u8 b1, .int .u8 b2, .int .u8 b3, .int .u8 b4, .int .u8 b5, .int .u8 b6, .int .u8 b7, .int .u8 b8, .int .u8 b9, .int .u8 b10, .int .u8 b11, .int .i64 u, .string y])).run Tryd.prog w = .ok ((a0 == b0) && (a1 == b1) && (a2 == b2) && (a3 == b3) && (a4 == b4) && (a5 == b5) && ((a6 == b6) && (a7 == b7) && (a8 == b8) && (a9 == b9) && (a10 == b10) && (a11 == b11) && ((t == u) && (x.toList == y.toList)))) w := by
  rw [show (10000 : Nat) = 9999 + 1 from rfl, run_equalIn_agg w 9999 36 _ _ (by kernel_rfl) (by kernel_rfl)]
  simp [Program.fieldsOf, Tryd.underlying36, Op.eqFields, part, isAgg, run_underlying Tryd.underlying23, run_underlying Tryd.underlying3, run_underlying Tryd.underlying9, mac_eq_at 9997, run_equalIn_int w 9998 3 .i64 .i64 _ _ Tryd.underlying3, run_equalIn_string w 9998 9 _ _ Tryd.underlying9]
  repeat' (split <;> simp_all)

/-- Two frames are compared field by field. -/
theorem frame_eq30 (a0 a1 a2 a3 a4 a5 a6 a7 a8 a9 a10 a11 b0 b1 b2 b3 b4 b5 b6 b7 b8 b9 b10 b11 t u : Int) (x y : ByteArray) (w : World) :
    (Op.equalIn 10000 41 (.agg #[.int .u8 a0, .int .u8 a1, .int .u8 a2, .int .u8 a3, .int .u8 a4, .int .u8 a5, .int .u8 a6, .int .u8 a7, .int .u8 a8, .int .u8 a9, .int .u8 a10, .int .u8 a11, .int .i64 t, .string x]) (.agg #[.int .u8 b0, .int .u8 b1, .int .u8 b2, .int .u8 b3, .int .u8 b4, .int .u8 b5, .int .u8 b6, .int .u8 b7, .int .u8 b8, .int .u8 b9, .int .u8 b10, .int .u8 b11, .int .i64 u, .string y])).run Tryd.prog w = .ok ((a0 == b0) && (a1 == b1) && (a2 == b2) && (a3 == b3) && (a4 == b4) && (a5 == b5) && ((a6 == b6) && (a7 == b7) && (a8 == b8) && (a9 == b9) && (a10 == b10) && (a11 == b11) && ((t == u) && (x.toList == y.toList)))) w := by
  rw [show (10000 : Nat) = 9999 + 1 from rfl, run_equalIn_agg w 9999 41 _ _ (by kernel_rfl) (by kernel_rfl)]
  simp [Program.fieldsOf, Tryd.underlying41, Op.eqFields, part, isAgg, run_underlying Tryd.underlying23, run_underlying Tryd.underlying3, run_underlying Tryd.underlying9, mac_eq_at 9997, run_equalIn_int w 9998 3 .i64 .i64 _ _ Tryd.underlying3, run_equalIn_string w 9998 9 _ _ Tryd.underlying9]
  repeat' (split <;> simp_all)


attribute [local go_sem] mac_eq

theorem and_one (a : Int) (h : 0 ≤ a ∧ a ≤ 255) : bits BinOp.and IntKind.u8 a 1 = a % 2 := by
  rw [u8_and a 1 h.1 (by omega) (by omega) (by omega)]
  have e : ((1 : Int)).toNat = 1 := rfl
  rw [e, Nat.and_one_is_mod]; omega

set_option maxHeartbeats 400000 in
/-- ether.All. -/
theorem all_any (w : World) : Calls Tryd.prog 26 #[] w fun e w' => e = .returned (.agg #[.int .u8 255, .int .u8 255, .int .u8 255, .int .u8 255, .int .u8 255, .int .u8 255]) ∧ Below w.heap.size w w' := by
  go_enter Tryd.func26, Tryd.ntmps26
  go_wp2
  exact bodyPost_ret (v := .agg #[.int .u8 255, .int .u8 255, .int .u8 255, .int .u8 255, .int .u8 255, .int .u8 255]) (by simp [results, Tryd.results26, go_sem]) rfl ⟨rfl, (Below.refl _ _).alloc (Nat.le_refl _) _⟩

/-- The kind's number in a shared card's address. -/
def kd (six : Bool) : Int := if six then 2 else 1

set_option maxHeartbeats 1000000 in
/-- ether.told. -/
theorem told_any (a0 a1 a2 a3 a4 a5 : Int) (w : World) :
    Calls Tryd.prog 42 #[.agg #[.int .u8 a0, .int .u8 a1, .int .u8 a2, .int .u8 a3, .int .u8 a4, .int .u8 a5]] w fun e w' => e = .returned (.tuple #[.agg #[.int .u8 a0, .int .u8 a1, .int .u8 a2, .int .u8 a3, .int .u8 a4, .int .u8 a5], .bool (!((a0 == 0) && (a1 == 0) && (a2 == 0) && (a3 == 0) && (a4 == 0) && (a5 == 0)))]) ∧ Below w.heap.size w w' := by
  go_enter Tryd.func42, Tryd.ntmps42
  go_wp2
  go_region
  go_wp2
  exact bodyPost_ret (v := .tuple #[.agg #[.int .u8 a0, .int .u8 a1, .int .u8 a2, .int .u8 a3, .int .u8 a4, .int .u8 a5], .bool (!((a0 == 0) && (a1 == 0) && (a2 == 0) && (a3 == 0) && (a4 == 0) && (a5 == 0)))]) (by simp [results, Tryd.results42, go_sem]) rfl ⟨rfl, below_drew (((Below.refl _ _).alloc (Nat.le_refl _) _).alloc (by simp) _)⟩

theorem below_cells6 {B : Nat} {w W : World} (h : Below B w W) {v0 v1 v2 v3 v4 v5 : Value} :
    Below B w ((((((W.setCell ⟨B, 0, none⟩ v0).setCell ⟨B, 1, none⟩ v1).setCell ⟨B, 2, none⟩ v2).setCell ⟨B, 3, none⟩ v3).setCell ⟨B, 4, none⟩ v4).setCell ⟨B, 5, none⟩ v5) :=
  (((((h.setCell (Nat.le_refl _) _).setCell (Nat.le_refl _) _).setCell (Nat.le_refl _) _).setCell (Nat.le_refl _) _).setCell (Nat.le_refl _) _).setCell (Nat.le_refl _) _

end Go.Proofs.YtdoefjhdipkkeaaDoor.E
