/-
  What RotateLeft64 and the reference's left do: a number of 64 bits turned left.
-/
import Derived.Test.YtondjponengedaaRows
import Derived.Test.YtondjponengedaaMath
import Derived.WalkKit
import Derived.WalkSpells
import Derived.WalkSmall
import Derived.BigQuiet
import Derived.Deep.QuietTactic
import Derived.Deep.Draws
import Derived.Deep.LoopGhost
import Derived.WalkMore
import Derived.Lib.Hide
namespace Go.Proofs.Ytondjponengedaa
open Go.RowKit

theorem ret_int {k : IntKind} {a b : Int} (h : a = b) : Ending.returned (.int k a) = .returned (.int k b) := by rw [h]
theorem ret_bool {a b : Bool} (h : a = b) : Ending.returned (.bool a) = .returned (.bool b) := by rw [h]
theorem info5 : (Try.prog.info? 5).map (fun i => (i.zero, i.size, i.bytes)) = some (some (.int .u8 0), 1, 1) := by kernel_rfl
theorem below_drewN {B : Nat} {a w : World} (h : Below B a w) (n : Nat) : Below B a (w.drewN n) := ⟨h.os, h.tape, h.output, h.size, h.block⟩
theorem below_drew {B : Nat} {a w : World} (h : Below B a w) : Below B a w.drew := ⟨h.os, h.tape, h.output, h.size, h.block⟩
theorem below_alloc {w W : World} (h : Below w.heap.size w W) (o : Obj) : Below w.heap.size w (W.alloc o) := h.alloc h.size o
theorem below_then {w W w1 : World} {B : Nat} (h : Below B w W) (hB : B ≤ W.heap.size) (hb : Below W.heap.size W w1) : Below B w w1 := h.trans (hb.mono hB)
theorem bcell {W w1 : World} (hb : Below W.heap.size W w1) : (∀ b o, b < W.heap.size → w1.cell? ⟨b, o, none⟩ = W.cell? ⟨b, o, none⟩) ∧ (∀ b o, b < W.heap.size → w1.frozen? ⟨b, o, none⟩ = W.frozen? ⟨b, o, none⟩) :=
  ⟨fun b o h => hb.cell (p := ⟨b, o, none⟩) h, fun b o h => hb.frozen (p := ⟨b, o, none⟩) h⟩

theorem u64_join (a b : Int) (k : Nat) (ha : 0 ≤ a ∧ a < 18446744073709551616) (hb : 0 ≤ b ∧ b < 18446744073709551616) (h1 : a % ((2 ^ k : Nat) : Int) = 0) (h2 : b < ((2 ^ k : Nat) : Int)) : bits BinOp.or IntKind.u64 a b = a + b := by
  rw [u64_or a b ha.1 ha.2 hb.1 hb.2]
  obtain ⟨x, rfl⟩ := Int.eq_ofNat_of_zero_le ha.1
  obtain ⟨y, rfl⟩ := Int.eq_ofNat_of_zero_le hb.1
  rw [Int.toNat_natCast, Int.toNat_natCast, nat_join k x y (by omega) (by omega)]
  omega

set_option maxHeartbeats 400000 in
theorem rot13 (x : Int) (w : World) (hx : U x) : Calls Try.prog 95 #[.int .u64 x, .int .i64 13] w fun e w' => e = .returned (.int .u64 (rl x 13)) ∧ w = w' := by
  have hr := rl_c13 x hx
  unfold U at hx
  have hj := u64_join (x * 8192 % 18446744073709551616) (x / 2251799813685248) 13 (by omega) (by omega) (by omega) (by omega)
  have h63 : bits BinOp.and IntKind.u64 13 63 = 13 := by kernel_rfl
  go_enter Try.func95, Try.ntmps95
  go_wp2
  go_ret
  refine ⟨ret_int ?_, rfl⟩
  rw [IntKind.wrap_u64, hj, hr]

set_option maxHeartbeats 400000 in
theorem rot16 (x : Int) (w : World) (hx : U x) : Calls Try.prog 95 #[.int .u64 x, .int .i64 16] w fun e w' => e = .returned (.int .u64 (rl x 16)) ∧ w = w' := by
  have hr := rl_c16 x hx
  unfold U at hx
  have hj := u64_join (x * 65536 % 18446744073709551616) (x / 281474976710656) 16 (by omega) (by omega) (by omega) (by omega)
  have h63 : bits BinOp.and IntKind.u64 16 63 = 16 := by kernel_rfl
  go_enter Try.func95, Try.ntmps95
  go_wp2
  go_ret
  refine ⟨ret_int ?_, rfl⟩
  rw [IntKind.wrap_u64, hj, hr]

set_option maxHeartbeats 400000 in
theorem rot17 (x : Int) (w : World) (hx : U x) : Calls Try.prog 95 #[.int .u64 x, .int .i64 17] w fun e w' => e = .returned (.int .u64 (rl x 17)) ∧ w = w' := by
  have hr := rl_c17 x hx
  unfold U at hx
  have hj := u64_join (x * 131072 % 18446744073709551616) (x / 140737488355328) 17 (by omega) (by omega) (by omega) (by omega)
  have h63 : bits BinOp.and IntKind.u64 17 63 = 17 := by kernel_rfl
  go_enter Try.func95, Try.ntmps95
  go_wp2
  go_ret
  refine ⟨ret_int ?_, rfl⟩
  rw [IntKind.wrap_u64, hj, hr]

set_option maxHeartbeats 400000 in
theorem rot21 (x : Int) (w : World) (hx : U x) : Calls Try.prog 95 #[.int .u64 x, .int .i64 21] w fun e w' => e = .returned (.int .u64 (rl x 21)) ∧ w = w' := by
  have hr := rl_c21 x hx
  unfold U at hx
  have hj := u64_join (x * 2097152 % 18446744073709551616) (x / 8796093022208) 21 (by omega) (by omega) (by omega) (by omega)
  have h63 : bits BinOp.and IntKind.u64 21 63 = 21 := by kernel_rfl
  go_enter Try.func95, Try.ntmps95
  go_wp2
  go_ret
  refine ⟨ret_int ?_, rfl⟩
  rw [IntKind.wrap_u64, hj, hr]

set_option maxHeartbeats 400000 in
theorem rot32 (x : Int) (w : World) (hx : U x) : Calls Try.prog 95 #[.int .u64 x, .int .i64 32] w fun e w' => e = .returned (.int .u64 (rl x 32)) ∧ w = w' := by
  have hr := rl_c32 x hx
  unfold U at hx
  have hj := u64_join (x * 4294967296 % 18446744073709551616) (x / 4294967296) 32 (by omega) (by omega) (by omega) (by omega)
  have h63 : bits BinOp.and IntKind.u64 32 63 = 32 := by kernel_rfl
  go_enter Try.func95, Try.ntmps95
  go_wp2
  go_ret
  refine ⟨ret_int ?_, rfl⟩
  rw [IntKind.wrap_u64, hj, hr]

theorem st_wrap (n : Int) : IntKind.u64.wrap (IntKind.u64.wrap (n * 2) + n / 9223372036854775808) = st n := by
  rw [IntKind.wrap_u64, IntKind.wrap_u64]; rfl

set_option maxHeartbeats 400000 in
/-- outriderref07.left. -/
theorem left_any (x : Int) (k : Nat) (w : World) (hx : U x) (hk : k ≤ 64) : Calls Try.prog 85 #[.int .u64 x, .int .i64 k] w fun e w' => e = .returned (.int .u64 (rl x k)) ∧ w = w' := by
  have HX := Lib.hid (fun j => rl_u hx j)
  clear hx
  go_enter Try.func85, Try.ntmps85
  go_wp2
  go_loopg [0, 5] k (fun gg n i wr => ∃ j : Nat, j + gg = k ∧ n = .int .u64 (rl x j) ∧ i = .int .i64 j ∧ wr = w)
  case atStart => exact ⟨0, by omega, by rw [rl_zero], rfl, rfl⟩
  case round =>
    obtain ⟨j, hj, rfl, rfl, rfl⟩ := hrel
    obtain ⟨n, hn⟩ : ∃ n, n = rl x j := ⟨_, rfl⟩
    have hu : U n := by rw [hn]; exact HX.out j
    have HN := Lib.hid hn
    rw [← hn]
    unfold U at hu
    clear hn
    rcases gk with _ | og
    · have hkl : ¬ (j : Int) < (k : Int) := by omega
      go_wp2
      try rw [Exit.noGoto_ret]
      go_ret
      obtain rfl : j = k := by omega
      exact ⟨ret_int HN.out, rfl⟩
    · have hkl : (j : Int) < (k : Int) := by omega
      go_wp2
      go_roundg og
      case measure => omega
      case rel =>
        refine ⟨j + 1, by omega, ?_, by simp, rfl⟩
        rw [rl_succ, ← HN.out, ← st_wrap]

end Go.Proofs.Ytondjponengedaa
