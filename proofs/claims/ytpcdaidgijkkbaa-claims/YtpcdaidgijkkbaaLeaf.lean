/-
  What the small functions of ipv, of cksum and of the references do: fold, added, pair, two, Six, Right, alike, isByte, headOf.
-/
import Derived.Test.YtpcdaidgijkkbaaRows
import Derived.Test.YtpcdaidgijkkbaaMath
import Derived.WalkKit
import Derived.WalkSpells
import Derived.WalkSmall
import Derived.WalkMore
import Derived.BigQuiet
import Derived.Deep.QuietTactic
import Derived.Deep.Draws
import Derived.Lib.Hide
import Derived.Laws.BitsAllLaws
import Derived.Laws.BitsLemmas
import Derived.Below
import Derived.DeepKeys
namespace Go.Proofs.Ytpcdaidgijkkbaa
open Go.RowKit
set_option linter.unusedVariables false

theorem ret_int {k : IntKind} {a b : Int} (h : a = b) : Ending.returned (.int k a) = .returned (.int k b) := by rw [h]
theorem ret_bool {a b : Bool} (h : a = b) : Ending.returned (.bool a) = .returned (.bool b) := by rw [h]
theorem below_drew {B : Nat} {a w : World} (h : Below B a w) : Below B a w.drew := ⟨h.os, h.tape, h.output, h.size, h.block⟩
theorem below_alloc {w W : World} (h : Below w.heap.size w W) (o : Obj) : Below w.heap.size w (W.alloc o) := h.alloc h.size o
theorem below_then {w W w1 : World} {B : Nat} (h : Below B w W) (hB : B ≤ W.heap.size) (hb : Below W.heap.size W w1) : Below B w w1 := h.trans (hb.mono hB)
theorem bcell {W w1 : World} (hb : Below W.heap.size W w1) : (∀ b o, b < W.heap.size → w1.cell? ⟨b, o, none⟩ = W.cell? ⟨b, o, none⟩) ∧ (∀ b o, b < W.heap.size → w1.frozen? ⟨b, o, none⟩ = W.frozen? ⟨b, o, none⟩) :=
  ⟨fun b o h => hb.cell (p := ⟨b, o, none⟩) h, fun b o h => hb.frozen (p := ⟨b, o, none⟩) h⟩
theorem info5 : (Try.prog.info? 5).map (fun i => (i.zero, i.size, i.bytes)) = some (some (.int .u8 0), 1, 1) := by kernel_rfl

set_option maxHeartbeats 400000 in
/-- outriderref01.added. -/
theorem added_any (n : Int) (w : World) (h0 : 0 ≤ n) (h1 : n ≤ 9223372036854775807) :
    Calls Try.prog 74 #[.int .i64 n] w fun e w' => e = .returned (.int .i64 (fd n)) ∧ w = w' := by
  go_enter Try.func74, Try.ntmps74
  go_wp2
  go_loop [0] (fun t => ∃ m : Int, 0 ≤ m ∧ m ≤ n ∧ Hid (fd m = fd n) ∧ t = .int .i64 m) (fun t => (intOf t).toNat)
  case atStart => exact ⟨n, h0, Int.le_refl _, Lib.hid rfl, rfl⟩
  case round =>
    obtain ⟨m, hm0, hm1, hf, rfl⟩ := hrel
    by_cases hlt : 65535 < m
    · go_wp2
      go_round
      case rel => exact ⟨m % 65536 + m / 65536, by omega, by omega, Lib.hid ((fd_step' hlt).trans hf.out), rfl⟩
      case measure => simp [intOf]; omega
    · go_wp2
      go_ret
      exact ⟨ret_int ((fd_small hm0 (by omega)).symm.trans hf.out), rfl⟩

theorem and_low (m : Int) (h0 : 0 ≤ m) (h1 : m ≤ 14000000000000000000) : bits BinOp.and IntKind.u64 m 65535 = m % 65536 := by
  rw [u64_and m 65535 h0 (by omega) (by omega) (by omega)]
  have e : ((65535 : Int)).toNat = 65535 := rfl
  rw [e, nat_mask16]; omega
theorem or_two (a b : Int) (h0 : 0 ≤ a ∧ a ≤ 255) (h1 : 0 ≤ b ∧ b ≤ 255) : bits BinOp.or IntKind.u16 (a * 256) b = a * 256 + b := by
  rw [u16_or _ _ (by omega) (by omega) (by omega) (by omega), nat_join 8 _ _ (by omega) (by omega)]; omega

set_option maxHeartbeats 400000 in
/-- cksum.fold. -/
theorem fold_any (n : Int) (w : World) (h0 : 0 ≤ n) (h1 : n ≤ 14000000000000000000) :
    Calls Try.prog 71 #[.int .u64 n] w fun e w' => e = .returned (.int .u16 (fd n)) ∧ w = w' := by
  go_enter Try.func71, Try.ntmps71
  go_wp2
  go_loop [0] (fun t => ∃ m : Int, 0 ≤ m ∧ m ≤ n ∧ Hid (fd m = fd n) ∧ t = .int .u64 m) (fun t => (intOf t).toNat)
  case atStart => exact ⟨n, h0, Int.le_refl _, Lib.hid rfl, rfl⟩
  case round =>
    obtain ⟨m, hm0, hm1, hf, rfl⟩ := hrel
    by_cases hlt : 65535 < m
    · have ha := and_low m hm0 (by omega)
      go_wp2
      go_round
      case rel => exact ⟨m / 65536 + m % 65536, by omega, by omega, Lib.hid ((fd_step hlt).trans hf.out), rfl⟩
      case measure => simp [intOf]; omega
    · go_wp2
      go_ret
      exact ⟨ret_int ((fd_small hm0 (by omega)).symm.trans hf.out), rfl⟩

theorem not_u16 (s : Int) (h : 0 ≤ s ∧ s ≤ 65535) : bits BinOp.xor IntKind.u16 IntKind.u16.max s = 65535 - s := by
  have hm : IntKind.u16.max = 65535 := rfl
  rw [hm, u16_xor _ _ (by omega) (by omega) h.1 (by omega)]
  have e : ((65535 : Int)).toNat = 2 ^ 16 - 1 := rfl
  have k : 65535 - s.toNat = (BitVec.allOnes 16 ^^^ BitVec.ofNat 16 s.toNat).toNat := by
    rw [BitVec.allOnes_xor, BitVec.toNat_not, BitVec.toNat_ofNat]; omega
  rw [BitVec.toNat_xor, BitVec.toNat_allOnes, BitVec.toNat_ofNat, Nat.mod_eq_of_lt (by omega)] at k
  rw [e, ← k]; omega

set_option maxHeartbeats 400000 in
/-- cksum.pair. -/
theorem pair_any (b off n c : Nat) (x y : Int) (w : World) (hn : 2 ≤ n) (hx : 0 ≤ x ∧ x ≤ 255) (hy : 0 ≤ y ∧ y ≤ 255)
    (h0 : w.cell? ⟨b, off, none⟩ = some (.int .u8 x)) (h1 : w.cell? ⟨b, off + 1, none⟩ = some (.int .u8 y)) :
    Calls Try.prog 70 #[.slice (some ⟨b, off, none⟩) n c] w fun e w' => e = .returned (.int .u16 (x * 256 + y)) ∧ ∃ k, w' = w.drewN k := by
  have ho := or_two x y hx hy
  have hi0 : (0 : Int) < (n : Int) := by omega
  have hi1 : (1 : Int) < (n : Int) := by omega
  go_enter Try.func70, Try.ntmps70
  go_wp2
  go_quiet (fail)
  go_wp2
  go_ret
  exact ⟨rfl, _, rfl⟩

/-- Two bytes as one number, the higher one first. -/
theorem or_type (a b : Int) (ha : 0 ≤ a ∧ a ≤ 255) (hb : 0 ≤ b ∧ b ≤ 255) : bits BinOp.or IntKind.i64 (a * 256) b = a * 256 + b := by
  obtain ⟨x, rfl⟩ := Int.eq_ofNat_of_zero_le ha.1
  obtain ⟨y, rfl⟩ := Int.eq_ofNat_of_zero_le hb.1
  have e : (x : Int) * 256 = ((x * 256 : Nat) : Int) := by omega
  have h : (BitVec.ofNat 64 (x * 256) ||| BitVec.ofNat 64 y).toNat = x * 256 + y := by
    rw [BitVec.toNat_or, BitVec.toNat_ofNat, BitVec.toNat_ofNat, Nat.mod_eq_of_lt (by omega), Nat.mod_eq_of_lt (by omega), nat_join 8 _ _ (by omega) (by omega)]
  rw [e]
  show IntKind.i64.wrap ((BitVec.ofInt 64 ((x * 256 : Nat) : Int) ||| BitVec.ofInt 64 (y : Int)).toNat : Int) = _
  rw [BitVec.ofInt_natCast, BitVec.ofInt_natCast, h, IntKind.wrap_i64]
  omega

set_option maxHeartbeats 400000 in
/-- ipv.Six. -/
theorem six_any (s : ByteArray) (w : World) (hs : s.size ≤ 140737488351232) :
    Calls Try.prog 54 #[.string s] w fun e w' => e = .returned (.bool (decide (s.size = 16))) ∧ w = w' := by
  go_enter Try.func54, Try.ntmps54
  go_wp2
  go_ret
  exact ⟨ret_bool (by rw [Bool.eq_iff_iff]; simp; try omega), rfl⟩

/-- May an address be. -/
def rightB (s : ByteArray) : Bool := decide (s.size = 4 ∨ s.size = 16)

set_option maxHeartbeats 400000 in
/-- ipv.Right. -/
theorem right_any (s : ByteArray) (w : World) (hs : s.size ≤ 140737488351232) :
    Calls Try.prog 48 #[.string s] w fun e w' => e = .returned (.bool (rightB s)) ∧ w = w' := by
  by_cases h : s.size = 4
  · have h1 : decide ((s.size : Int) = 4) = true := by simp; omega
    go_enter Try.func48, Try.ntmps48
    go_wp2_with (go_at_call 54; refine (six_any _ _ hs).mono ?_; rintro e w' ⟨rfl, rfl⟩)
    go_ret
    exact ⟨ret_bool (by simp [rightB, h]), rfl⟩
  · have h1 : decide ((s.size : Int) = 4) = false := by simp; omega
    have h2 : decide (s.size = 4) = false := by simp; omega
    go_enter Try.func48, Try.ntmps48
    go_wp2_with (go_at_call 54; refine (six_any _ _ hs).mono ?_; rintro e w' ⟨rfl, rfl⟩)
    go_ret
    exact ⟨ret_bool (by rw [Bool.eq_iff_iff]; simp [rightB]; try omega), rfl⟩

set_option maxHeartbeats 400000 in
/-- outriderref03.Right. -/
theorem rright_any (s : ByteArray) (w : World) (hs : s.size ≤ 140737488351232) :
    Calls Try.prog 58 #[.string s] w fun e w' => e = .returned (.bool (rightB s)) ∧ w = w' := by
  by_cases h : s.size = 4
  · have h1 : decide ((s.size : Int) = 4) = true := by simp; omega
    go_enter Try.func58, Try.ntmps58
    go_wp2
    go_ret
    exact ⟨ret_bool (by simp [rightB, h]), rfl⟩
  · have h1 : decide ((s.size : Int) = 4) = false := by simp; omega
    have h2 : decide (s.size = 4) = false := by simp; omega
    go_enter Try.func58, Try.ntmps58
    go_wp2
    go_ret
    exact ⟨ret_bool (by rw [Bool.eq_iff_iff]; simp [rightB]; try omega), rfl⟩

/-- Both are addresses, and of one kind. -/
def alikeB (s t : ByteArray) : Bool := rightB s && decide (s.size = t.size)

set_option maxHeartbeats 400000 in
/-- ipv.alike. -/
theorem alike_any (s t : ByteArray) (w : World) (hs : s.size ≤ 140737488351232) (ht : t.size ≤ 140737488351232) :
    Calls Try.prog 72 #[.string s, .string t] w fun e w' => e = .returned (.bool (alikeB s t)) ∧ w = w' := by
  obtain ⟨r, hr⟩ : ∃ r, r = rightB s := ⟨_, rfl⟩
  have hq := right_any s w hs
  rw [← hr] at hq
  have HQ := Lib.hid hq
  have HR := Lib.hid hr
  clear hq hr
  cases r
  · go_enter Try.func72, Try.ntmps72
    go_wp2_with (go_at_call 48; refine HQ.out.mono ?_; rintro e w' ⟨rfl, rfl⟩)
    go_ret
    exact ⟨ret_bool (by simp [alikeB, ← HR.out]), rfl⟩
  · go_enter Try.func72, Try.ntmps72
    go_wp2_with (go_at_call 48; refine HQ.out.mono ?_; rintro e w' ⟨rfl, rfl⟩)
    go_ret
    exact ⟨ret_bool (by rw [Bool.eq_iff_iff]; simp [alikeB, ← HR.out]; try omega), rfl⟩

/-- One byte holds it. -/
def byteB (n : Int) : Bool := decide (0 ≤ n ∧ n ≤ 255)

/-- How many bytes stand ahead of a body. -/
def headI (s : ByteArray) : Int := if s.size = 16 then 40 else 20

end Go.Proofs.Ytpcdaidgijkkbaa
