/-
  What outriderref05.number does.
-/
import Derived.Test.YtomcniakffipfaaDoorRqno
namespace Go.Proofs.YtomcniakffipfaaDoor
open Go.RowKit
set_option linter.unusedVariables false
set_option maxRecDepth 10000

set_option maxHeartbeats 400000 in
/-- outriderref05.number. -/
theorem number_at {s : ByteArray} {x : Int} {w : World} (hs : s.size = 2) (hx : twoAt (bts s) 0 = x) :
    Calls Tryd.prog 23 #[.string s] w fun e w' => e = .returned (.int .i64 x) ∧ ∃ q, w' = w.drewN q := by
  have e1 := byteAt_text s 0 (by omega)
  have e2 := byteAt_text s 1 (by omega)
  obtain ⟨x0, g0⟩ : ∃ x0, x0 = ((s[0]'(by omega)).toNat : Int) := ⟨_, rfl⟩
  obtain ⟨x1, g1⟩ : ∃ x1, x1 = ((s[1]'(by omega)).toNat : Int) := ⟨_, rfl⟩
  have b0 : 0 ≤ x0 ∧ x0 ≤ 255 := by rw [g0]; exact byte_le _
  have b1 : 0 ≤ x1 ∧ x1 ≤ 255 := by rw [g1]; exact byte_le _
  have HX := Lib.hid (show x0 * 256 + x1 = x by rw [← hx, twoAt, e1, e2, g0, g1])
  have h0 : ((s[0]'(by omega)).toNat : Int) = x0 := g0.symm
  have h1 : ((s[1]'(by omega)).toNat : Int) = x1 := g1.symm
  have w1 : IntKind.i64.wrap x0 = x0 := by rw [IntKind.wrap_i64]; omega
  have w2 : IntKind.i64.wrap x1 = x1 := by rw [IntKind.wrap_i64]; omega
  have w3 : IntKind.i64.wrap (x0 * 256) = x0 * 256 := by rw [IntKind.wrap_i64]; omega
  have w4 : IntKind.i64.wrap (x0 * 256 + x1) = x0 * 256 + x1 := by rw [IntKind.wrap_i64]; omega
  have i0 : (0 : Int) < (s.size : Int) := by omega
  have i1 : (1 : Int) < (s.size : Int) := by omega
  clear e1 e2 hx g0 g1
  go_enter Tryd.func23, Tryd.ntmps23
  go_wp2_with fail
  go_quiet (fail)
  go_wp2
  go_ret
  exact ⟨ret_int HX.out, _, rfl⟩
theorem twoAt_seg (s : ByteArray) (k j : Nat) (hj : k + 2 ≤ j) (h : j ≤ s.size) : twoAt (bts (s.extract k j)) 0 = twoAt (bts s) k := by
  rw [bts_extract, twoAt, twoAt, byteAt, byteAt, byteAt, byteAt, List.getElem?_take, if_pos (by omega), List.getElem?_take, if_pos (by omega), List.getElem?_drop, List.getElem?_drop]
  rfl

end Go.Proofs.YtomcniakffipfaaDoor
