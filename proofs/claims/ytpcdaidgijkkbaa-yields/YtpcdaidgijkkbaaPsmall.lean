/-
  What the small functions of ports do: hasPorts, isPort, mayFlag, isFour, bothFour, bothSix, two, Turn.
-/
import Derived.Test.YtpcdaidgijkkbaaPlib
namespace Go.Proofs.Ytpcdaidgijkkbaa
open Go.RowKit
set_option linter.unusedVariables false
set_option maxRecDepth 40000

def portsB (p : Int) : Bool := decide (p = 6 ∨ p = 17)
def portB (p : Int) : Bool := decide (0 ≤ p ∧ p ≤ 65535)
def flagB (p l : Int) : Bool := decide (if p = 17 then l = 0 else 0 ≤ l ∧ l ≤ 63)
def four2 (f t : ByteArray) : Bool := decide (f.size = 4 ∧ t.size = 4)
def six2 (f t : ByteArray) : Bool := decide (f.size = 16 ∧ t.size = 16)
/-- One byte of a text, 0 where there is none. -/
def byteAt (bs : List Int) (k : Nat) : Int := bs[k]?.getD 0
/-- Two of them, as a number. -/
def twoAt (bs : List Int) (k : Nat) : Int := byteAt bs k * 256 + byteAt bs (k + 1)
theorem byteAt_bd {bs : List Int} (h : Byt bs) (k : Nat) : 0 ≤ byteAt bs k ∧ byteAt bs k ≤ 255 := h.get k
theorem twoAt_bd {bs : List Int} (h : Byt bs) (k : Nat) : 0 ≤ twoAt bs k ∧ twoAt bs k ≤ 65535 := by
  have h1 := byteAt_bd h k
  have h2 := byteAt_bd h (k + 1)
  unfold twoAt
  omega
theorem byteAt_text (s : ByteArray) (k : Nat) (h : k < s.size) : byteAt (bts s) k = (s[k].toNat : Int) := by
  have hl : k < (bts s).length := by rw [bts_len]; exact h
  rw [byteAt, List.getElem?_eq_getElem hl]
  simp [bts]
  rfl

end Go.Proofs.Ytpcdaidgijkkbaa
