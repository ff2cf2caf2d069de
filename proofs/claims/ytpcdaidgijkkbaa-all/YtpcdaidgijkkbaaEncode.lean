/-
  What ipv.Encode does.
-/
import Derived.Test.YtpcdaidgijkkbaaEnc
namespace Go.Proofs.Ytpcdaidgijkkbaa
open Go.RowKit
set_option linter.unusedVariables false

/-- A callee that leaves the world as it is, inside a quiet region. -/
theorem quiet_same {f : FuncId} {args : Array Value} {w : World} {n : Nat} {v : Value} (h : Calls Try.prog f args (w.drewN n) fun e w' => e = .returned v ∧ w.drewN n = w') : Calls Try.prog f args (w.drewN n) fun e w'' => e = .returned v ∧ ∃ m, w'' = w.drewN m :=
  h.mono fun _ _ ⟨he, hm⟩ => ⟨he, n, hm.symm⟩
theorem alike_at {s t : ByteArray} {r : Bool} {w : World} (hs : s.size ≤ 140737488351232) (ht : t.size ≤ 140737488351232) (h : alikeB s t = r) :
    Calls Try.prog 72 #[.string s, .string t] w fun e w' => e = .returned (.bool r) ∧ w = w' := by subst h; exact alike_any s t w hs ht
theorem six_at {s : ByteArray} {r : Bool} {w : World} (hs : s.size ≤ 140737488351232) (h : decide (s.size = 16) = r) : Calls Try.prog 54 #[.string s] w fun e w' => e = .returned (.bool r) ∧ w = w' := by subst h; exact six_any s w hs

/-- The packet may be written. -/
def Okp (f t : ByteArray) (p l : Int) (s : ByteArray) : Prop := alikeB f t = true ∧ byteB p = true ∧ byteB l = true ∧ (s.size : Int) ≤ 1500 - headI f
/-- What is written. -/
def wire (f t : ByteArray) (p l : Int) (s : ByteArray) : List Int := if f.size = 16 then wire6 f t p l s else wire4 f t p l s

end Go.Proofs.Ytpcdaidgijkkbaa
