/-
  What the first twenty bytes of a packet are to IpvSums.
-/
import Derived.Test.YtindajjcekgjeaaFrameF
namespace Go.Proofs.Ytindajjcekgjeaa
open Go.ChangeShapes Go.WideShapes Go.ChangeAt Go.RowKit
set_option linter.unusedVariables false

/-- Of what was written, of version 4, the first twenty bytes are good. -/
theorem wire_good {f t s : ByteArray} {p l : Int} (h : Okp f t p l s) (h6 : f.size ≠ 16) : fd (tot ((wire f t p l s).take 20)) = 65535 := by
  obtain ⟨h1, h2, h3, h4⟩ := id h
  simp [alikeB, rightB] at h1
  simp [byteB] at h2 h3
  have hf4 : f.size = 4 := by omega
  have ht4 : t.size = 4 := by omega
  have e : (wire f t p l s).take 20 = head4 s.size p l (sum4 s.size p l f t / 256) (sum4 s.size p l f t % 256) f t := by
    unfold wire
    rw [if_neg h6]
    unfold wire4
    have hl := head4_len s.size p l (sum4 s.size p l f t / 256) (sum4 s.size p l f t % 256) f t hf4 ht4
    generalize head4 s.size p l (sum4 s.size p l f t / 256) (sum4 s.size p l f t % 256) f t = hd at hl ⊢
    rw [← hl, List.take_left]
  rw [e]
  exact good_head4 _ _ _ _ _ h2 h3


end Go.Proofs.Ytindajjcekgjeaa
