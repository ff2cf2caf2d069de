/-
  How long what ipv.Decode tells is.
-/
import Derived.Test.YtdoefjhdipkkeaaDoorReadBase
namespace Go.Proofs.YtdoefjhdipkkeaaDoor
open Go.RowKit
set_option linter.unusedVariables false
set_option maxRecDepth 10000


theorem and_tab : ∀ n < 256, ((n &&& 64 : Nat) != 0) = decide (n / 64 % 2 = 1) := by decide
theorem and_64 (a : Int) (h : 0 ≤ a ∧ a ≤ 255) : (bits BinOp.and IntKind.u8 a 64 != 0) = decide (a / 64 % 2 = 1) := by
  rw [u8_and a 64 h.1 (by omega) (by omega) (by omega)]
  have := and_tab a.toNat (by omega)
  rw [Bool.eq_iff_iff] at this ⊢
  simp only [bne_iff_ne, ne_eq, decide_eq_true_eq] at this ⊢
  have e : ((64 : Int)).toNat = 64 := rfl
  rw [e]
  omega
theorem below_left {B : Nat} {a w : World} (h : Below B a.drew w) : Below B a w := ⟨h.os, h.tape, h.output, h.size, h.block⟩
theorem seg_le (bs : List Int) (k n : Nat) : (seg bs k n).size ≤ n ∧ (seg bs k n).size ≤ bs.length := by
  rw [seg, strOfNums_size, List.length_take, List.length_drop]; omega
theorem dec_sizes (bs : List Int) : (dec bs).1.f.size ≤ 16 ∧ (dec bs).1.t.size ≤ 16 ∧ (dec bs).1.s.size ≤ bs.length ∧ ((dec bs).1.f.size = 16 → (dec bs).1.t.size = 16) := by
  have z : Pk.zero.f.size ≤ 16 ∧ Pk.zero.t.size ≤ 16 ∧ Pk.zero.s.size ≤ bs.length ∧ (Pk.zero.f.size = 16 → Pk.zero.t.size = 16) := ⟨by decide, by decide, Nat.zero_le _, by decide⟩
  unfold dec
  split
  · exact z
  split
  · unfold dec6
    split
    · exact z
    split
    · exact z
    · rename_i h1 h2
      exact ⟨(seg_le _ _ _).1, (seg_le _ _ _).1, (seg_le _ _ _).2, fun _ => seg_len _ _ _ (by omega)⟩
  split
  · unfold dec4
    split
    · exact z
    split
    · exact z
    split
    · exact z
    split
    · exact z
    split
    · exact z
    · refine ⟨Nat.le_trans (seg_le _ _ _).1 (by omega), Nat.le_trans (seg_le _ _ _).1 (by omega), (seg_le _ _ _).2, fun h => ?_⟩
      have := (seg_le bs 12 4).1
      simp only at h
      omega
  · exact z

end Go.Proofs.YtdoefjhdipkkeaaDoor
