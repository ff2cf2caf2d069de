/-
  An advertisement of which one byte of the body, or of who sent it, is another one is refused.
-/
import Derived.Test.YthhomfchoomelaaAalive
import Derived.Test.YthhomfchoomelaaAsame
namespace Go.Proofs.Ythhomfchoomelaa
open Go.RowKit
set_option linter.unusedVariables false
set_option maxRecDepth 10000

/-- One byte of a list is another one. -/
theorem tot_set : ∀ (l : List Int) (k : Nat) (y : Int), k < l.length → tot (l.set k y) = tot l + (y - l[k]?.getD 0) * (if k % 2 = 0 then 256 else 1)
  | [], k, y, h => by simp at h
  | [a], k, y, h => by
    have : k = 0 := by simp at h; exact h
    subst this
    simp [tot]; omega
  | a :: b :: r, 0, y, h => by simp [tot]; omega
  | a :: b :: r, 1, y, h => by simp [tot]; omega
  | a :: b :: r, k + 2, y, h => by
    have ih := tot_set r k y (by simp at h; omega)
    simp only [List.set_cons_succ, tot, ih, List.getElem?_cons_succ]
    rw [show (k + 2) % 2 = k % 2 by omega]
    omega
theorem xor_byte (x y : Int) (hx : 0 ≤ x ∧ x ≤ 255) (hy : 1 ≤ y ∧ y ≤ 255) : ∃ z, bits BinOp.xor IntKind.u8 x y = z ∧ (0 ≤ z ∧ z ≤ 255) ∧ z ≠ x := by
  refine ⟨_, rfl, ?_⟩
  rw [u8_xor x y hx.1 (by omega) (by omega) (by omega)]
  have hlt : x.toNat ^^^ y.toNat < 2 ^ 8 := Nat.xor_lt_two_pow (by omega) (by omega)
  refine ⟨by omega, fun h => ?_⟩
  have h2 : x.toNat ^^^ y.toNat = x.toNat := by omega
  have h3 : y.toNat = 0 := by
    have := congrArg (fun n => x.toNat ^^^ n) h2
    simpa [← Nat.xor_assoc] using this
  omega
theorem sum_turn (B : List Int) (k : Nat) (z : Int) (hk : k < B.length) (hB : Byt B) (hz : 0 ≤ z ∧ z ≤ 255) (hne : z ≠ byteAt B k) (hg : fd (tot B) = 65535) : fd (tot (B.set k z)) ≠ 65535 := by
  intro h
  rw [tot_set B k z hk] at h
  have hb := byteAt_bd hB k
  have e : B[k]?.getD 0 = byteAt B k := rfl
  rw [e] at h
  have m1 := @fd_mod (tot B)
  have m2 := @fd_mod (tot B + (z - byteAt B k) * (if k % 2 = 0 then 256 else 1))
  rw [hg] at m1
  rw [h] at m2
  split at m2 <;> omega
theorem byt_set {l : List Int} (h : Byt l) (k : Nat) {z : Int} (hz : 0 ≤ z ∧ z ≤ 255) : Byt (l.set k z) := fun q hq => by
  rcases List.mem_or_eq_of_mem_set hq with hq | rfl
  · exact h q hq
  · exact hz


section
variable {f : ByteArray} {i p e : Int} {ss : List ByteArray}
theorem amiss_turned_body (h : okA f i p e ss = true) (k : Nat) (z : Int) (hk : k < (bodyS f i p e ss).size) (hz : 0 ≤ z ∧ z ≤ 255) (hne : z ≠ byteAt (bts (bodyS f i p e ss)) k) :
    amiss f (toA f) 112 255 (strOfNums ((bts (bodyS f i p e ss)).set k z)) ≠ 0 := by
  intro h0
  have h6 := (amiss_ok h0).2.2.2.2.2.1
  have hg := wire_good h
  have hB := wire_byt h
  have hzz := bodyS_size h
  rw [bodyS_bts h] at h6 hne
  have hl := wire_len h
  simp only [am6, decide_eq_false_iff_not, ne_eq, Decidable.not_not] at h6
  rw [bts_strOfNums (byt_set hB k hz), strOfNums_size, List.length_set, hl] at h6
  have hP := psx_even f (toA f) 112 ((8 + ss.length * f.size : Nat) : Int)
  have hPb := psx_byt f (toA f) 112 ((8 + ss.length * f.size : Nat) : Int)
  generalize psx f (toA f) 112 ((8 + ss.length * f.size : Nat) : Int) = P at hg hP hPb h6
  generalize wireA f i p e ss = L at hg hB hl hne h6
  have e1 : P ++ L.set k z = (P ++ L).set (P.length + k) z := by
    rw [List.set_append_right _ _ (by omega)]
    congr 2
    omega
  rw [e1] at h6
  refine sum_turn (P ++ L) (P.length + k) z (by simp; omega) (hPb.append hB) hz ?_ hg h6
  rw [byteAt, List.getElem?_append_right (by omega), show P.length + k - P.length = k by omega]
  exact hne
theorem amiss_turned_from (h : okA f i p e ss = true) (k : Nat) (z : Int) (hk : k < f.size) (hz : 0 ≤ z ∧ z ≤ 255) (hne : z ≠ byteAt (bts f) k) :
    amiss (strOfNums ((bts f).set k z)) (toA f) 112 255 (bodyS f i p e ss) ≠ 0 := by
  intro h0
  have h6 := (amiss_ok h0).2.2.2.2.2.1
  have hg := wire_good h
  have hB := wire_byt h
  have hal := alike_to h
  have hfz : (strOfNums ((bts f).set k z)).size = f.size := by rw [strOfNums_size, List.length_set, bts_len]
  have hal' : alikeB (strOfNums ((bts f).set k z)) (toA f) = true := by
    simp only [alikeB, rightB, hfz] at hal ⊢
    exact hal
  simp only [am6, decide_eq_false_iff_not, ne_eq, Decidable.not_not] at h6
  rw [bodyS_bts h, bodyS_size h] at h6
  have e0 : psx (strOfNums ((bts f).set k z)) (toA f) 112 ((8 + ss.length * f.size : Nat) : Int) = (psx f (toA f) 112 ((8 + ss.length * f.size : Nat) : Int)).set k z := by
    rw [psx, psx, if_pos hal', if_pos hal, pseu, pseu, hfz, bts_strOfNums (byt_set (bts_byt f) k hz)]
    split
    · rw [List.set_append_left _ _ (by rw [bts_len]; exact hk)]
    · rw [List.set_append_left _ _ (by rw [bts_len]; exact hk)]
  have hx : byteAt (psx f (toA f) 112 ((8 + ss.length * f.size : Nat) : Int)) k = byteAt (bts f) k := by
    rw [psx, if_pos hal, pseu]
    split
    · rw [byteAt, List.getElem?_append_left (by rw [bts_len]; exact hk)]; rfl
    · rw [byteAt, List.getElem?_append_left (by rw [bts_len]; exact hk)]; rfl
  have hln : k < (psx f (toA f) 112 ((8 + ss.length * f.size : Nat) : Int)).length := by
    rw [psx, if_pos hal, pseu]
    split
    · simp [bts_len]; omega
    · simp [bts_len]; omega
  rw [e0] at h6
  have hPb := psx_byt f (toA f) 112 ((8 + ss.length * f.size : Nat) : Int)
  generalize psx f (toA f) 112 ((8 + ss.length * f.size : Nat) : Int) = P at hg hPb hx hln h6
  generalize wireA f i p e ss = L at hg hB h6
  rw [← List.set_append_left k z hln] at h6
  refine sum_turn (P ++ L) k z (by simp; omega) (hPb.append hB) hz ?_ hg h6
  rw [byteAt, List.getElem?_append_left hln]
  rw [byteAt] at hx
  rw [hx]
  exact hne
end

end Go.Proofs.Ythhomfchoomelaa
