/-
  What is read of an ND of which one byte is another one.
-/
import Derived.Test.YtdoefjhdipkkeaaDoorRdFacts
import Derived.Test.YtdoefjhdipkkeaaDoorFacts
import Derived.Test.YtdoefjhdipkkeaaDoorLBase
namespace Go.Proofs.YtdoefjhdipkkeaaDoor
open Go.RowKit
set_option linter.unusedVariables false
set_option maxRecDepth 10000


theorem set_app (l m : List Int) (n k : Nat) (z : Int) (h : l.length = n) : (l ++ m).set (n + k) z = l ++ m.set k z := by
  subst h
  rw [List.set_append, if_neg (by omega), Nat.add_sub_cancel_left]
theorem wire_set (f t : ByteArray) (B : List Int) (k : Nat) (z : Int) (hf : f.size = 16) (ht : t.size = 16) (hB : Byt B) (hz : 0 ≤ z ∧ z ≤ 255) : (wire f t 58 255 (strOfNums B)).set (40 + k) z = wire f t 58 255 (strOfNums (B.set k z)) := by
  have hs : Byt (B.set k z) := fun y hy => by
    rcases List.mem_or_eq_of_mem_set hy with hy | rfl
    · exact hB y hy
    · exact hz
  rw [wire, wire, if_pos hf, if_pos hf, wire6, wire6, bts_strOfNums hB, bts_strOfNums hs, strOfNums_size, strOfNums_size, List.length_set]
  have l1 : (bts f).length = 16 := by rw [bts_len, hf]
  have l2 : (bts t).length = 16 := by rw [bts_len, ht]
  rw [show 40 + k = 8 + (16 + (16 + k)) by omega, set_app _ _ 8 _ z rfl, set_app _ _ 16 _ z l1, set_app _ _ 16 _ z l2]
theorem ewire_set (a0 a1 a2 a3 a4 a5 m0 m1 m2 m3 m4 m5 ty : Int) (S S' : ByteArray) (k : Nat) (z : Int) (h : (bts S).set k z = bts S') : (E.wire a0 a1 a2 a3 a4 a5 m0 m1 m2 m3 m4 m5 ty S).set (14 + k) z = E.wire a0 a1 a2 a3 a4 a5 m0 m1 m2 m3 m4 m5 ty S' := by
  rw [E.wire, E.wire, set_app _ _ 14 _ z rfl, h]
theorem sum_turn (P B : List Int) (k : Nat) (z : Int) (hP : P.length % 2 = 0) (hk : k < B.length) (hB : Byt B) (hz : 0 ≤ z ∧ z ≤ 255) (hne : z ≠ byteAt B k) (hg : fd (tot (P ++ B)) = 65535) : fd (tot (P ++ B.set k z)) ≠ 65535 := by
  intro h
  rw [tot_append_even _ _ hP] at hg h
  rw [tot_set B k z hk] at h
  have hb := byteAt_bd hB k
  have e : B[k]?.getD 0 = byteAt B k := rfl
  rw [e] at h
  have m1 := @fd_mod (tot P + tot B)
  have m2 := @fd_mod (tot P + (tot B + (z - byteAt B k) * (if k % 2 = 0 then 256 else 1)))
  rw [hg] at m1
  rw [h] at m2
  split at m2 <;> omega
/-- An ND of which one byte is another one is refused. -/
theorem rd_turn (f t : ByteArray) (fl : Int) (g : ByteArray) (m0 m1 m2 m3 m4 m5 : Int) (hf : f.size = 16) (ht : t.size = 16) (hg : g.size = 16) (hl : 0 ≤ fl ∧ fl ≤ 255) (hm : Byt [m0, m1, m2, m3, m4, m5]) (k : Nat) (z : Int) (hk : k < 32) (hz : 0 ≤ z ∧ z ≤ 255) (hne : z ≠ byteAt (ndS f t 136 0 fl g 2 1 [m0, m1, m2, m3, m4, m5]) k) :
    ∃ r, rdV6 (wire f t 58 255 (strOfNums ((ndS f t 136 0 fl g 2 1 [m0, m1, m2, m3, m4, m5]).set k z))) = (Nt.zero, r) ∧ r ≠ 0 := by
  have h0 : Byt [136, 0, 2, 1] := byt_of rfl
  have hB := ndS_byt f t fl g m0 m1 m2 m3 m4 m5 hf ht hg hl hm 136 0 2 1 h0
  have hs : Byt ((ndS f t 136 0 fl g 2 1 [m0, m1, m2, m3, m4, m5]).set k z) := fun y hy => by
    rcases List.mem_or_eq_of_mem_set hy with hy | rfl
    · exact hB y hy
    · exact hz
  have hn : (ndS f t 136 0 fl g 2 1 [m0, m1, m2, m3, m4, m5]).length = 32 := by rw [← strOfNums_size]; exact ndS_size f t 136 0 fl g 2 1 m0 m1 m2 m3 m4 m5 hg
  have hz32 : (strOfNums ((ndS f t 136 0 fl g 2 1 [m0, m1, m2, m3, m4, m5]).set k z)).size = 32 := by rw [strOfNums_size, List.length_set, hn]
  have hsum := sum_turn (pseu f t 58 32) _ k z (by rw [pseu_len f t 58 32 hf ht]) (by rw [hn]; exact hk) hB hz hne (good_nd f t 136 0 fl g 2 1 [m0, m1, m2, m3, m4, m5] hf ht h0 (by omega) hl hm)
  generalize (ndS f t 136 0 fl g 2 1 [m0, m1, m2, m3, m4, m5]).set k z = B at *
  have hd := dec_wire f t 58 255 (strOfNums B) [] (by simp [Okp, alikeB, rightB, byteB, headI, hf, ht, hz32])
  rw [List.append_nil] at hd
  unfold rdV6
  rw [hd, if_neg (by simp)]
  unfold rdNd
  rw [if_neg (by simp [hf, hz32])]
  by_cases h3 : isF (bts (strOfNums B)) 135 1 = false ∧ isF (bts (strOfNums B)) 136 2 = false
  · rw [if_pos h3]; exact ⟨40, rfl, by omega⟩
  · rw [if_neg h3, if_pos (by rw [bts_strOfNums hs]; exact hsum)]; exact ⟨41, rfl, by omega⟩

end Go.Proofs.YtdoefjhdipkkeaaDoor
