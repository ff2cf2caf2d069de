/-
  What many, Many and the reference's Many do.
-/
import Derived.Test.YtdoefjhdipkkeaaDoorECopy
namespace Go.Proofs.YtdoefjhdipkkeaaDoor.E
open Go.RowKit

@[local go_sem] theorem at4_0 (c0 c1 c2 c3 : UInt8) (h : 0 < (⟨#[c0, c1, c2, c3]⟩ : ByteArray).size) : (⟨#[c0, c1, c2, c3]⟩ : ByteArray)[0]'h = c0 := rfl
@[local go_sem] theorem at4_1 (c0 c1 c2 c3 : UInt8) (h : 1 < (⟨#[c0, c1, c2, c3]⟩ : ByteArray).size) : (⟨#[c0, c1, c2, c3]⟩ : ByteArray)[1]'h = c1 := rfl
@[local go_sem] theorem at4_2 (c0 c1 c2 c3 : UInt8) (h : 2 < (⟨#[c0, c1, c2, c3]⟩ : ByteArray).size) : (⟨#[c0, c1, c2, c3]⟩ : ByteArray)[2]'h = c2 := rfl
@[local go_sem] theorem at4_3 (c0 c1 c2 c3 : UInt8) (h : 3 < (⟨#[c0, c1, c2, c3]⟩ : ByteArray).size) : (⟨#[c0, c1, c2, c3]⟩ : ByteArray)[3]'h = c3 := rfl
@[local go_sem] theorem at16_0 (c0 c1 c2 c3 c4 c5 c6 c7 c8 c9 c10 c11 c12 c13 c14 c15 : UInt8) (h : 0 < (⟨#[c0, c1, c2, c3, c4, c5, c6, c7, c8, c9, c10, c11, c12, c13, c14, c15]⟩ : ByteArray).size) : (⟨#[c0, c1, c2, c3, c4, c5, c6, c7, c8, c9, c10, c11, c12, c13, c14, c15]⟩ : ByteArray)[0]'h = c0 := rfl
@[local go_sem] theorem at16_12 (c0 c1 c2 c3 c4 c5 c6 c7 c8 c9 c10 c11 c12 c13 c14 c15 : UInt8) (h : 12 < (⟨#[c0, c1, c2, c3, c4, c5, c6, c7, c8, c9, c10, c11, c12, c13, c14, c15]⟩ : ByteArray).size) : (⟨#[c0, c1, c2, c3, c4, c5, c6, c7, c8, c9, c10, c11, c12, c13, c14, c15]⟩ : ByteArray)[12]'h = c12 := rfl
@[local go_sem] theorem at16_13 (c0 c1 c2 c3 c4 c5 c6 c7 c8 c9 c10 c11 c12 c13 c14 c15 : UInt8) (h : 13 < (⟨#[c0, c1, c2, c3, c4, c5, c6, c7, c8, c9, c10, c11, c12, c13, c14, c15]⟩ : ByteArray).size) : (⟨#[c0, c1, c2, c3, c4, c5, c6, c7, c8, c9, c10, c11, c12, c13, c14, c15]⟩ : ByteArray)[13]'h = c13 := rfl
@[local go_sem] theorem at16_14 (c0 c1 c2 c3 c4 c5 c6 c7 c8 c9 c10 c11 c12 c13 c14 c15 : UInt8) (h : 14 < (⟨#[c0, c1, c2, c3, c4, c5, c6, c7, c8, c9, c10, c11, c12, c13, c14, c15]⟩ : ByteArray).size) : (⟨#[c0, c1, c2, c3, c4, c5, c6, c7, c8, c9, c10, c11, c12, c13, c14, c15]⟩ : ByteArray)[14]'h = c14 := rfl
@[local go_sem] theorem at16_15 (c0 c1 c2 c3 c4 c5 c6 c7 c8 c9 c10 c11 c12 c13 c14 c15 : UInt8) (h : 15 < (⟨#[c0, c1, c2, c3, c4, c5, c6, c7, c8, c9, c10, c11, c12, c13, c14, c15]⟩ : ByteArray).size) : (⟨#[c0, c1, c2, c3, c4, c5, c6, c7, c8, c9, c10, c11, c12, c13, c14, c15]⟩ : ByteArray)[15]'h = c15 := rfl


set_option maxHeartbeats 1000000 in
theorem many4_yes (c0 c1 c2 c3 : UInt8) (w : World) (h1 : 224 ≤ c0.toNat) (h2 : c0.toNat ≤ 239) :
    Calls Tryd.prog 43 #[.string ⟨#[c0, c1, c2, c3]⟩] w fun e w' => e = .returned (.agg #[.int .u8 1, .int .u8 0, .int .u8 94, .int .u8 ((c1.toNat : Int) % 128), .int .u8 (c2.toNat : Int), .int .u8 (c3.toNat : Int)]) ∧ Below w.heap.size w w' := by
  have g1 : ((c0.toNat : Int) / 16 == 14) = true := by rw [beq_iff_eq]; omega
  have g2 := and_127 (c1.toNat : Int) (byte_le c1)
  have hcp : (Builtin.copy_ #[26, 24] 3 #[.slice (some ⟨w.heap.size + 1, 3, none⟩) 3 3, .string ((⟨#[c0, c1, c2, c3]⟩ : ByteArray).extract 1 4)]).run Tryd.prog ((w.alloc (.cells #[.int .u8 0, .int .u8 0, .int .u8 0, .int .u8 0, .int .u8 0, .int .u8 0] 23)).alloc (.cells #[.int .u8 1, .int .u8 0, .int .u8 94, .int .u8 0, .int .u8 0, .int .u8 0] 23)).drew =
      .ok (goInt 3) ((w.alloc (.cells #[.int .u8 0, .int .u8 0, .int .u8 0, .int .u8 0, .int .u8 0, .int .u8 0] 23)).alloc (.cells #[.int .u8 1, .int .u8 0, .int .u8 94, .int .u8 (c1.toNat : Int), .int .u8 (c2.toNat : Int), .int .u8 (c3.toNat : Int)] 23)).drew := by
    have e1 : ((⟨#[c0, c1, c2, c3]⟩ : ByteArray).extract 1 4).size = 3 := by kernel_rfl
    have e2 : (splice [.int .u8 1, .int .u8 0, .int .u8 94, .int .u8 0, .int .u8 0, .int .u8 0] 3 (cel (bts ((⟨#[c0, c1, c2, c3]⟩ : ByteArray).extract 1 4)))).toArray = #[.int .u8 1, .int .u8 0, .int .u8 94, .int .u8 (c1.toNat : Int), .int .u8 (c2.toNat : Int), .int .u8 (c3.toNat : Int)] := by kernel_rfl
    have h := copy_text (w.alloc (.cells #[.int .u8 0, .int .u8 0, .int .u8 0, .int .u8 0, .int .u8 0, .int .u8 0] 23)) (w.heap.size + 1) [.int .u8 1, .int .u8 0, .int .u8 94, .int .u8 0, .int .u8 0, .int .u8 0] 23 3 40 3 3 3 1 ((⟨#[c0, c1, c2, c3]⟩ : ByteArray).extract 1 4) (by simp) (by rw [e1]; exact Nat.le_refl _) (by rw [e1]; exact Nat.le_refl 6)
    rw [e1, e2] at h
    exact h
  go_enter Tryd.func43, Tryd.ntmps43
  go_wp2
  go_region
  go_wp2
  exact bodyPost_ret (v := .agg #[.int .u8 1, .int .u8 0, .int .u8 94, .int .u8 ((c1.toNat : Int) % 128), .int .u8 (c2.toNat : Int), .int .u8 (c3.toNat : Int)]) (by simp [results, Tryd.results43, go_sem]) rfl ⟨rfl, below_drew (((Below.refl _ _).alloc (Nat.le_refl _) _).alloc (by simp) _)⟩

set_option maxHeartbeats 1000000 in
theorem many4_no (c0 c1 c2 c3 : UInt8) (w : World) (h : c0.toNat < 224 ∨ 239 < c0.toNat) :
    Calls Tryd.prog 43 #[.string ⟨#[c0, c1, c2, c3]⟩] w fun e w' => e = .returned (.agg #[.int .u8 0, .int .u8 0, .int .u8 0, .int .u8 0, .int .u8 0, .int .u8 0]) ∧ Below w.heap.size w w' := by
  have g1 : ((c0.toNat : Int) / 16 == 14) = false := by rw [beq_eq_false_iff_ne]; omega
  clear h
  go_enter Tryd.func43, Tryd.ntmps43
  go_wp2
  exact bodyPost_ret (v := .agg #[.int .u8 0, .int .u8 0, .int .u8 0, .int .u8 0, .int .u8 0, .int .u8 0]) (by simp [results, Tryd.results43, go_sem]) rfl ⟨rfl, (Below.refl _ _).alloc (Nat.le_refl _) _⟩

set_option maxHeartbeats 1000000 in
theorem many16_yes (c0 c1 c2 c3 c4 c5 c6 c7 c8 c9 c10 c11 c12 c13 c14 c15 : UInt8) (w : World) (h1 : c0.toNat = 255) :
    Calls Tryd.prog 43 #[.string ⟨#[c0, c1, c2, c3, c4, c5, c6, c7, c8, c9, c10, c11, c12, c13, c14, c15]⟩] w fun e w' => e = .returned (.agg #[.int .u8 51, .int .u8 51, .int .u8 (c12.toNat : Int), .int .u8 (c13.toNat : Int), .int .u8 (c14.toNat : Int), .int .u8 (c15.toNat : Int)]) ∧ Below w.heap.size w w' := by
  have g1 : ((c0.toNat : Int) == 255) = true := by rw [beq_iff_eq]; omega
  clear h1
  have hcp : (Builtin.copy_ #[26, 24] 3 #[.slice (some ⟨w.heap.size + 1, 2, none⟩) 4 4, .string ((⟨#[c0, c1, c2, c3, c4, c5, c6, c7, c8, c9, c10, c11, c12, c13, c14, c15]⟩ : ByteArray).extract 12 16)]).run Tryd.prog ((w.alloc (.cells #[.int .u8 0, .int .u8 0, .int .u8 0, .int .u8 0, .int .u8 0, .int .u8 0] 23)).alloc (.cells #[.int .u8 51, .int .u8 51, .int .u8 0, .int .u8 0, .int .u8 0, .int .u8 0] 23)).drew =
      .ok (goInt 4) ((w.alloc (.cells #[.int .u8 0, .int .u8 0, .int .u8 0, .int .u8 0, .int .u8 0, .int .u8 0] 23)).alloc (.cells #[.int .u8 51, .int .u8 51, .int .u8 (c12.toNat : Int), .int .u8 (c13.toNat : Int), .int .u8 (c14.toNat : Int), .int .u8 (c15.toNat : Int)] 23)).drew := by
    have e1 : ((⟨#[c0, c1, c2, c3, c4, c5, c6, c7, c8, c9, c10, c11, c12, c13, c14, c15]⟩ : ByteArray).extract 12 16).size = 4 := by kernel_rfl
    have e2 : (splice [.int .u8 51, .int .u8 51, .int .u8 0, .int .u8 0, .int .u8 0, .int .u8 0] 2 (cel (bts ((⟨#[c0, c1, c2, c3, c4, c5, c6, c7, c8, c9, c10, c11, c12, c13, c14, c15]⟩ : ByteArray).extract 12 16)))).toArray = #[.int .u8 51, .int .u8 51, .int .u8 (c12.toNat : Int), .int .u8 (c13.toNat : Int), .int .u8 (c14.toNat : Int), .int .u8 (c15.toNat : Int)] := by kernel_rfl
    have h := copy_text (w.alloc (.cells #[.int .u8 0, .int .u8 0, .int .u8 0, .int .u8 0, .int .u8 0, .int .u8 0] 23)) (w.heap.size + 1) [.int .u8 51, .int .u8 51, .int .u8 0, .int .u8 0, .int .u8 0, .int .u8 0] 23 3 40 2 4 4 1 ((⟨#[c0, c1, c2, c3, c4, c5, c6, c7, c8, c9, c10, c11, c12, c13, c14, c15]⟩ : ByteArray).extract 12 16) (by simp) (by rw [e1]; exact Nat.le_refl _) (by rw [e1]; exact Nat.le_refl 6)
    rw [e1, e2] at h
    exact h
  go_enter Tryd.func43, Tryd.ntmps43
  go_wp2
  go_region
  go_wp2
  exact bodyPost_ret (v := .agg #[.int .u8 51, .int .u8 51, .int .u8 (c12.toNat : Int), .int .u8 (c13.toNat : Int), .int .u8 (c14.toNat : Int), .int .u8 (c15.toNat : Int)]) (by simp [results, Tryd.results43, go_sem]) rfl ⟨rfl, below_drew (((Below.refl _ _).alloc (Nat.le_refl _) _).alloc (by simp) _)⟩

set_option maxHeartbeats 1000000 in
theorem many16_no (c0 c1 c2 c3 c4 c5 c6 c7 c8 c9 c10 c11 c12 c13 c14 c15 : UInt8) (w : World) (h : c0.toNat ≠ 255) :
    Calls Tryd.prog 43 #[.string ⟨#[c0, c1, c2, c3, c4, c5, c6, c7, c8, c9, c10, c11, c12, c13, c14, c15]⟩] w fun e w' => e = .returned (.agg #[.int .u8 0, .int .u8 0, .int .u8 0, .int .u8 0, .int .u8 0, .int .u8 0]) ∧ Below w.heap.size w w' := by
  have g1 : ((c0.toNat : Int) == 255) = false := by rw [beq_eq_false_iff_ne]; omega
  clear h
  go_enter Tryd.func43, Tryd.ntmps43
  go_wp2
  exact bodyPost_ret (v := .agg #[.int .u8 0, .int .u8 0, .int .u8 0, .int .u8 0, .int .u8 0, .int .u8 0]) (by simp [results, Tryd.results43, go_sem]) rfl ⟨rfl, (Below.refl _ _).alloc (Nat.le_refl _) _⟩

set_option maxHeartbeats 1000000 in
theorem many_else (s : ByteArray) (w : World) (h4 : s.size ≠ 4) (h16 : s.size ≠ 16) :
    Calls Tryd.prog 43 #[.string s] w fun e w' => e = .returned (.agg #[.int .u8 0, .int .u8 0, .int .u8 0, .int .u8 0, .int .u8 0, .int .u8 0]) ∧ Below w.heap.size w w' := by
  have g1 : ((s.size : Int) == 4) = false := by rw [beq_eq_false_iff_ne]; omega
  have g2 : ((s.size : Int) == 16) = false := by rw [beq_eq_false_iff_ne]; omega
  have g3 : (s.size == 4) = false := by rw [beq_eq_false_iff_ne]; omega
  have g4 : (s.size == 16) = false := by rw [beq_eq_false_iff_ne]; omega
  clear h4 h16
  go_enter Tryd.func43, Tryd.ntmps43
  go_wp2
  exact bodyPost_ret (v := .agg #[.int .u8 0, .int .u8 0, .int .u8 0, .int .u8 0, .int .u8 0, .int .u8 0]) (by simp [results, Tryd.results43, go_sem]) rfl ⟨rfl, (Below.refl _ _).alloc (Nat.le_refl _) _⟩

end Go.Proofs.YtdoefjhdipkkeaaDoor.E
