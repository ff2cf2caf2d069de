/-
  What the reference's Many does.
-/
import Derived.Test.YtmjjdgcgngnjhaaCopy
namespace Go.Proofs.Ytmjjdgcgngnjhaa
open Go.RowKit

@[local go_sem] theorem rat4_0 (c0 c1 c2 c3 : UInt8) (h : 0 < (⟨#[c0, c1, c2, c3]⟩ : ByteArray).size) : (⟨#[c0, c1, c2, c3]⟩ : ByteArray)[0]'h = c0 := rfl
@[local go_sem] theorem rat4_1 (c0 c1 c2 c3 : UInt8) (h : 1 < (⟨#[c0, c1, c2, c3]⟩ : ByteArray).size) : (⟨#[c0, c1, c2, c3]⟩ : ByteArray)[1]'h = c1 := rfl
@[local go_sem] theorem rat4_2 (c0 c1 c2 c3 : UInt8) (h : 2 < (⟨#[c0, c1, c2, c3]⟩ : ByteArray).size) : (⟨#[c0, c1, c2, c3]⟩ : ByteArray)[2]'h = c2 := rfl
@[local go_sem] theorem rat4_3 (c0 c1 c2 c3 : UInt8) (h : 3 < (⟨#[c0, c1, c2, c3]⟩ : ByteArray).size) : (⟨#[c0, c1, c2, c3]⟩ : ByteArray)[3]'h = c3 := rfl
@[local go_sem] theorem rat16_0 (c0 c1 c2 c3 c4 c5 c6 c7 c8 c9 c10 c11 c12 c13 c14 c15 : UInt8) (h : 0 < (⟨#[c0, c1, c2, c3, c4, c5, c6, c7, c8, c9, c10, c11, c12, c13, c14, c15]⟩ : ByteArray).size) : (⟨#[c0, c1, c2, c3, c4, c5, c6, c7, c8, c9, c10, c11, c12, c13, c14, c15]⟩ : ByteArray)[0]'h = c0 := rfl
@[local go_sem] theorem rat16_12 (c0 c1 c2 c3 c4 c5 c6 c7 c8 c9 c10 c11 c12 c13 c14 c15 : UInt8) (h : 12 < (⟨#[c0, c1, c2, c3, c4, c5, c6, c7, c8, c9, c10, c11, c12, c13, c14, c15]⟩ : ByteArray).size) : (⟨#[c0, c1, c2, c3, c4, c5, c6, c7, c8, c9, c10, c11, c12, c13, c14, c15]⟩ : ByteArray)[12]'h = c12 := rfl
@[local go_sem] theorem rat16_13 (c0 c1 c2 c3 c4 c5 c6 c7 c8 c9 c10 c11 c12 c13 c14 c15 : UInt8) (h : 13 < (⟨#[c0, c1, c2, c3, c4, c5, c6, c7, c8, c9, c10, c11, c12, c13, c14, c15]⟩ : ByteArray).size) : (⟨#[c0, c1, c2, c3, c4, c5, c6, c7, c8, c9, c10, c11, c12, c13, c14, c15]⟩ : ByteArray)[13]'h = c13 := rfl
@[local go_sem] theorem rat16_14 (c0 c1 c2 c3 c4 c5 c6 c7 c8 c9 c10 c11 c12 c13 c14 c15 : UInt8) (h : 14 < (⟨#[c0, c1, c2, c3, c4, c5, c6, c7, c8, c9, c10, c11, c12, c13, c14, c15]⟩ : ByteArray).size) : (⟨#[c0, c1, c2, c3, c4, c5, c6, c7, c8, c9, c10, c11, c12, c13, c14, c15]⟩ : ByteArray)[14]'h = c14 := rfl
@[local go_sem] theorem rat16_15 (c0 c1 c2 c3 c4 c5 c6 c7 c8 c9 c10 c11 c12 c13 c14 c15 : UInt8) (h : 15 < (⟨#[c0, c1, c2, c3, c4, c5, c6, c7, c8, c9, c10, c11, c12, c13, c14, c15]⟩ : ByteArray).size) : (⟨#[c0, c1, c2, c3, c4, c5, c6, c7, c8, c9, c10, c11, c12, c13, c14, c15]⟩ : ByteArray)[15]'h = c15 := rfl


set_option maxHeartbeats 1000000 in
theorem rmany4_yes (c0 c1 c2 c3 : UInt8) (w : World) (h1 : 224 ≤ c0.toNat) (h2 : c0.toNat ≤ 239) :
    Calls Try.prog 19 #[.string ⟨#[c0, c1, c2, c3]⟩] w fun e w' => e = .returned (.tuple #[.agg #[.int .u8 1, .int .u8 0, .int .u8 94, .int .u8 ((c1.toNat : Int) % 128), .int .u8 (c2.toNat : Int), .int .u8 (c3.toNat : Int)], .bool true]) ∧ Below w.heap.size w w' := by
  have g1 : decide (224 ≤ (c0.toNat : Int)) = true := by simp; omega
  have g2 : decide ((c0.toNat : Int) ≤ 239) = true := by simp; omega
  have g3 := byte_le c1
  go_enter Try.func19, Try.ntmps19
  go_wp2
  go_region
  go_wp2
  exact bodyPost_ret (v := .tuple #[.agg #[.int .u8 1, .int .u8 0, .int .u8 94, .int .u8 ((c1.toNat : Int) % 128), .int .u8 (c2.toNat : Int), .int .u8 (c3.toNat : Int)], .bool true]) (by simp [results, Try.results19, go_sem]) rfl ⟨rfl, below_drew ((Below.refl _ _).alloc (Nat.le_refl _) _)⟩

set_option maxHeartbeats 1000000 in
theorem rmany4_no (c0 c1 c2 c3 : UInt8) (w : World) (h : c0.toNat < 224 ∨ 239 < c0.toNat) :
    Calls Try.prog 19 #[.string ⟨#[c0, c1, c2, c3]⟩] w fun e w' => e = .returned (.tuple #[.agg #[.int .u8 0, .int .u8 0, .int .u8 0, .int .u8 0, .int .u8 0, .int .u8 0], .bool false]) ∧ Below w.heap.size w w' := by
  rcases h with h | h
  · have g1 : decide (224 ≤ (c0.toNat : Int)) = false := by simp; omega
    clear h
    go_enter Try.func19, Try.ntmps19
    go_wp2
    exact bodyPost_ret (v := .tuple #[.agg #[.int .u8 0, .int .u8 0, .int .u8 0, .int .u8 0, .int .u8 0, .int .u8 0], .bool false]) (by simp [results, Try.results19, go_sem]) rfl ⟨rfl, (Below.refl _ _).alloc (Nat.le_refl _) _⟩
  · have g1 : decide (224 ≤ (c0.toNat : Int)) = true := by simp; omega
    have g2 : decide ((c0.toNat : Int) ≤ 239) = false := by simp; omega
    clear h
    go_enter Try.func19, Try.ntmps19
    go_wp2
    exact bodyPost_ret (v := .tuple #[.agg #[.int .u8 0, .int .u8 0, .int .u8 0, .int .u8 0, .int .u8 0, .int .u8 0], .bool false]) (by simp [results, Try.results19, go_sem]) rfl ⟨rfl, (Below.refl _ _).alloc (Nat.le_refl _) _⟩

set_option maxHeartbeats 1000000 in
theorem rmany16_yes (c0 c1 c2 c3 c4 c5 c6 c7 c8 c9 c10 c11 c12 c13 c14 c15 : UInt8) (w : World) (h1 : c0.toNat = 255) :
    Calls Try.prog 19 #[.string ⟨#[c0, c1, c2, c3, c4, c5, c6, c7, c8, c9, c10, c11, c12, c13, c14, c15]⟩] w fun e w' => e = .returned (.tuple #[.agg #[.int .u8 51, .int .u8 51, .int .u8 (c12.toNat : Int), .int .u8 (c13.toNat : Int), .int .u8 (c14.toNat : Int), .int .u8 (c15.toNat : Int)], .bool true]) ∧ Below w.heap.size w w' := by
  have g1 : ((c0.toNat : Int) == 255) = true := by rw [beq_iff_eq]; omega
  clear h1
  go_enter Try.func19, Try.ntmps19
  go_wp2
  go_region
  go_wp2
  exact bodyPost_ret (v := .tuple #[.agg #[.int .u8 51, .int .u8 51, .int .u8 (c12.toNat : Int), .int .u8 (c13.toNat : Int), .int .u8 (c14.toNat : Int), .int .u8 (c15.toNat : Int)], .bool true]) (by simp [results, Try.results19, go_sem]) rfl ⟨rfl, below_drew ((Below.refl _ _).alloc (Nat.le_refl _) _)⟩

set_option maxHeartbeats 1000000 in
theorem rmany16_no (c0 c1 c2 c3 c4 c5 c6 c7 c8 c9 c10 c11 c12 c13 c14 c15 : UInt8) (w : World) (h : c0.toNat ≠ 255) :
    Calls Try.prog 19 #[.string ⟨#[c0, c1, c2, c3, c4, c5, c6, c7, c8, c9, c10, c11, c12, c13, c14, c15]⟩] w fun e w' => e = .returned (.tuple #[.agg #[.int .u8 0, .int .u8 0, .int .u8 0, .int .u8 0, .int .u8 0, .int .u8 0], .bool false]) ∧ Below w.heap.size w w' := by
  have g1 : ((c0.toNat : Int) == 255) = false := by rw [beq_eq_false_iff_ne]; omega
  clear h
  go_enter Try.func19, Try.ntmps19
  go_wp2
  exact bodyPost_ret (v := .tuple #[.agg #[.int .u8 0, .int .u8 0, .int .u8 0, .int .u8 0, .int .u8 0, .int .u8 0], .bool false]) (by simp [results, Try.results19, go_sem]) rfl ⟨rfl, (Below.refl _ _).alloc (Nat.le_refl _) _⟩

set_option maxHeartbeats 1000000 in
theorem rmany_else (s : ByteArray) (w : World) (h4 : s.size ≠ 4) (h16 : s.size ≠ 16) :
    Calls Try.prog 19 #[.string s] w fun e w' => e = .returned (.tuple #[.agg #[.int .u8 0, .int .u8 0, .int .u8 0, .int .u8 0, .int .u8 0, .int .u8 0], .bool false]) ∧ Below w.heap.size w w' := by
  have g1 : ((s.size : Int) == 4) = false := by rw [beq_eq_false_iff_ne]; omega
  have g2 : ((s.size : Int) == 16) = false := by rw [beq_eq_false_iff_ne]; omega
  have g3 : (s.size == 4) = false := by rw [beq_eq_false_iff_ne]; omega
  have g4 : (s.size == 16) = false := by rw [beq_eq_false_iff_ne]; omega
  clear h4 h16
  go_enter Try.func19, Try.ntmps19
  go_wp2
  exact bodyPost_ret (v := .tuple #[.agg #[.int .u8 0, .int .u8 0, .int .u8 0, .int .u8 0, .int .u8 0, .int .u8 0], .bool false]) (by simp [results, Try.results19, go_sem]) rfl ⟨rfl, (Below.refl _ _).alloc (Nat.le_refl _) _⟩

end Go.Proofs.Ytmjjdgcgngnjhaa
