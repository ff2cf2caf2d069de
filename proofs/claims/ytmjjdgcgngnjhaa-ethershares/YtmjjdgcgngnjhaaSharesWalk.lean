/-
  The walk of EtherShares.
-/
import Derived.Test.YtmjjdgcgngnjhaaFrame
import Derived.Test.YtmjjdgcgngnjhaaManys
namespace Go.Proofs.Ytmjjdgcgngnjhaa
open Go.ChangeShapes Go.WideShapes Go.ChangeAt Go.RowKit
set_option linter.unusedVariables false


theorem nums_at (y : Int) (h : 0 ≤ y ∧ y ≤ 255) : ((UInt8.ofNat y.toNat).toNat : Int) = y := by
  simp; omega
theorem Many_nums (y0 y1 y2 y3 : Int) (w : World) (h0 : 224 ≤ y0 ∧ y0 ≤ 239) (h1 : 0 ≤ y1 ∧ y1 ≤ 255) (h2 : 0 ≤ y2 ∧ y2 ≤ 255) (h3 : 0 ≤ y3 ∧ y3 ≤ 255) :
    Calls Try.prog 18 #[.string (strOfNums [y0, y1, y2, y3])] w fun e w' => e = .returned (.tuple #[.agg #[.int .u8 1, .int .u8 0, .int .u8 94, .int .u8 (y1 % 128), .int .u8 y2, .int .u8 y3], .bool true]) ∧ Below w.heap.size w w' := by
  have e0 := nums_at y0 (by omega)
  have h := Many4_yes (UInt8.ofNat y0.toNat) (UInt8.ofNat y1.toNat) (UInt8.ofNat y2.toNat) (UInt8.ofNat y3.toNat) w (by omega) (by omega)
  rw [nums_at y1 h1, nums_at y2 h2, nums_at y3 h3] at h
  exact h
theorem xor_128 (x : Int) (h : 0 ≤ x ∧ x ≤ 255) : ∃ y, bits BinOp.xor IntKind.u8 x 128 = y ∧ (0 ≤ y ∧ y ≤ 255) ∧ y % 128 = x % 128 := by
  refine ⟨_, u8_xor x 128 h.1 (by omega) (by omega) (by omega), ?_, ?_⟩
  · have : x.toNat ^^^ (128 : Int).toNat < 2 ^ 8 := Nat.xor_lt_two_pow (by omega) (by decide)
    omega
  · have e : (x.toNat ^^^ (128 : Int).toNat) % 2 ^ 7 = x.toNat % 2 ^ 7 := by
      rw [Nat.xor_mod_two_pow]
      show x.toNat % 2 ^ 7 ^^^ 0 = _
      simp
    omega

theorem part4 (W : World) (y0 y1 y2 y3 : Int) (N : Nat) (h0 : 0 ≤ y0 ∧ y0 ≤ 255) (h1 : 0 ≤ y1 ∧ y1 ≤ 255) (h2 : 0 ≤ y2 ∧ y2 ≤ 255) (h3 : 0 ≤ y3 ∧ y3 ≤ 255) (t : TypeId) (hN : N = W.heap.size) :
    Part (W.alloc (.cells #[.int .u8 y0, .int .u8 y1, .int .u8 y2, .int .u8 y3] t)) ⟨some ⟨N, 0, none⟩, 4, 4, [y0, y1, y2, y3]⟩ := by
  subst hN
  exact part_row (heap_top W _ t 0) ((((Byt.nil.cons h3).cons h2).cons h1).cons h0) 4 rfl

attribute [local go_sem] mac_eq
set_option maxHeartbeats 1000000 in
theorem shares_walk (x0 x1 x2 x3 : Int) (w : World) (h0 : 0 ≤ x0 ∧ x0 ≤ 255) (h1 : 0 ≤ x1 ∧ x1 ≤ 255) (h2 : 0 ≤ x2 ∧ x2 ≤ 255) (h3 : 0 ≤ x3 ∧ x3 ≤ 255) :
    Calls Try.prog 8 #[.agg #[.int .u8 x0, .int .u8 x1, .int .u8 x2, .int .u8 x3]] w fun e w' => e = .returned (.bool true) ∧ Below w.heap.size w w' := by
  obtain ⟨y1, hx, hy, hm⟩ := xor_128 x1 h1
  have HM := Lib.hid hm
  clear hm
  have b0 : 224 ≤ 224 + x0 % 16 ∧ 224 + x0 % 16 ≤ 239 := by omega
  have HPb := Lib.hid ((part4 w (224 + x0 % 16) x1 x2 x3 w.heap.size (by omega) h1 h2 h3 49 rfl).alloc (.cells #[.int .u8 (224 + x0 % 16), .int .u8 y1, .int .u8 x2, .int .u8 x3] 49))
  have HPc := Lib.hid (part4 (w.alloc (.cells #[.int .u8 (224 + x0 % 16), .int .u8 x1, .int .u8 x2, .int .u8 x3] 49)) (224 + x0 % 16) y1 x2 x3 (w.heap.size + 1) (by omega) hy h2 h3 49 (by simp))
  have hcv1 := convert_part HPb.out 40 Try.underlying40
  go_enter Try.func8, Try.ntmps8
  go_wp2_with fail
  refine (Many_nums _ _ _ _ _ b0 h1 h2 h3).mono ?_
  rintro e w1 ⟨rfl, hb1⟩
  obtain ⟨hc1, hf1⟩ := bcell hb1
  have z1 := hb1.size
  simp at z1
  have hcv2 := convert_part ((HPc.out.below hb1).alloc (.cells #[.int .u8 1, .int .u8 0, .int .u8 94, .int .u8 (x1 % 128), .int .u8 x2, .int .u8 x3] 23)) 40 Try.underlying40
  go_wp2_with fail
  refine (Many_nums _ _ _ _ _ b0 hy h2 h3).mono ?_
  rintro e w2 ⟨rfl, hb2⟩
  rw [HM.out]
  obtain ⟨hc2, hf2⟩ := bcell hb2
  have z2 := hb2.size
  simp at z2
  go_wp2_with fail
  refine (alive_any _).mono ?_
  rintro e w3 ⟨rfl, hb3⟩
  obtain ⟨hc3, hf3⟩ := bcell hb3
  have sz1 : w1.heap.size < w2.heap.size := by omega
  have sz2 : w1.heap.size < w2.heap.size + 1 := by omega
  have sz3 : w.heap.size < w1.heap.size := by omega
  have sz4 : w.heap.size < w1.heap.size + 1 := by omega
  have sz5 : w.heap.size < w2.heap.size := by omega
  have sz6 : w.heap.size < w2.heap.size + 1 := by omega
  go_wp2
  go_ret
  refine ⟨by first | rfl | simp, ?_⟩
  have a0 := below_alloc (below_alloc (Below.refl w.heap.size w) (.cells #[.int .u8 (224 + x0 % 16), .int .u8 x1, .int .u8 x2, .int .u8 x3] 49)) (.cells #[.int .u8 (224 + x0 % 16), .int .u8 y1, .int .u8 x2, .int .u8 x3] 49)
  have a1 := below_then a0 a0.size hb1
  have a2 := below_alloc a1 (.cells #[.int .u8 1, .int .u8 0, .int .u8 94, .int .u8 (x1 % 128), .int .u8 x2, .int .u8 x3] 23)
  have a3 := below_then a2 a2.size hb2
  have a4 := below_alloc a3 (.cells #[.int .u8 1, .int .u8 0, .int .u8 94, .int .u8 (x1 % 128), .int .u8 x2, .int .u8 x3] 23)
  exact below_then a4 a4.size hb3

end Go.Proofs.Ytmjjdgcgngnjhaa
