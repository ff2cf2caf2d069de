/-
  What Many does, and what it and the reference's Many answer alike.
-/
import Derived.Test.YtdoefjhdipkkeaaDoorEMany
namespace Go.Proofs.YtdoefjhdipkkeaaDoor.E
open Go.RowKit
set_option linter.unusedVariables false

set_option maxHeartbeats 1000000 in
theorem Many4_yes (c0 c1 c2 c3 : UInt8) (w : World) (h1 : 224 ≤ c0.toNat) (h2 : c0.toNat ≤ 239) :
    Calls Tryd.prog 21 #[.string ⟨#[c0, c1, c2, c3]⟩] w fun e w' => e = .returned (.tuple #[.agg #[.int .u8 1, .int .u8 0, .int .u8 94, .int .u8 ((c1.toNat : Int) % 128), .int .u8 (c2.toNat : Int), .int .u8 (c3.toNat : Int)], .bool true]) ∧ Below w.heap.size w w' := by
  go_enter Tryd.func21, Tryd.ntmps21
  go_wp2_with fail
  refine (many4_yes c0 c1 c2 c3 _ h1 h2).mono ?_
  rintro e w1 ⟨rfl, hb1⟩
  obtain ⟨hc1, hf1⟩ := bcell hb1
  go_wp2_with fail
  refine (told_any _ _ _ _ _ _ _).mono ?_
  rintro e w2 ⟨rfl, hb2⟩
  obtain ⟨hc2, hf2⟩ := bcell hb2
  have hz1 := hb1.size
  have hz2 := hb2.size
  simp at hz1
  have hz3 : w.heap.size < w1.heap.size := by omega
  have hz4 : w.heap.size < w2.heap.size := by omega
  go_wp2
  refine bodyPost_ret (v := .tuple #[.agg #[.int .u8 1, .int .u8 0, .int .u8 94, .int .u8 ((c1.toNat : Int) % 128), .int .u8 (c2.toNat : Int), .int .u8 (c3.toNat : Int)], .bool true]) (by simp [results, Tryd.results21, go_sem, hc2, hc1, hz3]) rfl ⟨rfl, ?_⟩
  exact below_cells6 (below_then ((Below.refl _ _).alloc (Nat.le_refl _) _) (by simp) (below_then hb1 hb1.size hb2))

set_option maxHeartbeats 1000000 in
theorem Many4_no (c0 c1 c2 c3 : UInt8) (w : World) (h : c0.toNat < 224 ∨ 239 < c0.toNat) :
    Calls Tryd.prog 21 #[.string ⟨#[c0, c1, c2, c3]⟩] w fun e w' => e = .returned (.tuple #[.agg #[.int .u8 0, .int .u8 0, .int .u8 0, .int .u8 0, .int .u8 0, .int .u8 0], .bool false]) ∧ Below w.heap.size w w' := by
  go_enter Tryd.func21, Tryd.ntmps21
  go_wp2_with fail
  refine (many4_no c0 c1 c2 c3 _ h).mono ?_
  rintro e w1 ⟨rfl, hb1⟩
  obtain ⟨hc1, hf1⟩ := bcell hb1
  go_wp2_with fail
  refine (told_any _ _ _ _ _ _ _).mono ?_
  rintro e w2 ⟨rfl, hb2⟩
  obtain ⟨hc2, hf2⟩ := bcell hb2
  have hz1 := hb1.size
  have hz2 := hb2.size
  simp at hz1
  have hz3 : w.heap.size < w1.heap.size := by omega
  have hz4 : w.heap.size < w2.heap.size := by omega
  go_wp2
  refine bodyPost_ret (v := .tuple #[.agg #[.int .u8 0, .int .u8 0, .int .u8 0, .int .u8 0, .int .u8 0, .int .u8 0], .bool false]) (by simp [results, Tryd.results21, go_sem, hc2, hc1, hz3]) rfl ⟨rfl, ?_⟩
  exact below_cells6 (below_then ((Below.refl _ _).alloc (Nat.le_refl _) _) (by simp) (below_then hb1 hb1.size hb2))

set_option maxHeartbeats 1000000 in
theorem Many16_yes (c0 c1 c2 c3 c4 c5 c6 c7 c8 c9 c10 c11 c12 c13 c14 c15 : UInt8) (w : World) (h : c0.toNat = 255) :
    Calls Tryd.prog 21 #[.string ⟨#[c0, c1, c2, c3, c4, c5, c6, c7, c8, c9, c10, c11, c12, c13, c14, c15]⟩] w fun e w' => e = .returned (.tuple #[.agg #[.int .u8 51, .int .u8 51, .int .u8 (c12.toNat : Int), .int .u8 (c13.toNat : Int), .int .u8 (c14.toNat : Int), .int .u8 (c15.toNat : Int)], .bool true]) ∧ Below w.heap.size w w' := by
  go_enter Tryd.func21, Tryd.ntmps21
  go_wp2_with fail
  refine (many16_yes c0 c1 c2 c3 c4 c5 c6 c7 c8 c9 c10 c11 c12 c13 c14 c15 _ h).mono ?_
  rintro e w1 ⟨rfl, hb1⟩
  obtain ⟨hc1, hf1⟩ := bcell hb1
  go_wp2_with fail
  refine (told_any _ _ _ _ _ _ _).mono ?_
  rintro e w2 ⟨rfl, hb2⟩
  obtain ⟨hc2, hf2⟩ := bcell hb2
  have hz1 := hb1.size
  have hz2 := hb2.size
  simp at hz1
  have hz3 : w.heap.size < w1.heap.size := by omega
  have hz4 : w.heap.size < w2.heap.size := by omega
  go_wp2
  refine bodyPost_ret (v := .tuple #[.agg #[.int .u8 51, .int .u8 51, .int .u8 (c12.toNat : Int), .int .u8 (c13.toNat : Int), .int .u8 (c14.toNat : Int), .int .u8 (c15.toNat : Int)], .bool true]) (by simp [results, Tryd.results21, go_sem, hc2, hc1, hz3]) rfl ⟨rfl, ?_⟩
  exact below_cells6 (below_then ((Below.refl _ _).alloc (Nat.le_refl _) _) (by simp) (below_then hb1 hb1.size hb2))

set_option maxHeartbeats 1000000 in
theorem Many16_no (c0 c1 c2 c3 c4 c5 c6 c7 c8 c9 c10 c11 c12 c13 c14 c15 : UInt8) (w : World) (h : c0.toNat ≠ 255) :
    Calls Tryd.prog 21 #[.string ⟨#[c0, c1, c2, c3, c4, c5, c6, c7, c8, c9, c10, c11, c12, c13, c14, c15]⟩] w fun e w' => e = .returned (.tuple #[.agg #[.int .u8 0, .int .u8 0, .int .u8 0, .int .u8 0, .int .u8 0, .int .u8 0], .bool false]) ∧ Below w.heap.size w w' := by
  go_enter Tryd.func21, Tryd.ntmps21
  go_wp2_with fail
  refine (many16_no c0 c1 c2 c3 c4 c5 c6 c7 c8 c9 c10 c11 c12 c13 c14 c15 _ h).mono ?_
  rintro e w1 ⟨rfl, hb1⟩
  obtain ⟨hc1, hf1⟩ := bcell hb1
  go_wp2_with fail
  refine (told_any _ _ _ _ _ _ _).mono ?_
  rintro e w2 ⟨rfl, hb2⟩
  obtain ⟨hc2, hf2⟩ := bcell hb2
  have hz1 := hb1.size
  have hz2 := hb2.size
  simp at hz1
  have hz3 : w.heap.size < w1.heap.size := by omega
  have hz4 : w.heap.size < w2.heap.size := by omega
  go_wp2
  refine bodyPost_ret (v := .tuple #[.agg #[.int .u8 0, .int .u8 0, .int .u8 0, .int .u8 0, .int .u8 0, .int .u8 0], .bool false]) (by simp [results, Tryd.results21, go_sem, hc2, hc1, hz3]) rfl ⟨rfl, ?_⟩
  exact below_cells6 (below_then ((Below.refl _ _).alloc (Nat.le_refl _) _) (by simp) (below_then hb1 hb1.size hb2))

set_option maxHeartbeats 1000000 in
theorem Many_else (s : ByteArray) (w : World) (h4 : s.size ≠ 4) (h16 : s.size ≠ 16) :
    Calls Tryd.prog 21 #[.string s] w fun e w' => e = .returned (.tuple #[.agg #[.int .u8 0, .int .u8 0, .int .u8 0, .int .u8 0, .int .u8 0, .int .u8 0], .bool false]) ∧ Below w.heap.size w w' := by
  go_enter Tryd.func21, Tryd.ntmps21
  go_wp2_with fail
  refine (many_else s _ h4 h16).mono ?_
  rintro e w1 ⟨rfl, hb1⟩
  obtain ⟨hc1, hf1⟩ := bcell hb1
  go_wp2_with fail
  refine (told_any _ _ _ _ _ _ _).mono ?_
  rintro e w2 ⟨rfl, hb2⟩
  obtain ⟨hc2, hf2⟩ := bcell hb2
  have hz1 := hb1.size
  have hz2 := hb2.size
  simp at hz1
  have hz3 : w.heap.size < w1.heap.size := by omega
  have hz4 : w.heap.size < w2.heap.size := by omega
  go_wp2
  refine bodyPost_ret (v := .tuple #[.agg #[.int .u8 0, .int .u8 0, .int .u8 0, .int .u8 0, .int .u8 0, .int .u8 0], .bool false]) (by simp [results, Tryd.results21, go_sem, hc2, hc1, hz3]) rfl ⟨rfl, ?_⟩
  exact below_cells6 (below_then ((Below.refl _ _).alloc (Nat.le_refl _) _) (by simp) (below_then hb1 hb1.size hb2))

theorem text4 (s : ByteArray) (h : s.size = 4) : ∃ c0 c1 c2 c3, s = ⟨#[c0, c1, c2, c3]⟩ := by
  obtain ⟨⟨l⟩⟩ := s
  match l, h with
  | [c0, c1, c2, c3], _ => exact ⟨c0, c1, c2, c3, rfl⟩
theorem text16 (s : ByteArray) (h : s.size = 16) : ∃ c0 c1 c2 c3 c4 c5 c6 c7 c8 c9 c10 c11 c12 c13 c14 c15, s = ⟨#[c0, c1, c2, c3, c4, c5, c6, c7, c8, c9, c10, c11, c12, c13, c14, c15]⟩ := by
  obtain ⟨⟨l⟩⟩ := s
  match l, h with
  | [c0, c1, c2, c3, c4, c5, c6, c7, c8, c9, c10, c11, c12, c13, c14, c15], _ => exact ⟨c0, c1, c2, c3, c4, c5, c6, c7, c8, c9, c10, c11, c12, c13, c14, c15, rfl⟩

end Go.Proofs.YtdoefjhdipkkeaaDoor.E
