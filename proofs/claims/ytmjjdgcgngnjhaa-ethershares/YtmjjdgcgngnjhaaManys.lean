/-
  What Many does, and what it and the reference's Many answer alike.
-/
import Derived.Test.YtmjjdgcgngnjhaaMany
import Derived.Test.YtmjjdgcgngnjhaaRmany
namespace Go.Proofs.Ytmjjdgcgngnjhaa
open Go.RowKit
set_option linter.unusedVariables false

set_option maxHeartbeats 1000000 in
theorem Many4_yes (c0 c1 c2 c3 : UInt8) (w : World) (h1 : 224 ≤ c0.toNat) (h2 : c0.toNat ≤ 239) :
    Calls Try.prog 18 #[.string ⟨#[c0, c1, c2, c3]⟩] w fun e w' => e = .returned (.tuple #[.agg #[.int .u8 1, .int .u8 0, .int .u8 94, .int .u8 ((c1.toNat : Int) % 128), .int .u8 (c2.toNat : Int), .int .u8 (c3.toNat : Int)], .bool true]) ∧ Below w.heap.size w w' := by
  go_enter Try.func18, Try.ntmps18
  go_wp2_with fail
  refine (many4_yes c0 c1 c2 c3 _ h1 h2).mono ?_
  rintro e w1 ⟨rfl, hb1⟩
  obtain ⟨hc1, hf1⟩ := bcell hb1
  go_wp2_with fail
  refine (told_any _ _ _ _ _ _ _).mono ?_
  rintro e w2 ⟨rfl, hb2⟩
  obtain ⟨hc2, hf2⟩ := bcell hb2
  have hz1 := hb1.size
  have hz2 := hb2.size
  simp at hz1
  have hz3 : w.heap.size < w1.heap.size := by omega
  have hz4 : w.heap.size < w2.heap.size := by omega
  go_wp2
  refine bodyPost_ret (v := .tuple #[.agg #[.int .u8 1, .int .u8 0, .int .u8 94, .int .u8 ((c1.toNat : Int) % 128), .int .u8 (c2.toNat : Int), .int .u8 (c3.toNat : Int)], .bool true]) (by simp [results, Try.results18, go_sem, hc2, hc1, hz3]) rfl ⟨rfl, ?_⟩
  exact below_cells6 (below_then ((Below.refl _ _).alloc (Nat.le_refl _) _) (by simp) (below_then hb1 hb1.size hb2))

set_option maxHeartbeats 1000000 in
theorem Many4_no (c0 c1 c2 c3 : UInt8) (w : World) (h : c0.toNat < 224 ∨ 239 < c0.toNat) :
    Calls Try.prog 18 #[.string ⟨#[c0, c1, c2, c3]⟩] w fun e w' => e = .returned (.tuple #[.agg #[.int .u8 0, .int .u8 0, .int .u8 0, .int .u8 0, .int .u8 0, .int .u8 0], .bool false]) ∧ Below w.heap.size w w' := by
  go_enter Try.func18, Try.ntmps18
  go_wp2_with fail
  refine (many4_no c0 c1 c2 c3 _ h).mono ?_
  rintro e w1 ⟨rfl, hb1⟩
  obtain ⟨hc1, hf1⟩ := bcell hb1
  go_wp2_with fail
  refine (told_any _ _ _ _ _ _ _).mono ?_
  rintro e w2 ⟨rfl, hb2⟩
  obtain ⟨hc2, hf2⟩ := bcell hb2
  have hz1 := hb1.size
  have hz2 := hb2.size
  simp at hz1
  have hz3 : w.heap.size < w1.heap.size := by omega
  have hz4 : w.heap.size < w2.heap.size := by omega
  go_wp2
  refine bodyPost_ret (v := .tuple #[.agg #[.int .u8 0, .int .u8 0, .int .u8 0, .int .u8 0, .int .u8 0, .int .u8 0], .bool false]) (by simp [results, Try.results18, go_sem, hc2, hc1, hz3]) rfl ⟨rfl, ?_⟩
  exact below_cells6 (below_then ((Below.refl _ _).alloc (Nat.le_refl _) _) (by simp) (below_then hb1 hb1.size hb2))

set_option maxHeartbeats 1000000 in
theorem Many16_yes (c0 c1 c2 c3 c4 c5 c6 c7 c8 c9 c10 c11 c12 c13 c14 c15 : UInt8) (w : World) (h : c0.toNat = 255) :
    Calls Try.prog 18 #[.string ⟨#[c0, c1, c2, c3, c4, c5, c6, c7, c8, c9, c10, c11, c12, c13, c14, c15]⟩] w fun e w' => e = .returned (.tuple #[.agg #[.int .u8 51, .int .u8 51, .int .u8 (c12.toNat : Int), .int .u8 (c13.toNat : Int), .int .u8 (c14.toNat : Int), .int .u8 (c15.toNat : Int)], .bool true]) ∧ Below w.heap.size w w' := by
  go_enter Try.func18, Try.ntmps18
  go_wp2_with fail
  refine (many16_yes c0 c1 c2 c3 c4 c5 c6 c7 c8 c9 c10 c11 c12 c13 c14 c15 _ h).mono ?_
  rintro e w1 ⟨rfl, hb1⟩
  obtain ⟨hc1, hf1⟩ := bcell hb1
  go_wp2_with fail
  refine (told_any _ _ _ _ _ _ _).mono ?_
  rintro e w2 ⟨rfl, hb2⟩
  obtain ⟨hc2, hf2⟩ := bcell hb2
  have hz1 := hb1.size
  have hz2 := hb2.size
  simp at hz1
  have hz3 : w.heap.size < w1.heap.size := by omega
  have hz4 : w.heap.size < w2.heap.size := by omega
  go_wp2
  refine bodyPost_ret (v := .tuple #[.agg #[.int .u8 51, .int .u8 51, .int .u8 (c12.toNat : Int), .int .u8 (c13.toNat : Int), .int .u8 (c14.toNat : Int), .int .u8 (c15.toNat : Int)], .bool true]) (by simp [results, Try.results18, go_sem, hc2, hc1, hz3]) rfl ⟨rfl, ?_⟩
  exact below_cells6 (below_then ((Below.refl _ _).alloc (Nat.le_refl _) _) (by simp) (below_then hb1 hb1.size hb2))

set_option maxHeartbeats 1000000 in
theorem Many16_no (c0 c1 c2 c3 c4 c5 c6 c7 c8 c9 c10 c11 c12 c13 c14 c15 : UInt8) (w : World) (h : c0.toNat ≠ 255) :
    Calls Try.prog 18 #[.string ⟨#[c0, c1, c2, c3, c4, c5, c6, c7, c8, c9, c10, c11, c12, c13, c14, c15]⟩] w fun e w' => e = .returned (.tuple #[.agg #[.int .u8 0, .int .u8 0, .int .u8 0, .int .u8 0, .int .u8 0, .int .u8 0], .bool false]) ∧ Below w.heap.size w w' := by
  go_enter Try.func18, Try.ntmps18
  go_wp2_with fail
  refine (many16_no c0 c1 c2 c3 c4 c5 c6 c7 c8 c9 c10 c11 c12 c13 c14 c15 _ h).mono ?_
  rintro e w1 ⟨rfl, hb1⟩
  obtain ⟨hc1, hf1⟩ := bcell hb1
  go_wp2_with fail
  refine (told_any _ _ _ _ _ _ _).mono ?_
  rintro e w2 ⟨rfl, hb2⟩
  obtain ⟨hc2, hf2⟩ := bcell hb2
  have hz1 := hb1.size
  have hz2 := hb2.size
  simp at hz1
  have hz3 : w.heap.size < w1.heap.size := by omega
  have hz4 : w.heap.size < w2.heap.size := by omega
  go_wp2
  refine bodyPost_ret (v := .tuple #[.agg #[.int .u8 0, .int .u8 0, .int .u8 0, .int .u8 0, .int .u8 0, .int .u8 0], .bool false]) (by simp [results, Try.results18, go_sem, hc2, hc1, hz3]) rfl ⟨rfl, ?_⟩
  exact below_cells6 (below_then ((Below.refl _ _).alloc (Nat.le_refl _) _) (by simp) (below_then hb1 hb1.size hb2))

set_option maxHeartbeats 1000000 in
theorem Many_else (s : ByteArray) (w : World) (h4 : s.size ≠ 4) (h16 : s.size ≠ 16) :
    Calls Try.prog 18 #[.string s] w fun e w' => e = .returned (.tuple #[.agg #[.int .u8 0, .int .u8 0, .int .u8 0, .int .u8 0, .int .u8 0, .int .u8 0], .bool false]) ∧ Below w.heap.size w w' := by
  go_enter Try.func18, Try.ntmps18
  go_wp2_with fail
  refine (many_else s _ h4 h16).mono ?_
  rintro e w1 ⟨rfl, hb1⟩
  obtain ⟨hc1, hf1⟩ := bcell hb1
  go_wp2_with fail
  refine (told_any _ _ _ _ _ _ _).mono ?_
  rintro e w2 ⟨rfl, hb2⟩
  obtain ⟨hc2, hf2⟩ := bcell hb2
  have hz1 := hb1.size
  have hz2 := hb2.size
  simp at hz1
  have hz3 : w.heap.size < w1.heap.size := by omega
  have hz4 : w.heap.size < w2.heap.size := by omega
  go_wp2
  refine bodyPost_ret (v := .tuple #[.agg #[.int .u8 0, .int .u8 0, .int .u8 0, .int .u8 0, .int .u8 0, .int .u8 0], .bool false]) (by simp [results, Try.results18, go_sem, hc2, hc1, hz3]) rfl ⟨rfl, ?_⟩
  exact below_cells6 (below_then ((Below.refl _ _).alloc (Nat.le_refl _) _) (by simp) (below_then hb1 hb1.size hb2))

theorem text4 (s : ByteArray) (h : s.size = 4) : ∃ c0 c1 c2 c3, s = ⟨#[c0, c1, c2, c3]⟩ := by
  obtain ⟨⟨l⟩⟩ := s
  match l, h with
  | [c0, c1, c2, c3], _ => exact ⟨c0, c1, c2, c3, rfl⟩
theorem text16 (s : ByteArray) (h : s.size = 16) : ∃ c0 c1 c2 c3 c4 c5 c6 c7 c8 c9 c10 c11 c12 c13 c14 c15, s = ⟨#[c0, c1, c2, c3, c4, c5, c6, c7, c8, c9, c10, c11, c12, c13, c14, c15]⟩ := by
  obtain ⟨⟨l⟩⟩ := s
  match l, h with
  | [c0, c1, c2, c3, c4, c5, c6, c7, c8, c9, c10, c11, c12, c13, c14, c15], _ => exact ⟨c0, c1, c2, c3, c4, c5, c6, c7, c8, c9, c10, c11, c12, c13, c14, c15, rfl⟩

/-- What Many answers, and the reference's Many too. -/
def ManyIs (s : ByteArray) (m0 m1 m2 m3 m4 m5 : Int) (b : Bool) : Prop :=
  (∀ w, Calls Try.prog 18 #[.string s] w fun e w' => e = .returned (.tuple #[.agg #[.int .u8 m0, .int .u8 m1, .int .u8 m2, .int .u8 m3, .int .u8 m4, .int .u8 m5], .bool b]) ∧ Below w.heap.size w w') ∧
  (∀ w, Calls Try.prog 19 #[.string s] w fun e w' => e = .returned (.tuple #[.agg #[.int .u8 m0, .int .u8 m1, .int .u8 m2, .int .u8 m3, .int .u8 m4, .int .u8 m5], .bool b]) ∧ Below w.heap.size w w') ∧ (0 ≤ m0 ∧ m0 ≤ 255) ∧ (b = true → m0 % 2 = 1)
theorem many_is (s : ByteArray) : ∃ m0 m1 m2 m3 m4 m5 b, ManyIs s m0 m1 m2 m3 m4 m5 b := by
  by_cases h4 : s.size = 4
  · obtain ⟨c0, c1, c2, c3, rfl⟩ := text4 s h4
    by_cases h : c0.toNat < 224 ∨ 239 < c0.toNat
    · exact ⟨0, 0, 0, 0, 0, 0, false, fun w => Many4_no c0 c1 c2 c3 w h, fun w => rmany4_no c0 c1 c2 c3 w h, by omega, by simp⟩
    · exact ⟨_, _, _, _, _, _, true, fun w => Many4_yes c0 c1 c2 c3 w (by omega) (by omega), fun w => rmany4_yes c0 c1 c2 c3 w (by omega) (by omega), by omega, by simp⟩
  by_cases h16 : s.size = 16
  · obtain ⟨c0, c1, c2, c3, c4, c5, c6, c7, c8, c9, c10, c11, c12, c13, c14, c15, rfl⟩ := text16 s h16
    by_cases h : c0.toNat = 255
    · exact ⟨_, _, _, _, _, _, true, fun w => Many16_yes c0 c1 c2 c3 c4 c5 c6 c7 c8 c9 c10 c11 c12 c13 c14 c15 w h, fun w => rmany16_yes c0 c1 c2 c3 c4 c5 c6 c7 c8 c9 c10 c11 c12 c13 c14 c15 w h, by omega, by simp⟩
    · exact ⟨0, 0, 0, 0, 0, 0, false, fun w => Many16_no c0 c1 c2 c3 c4 c5 c6 c7 c8 c9 c10 c11 c12 c13 c14 c15 w h, fun w => rmany16_no c0 c1 c2 c3 c4 c5 c6 c7 c8 c9 c10 c11 c12 c13 c14 c15 w h, by omega, by simp⟩
  exact ⟨0, 0, 0, 0, 0, 0, false, fun w => Many_else s w h4 h16, fun w => rmany_else s w h4 h16, by omega, by simp⟩

end Go.Proofs.Ytmjjdgcgngnjhaa
