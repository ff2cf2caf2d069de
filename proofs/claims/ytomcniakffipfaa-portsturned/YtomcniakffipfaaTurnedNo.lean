/-
  The walks of PortsTurned where no byte is turned.
-/
import Derived.Test.YtomcniakffipfaaTurnFacts
namespace Go.Proofs.Ytomcniakffipfaa
open Go.RowKit
set_option linter.unusedVariables false
set_option maxRecDepth 10000

set_option maxHeartbeats 1000000 in
theorem turned_no (f t : ByteArray) (p0 l0 : Int) (s0 : ByteArray) (p a b l k : Int) (x y : Int) (w : World) (hf : f.size ≤ 140737488351232) (ht : t.size ≤ 140737488351232) (h : ¬ WrOk f t l0 6 a b l k ⟨#[100, 97, 116, 97]⟩) : Calls Try.prog 5 #[.agg #[.string f, .string t, .int .i64 p0, .int .i64 l0, .string s0], .agg #[.int .i64 p, .int .i64 a, .int .i64 b, .int .i64 l, .int .i64 k], .agg #[.int .i64 x, .int .i64 y]] w fun e w' => e = .returned (.bool true) ∧ Below w.heap.size w w' := by
  have HOK := Lib.hid h
  clear h
  have e1 : wrE 6 = 1 := rfl
  have HX0 : Hid ((((w.alloc (.cells #[.string f, .string t, .int .i64 p0, .int .i64 l0, .string s0] 24)).alloc (.cells #[.int .i64 6, .int .i64 a, .int .i64 b, .int .i64 l, .int .i64 k] 26)).alloc (.cells #[.int .i64 x, .int .i64 y] 41)).cell? ⟨w.heap.size + 1 + 1, 0, none⟩ = some (.int .i64 x) ∧ (((w.alloc (.cells #[.string f, .string t, .int .i64 p0, .int .i64 l0, .string s0] 24)).alloc (.cells #[.int .i64 6, .int .i64 a, .int .i64 b, .int .i64 l, .int .i64 k] 26)).alloc (.cells #[.int .i64 x, .int .i64 y] 41)).cell? ⟨w.heap.size + 1 + 1, 1, none⟩ = some (.int .i64 y)) := Lib.hid (by simp [go_sem])
  go_enter Try.func5, Try.ntmps5
  go_wp2_with fail
  refine (write_not f t p0 l0 s0 6 a b l k ⟨#[100, 97, 116, 97]⟩ _ hf ht (by decide) HOK.out).mono ?_
  rintro e w1 ⟨rfl, hb1'⟩
  have hb1 : Below (w.heap.size + 1 + 1 + 1) (((w.alloc (.cells #[.string f, .string t, .int .i64 p0, .int .i64 l0, .string s0] 24)).alloc (.cells #[.int .i64 6, .int .i64 a, .int .i64 b, .int .i64 l, .int .i64 k] 26)).alloc (.cells #[.int .i64 x, .int .i64 y] 41)) w1 := by simpa using hb1'
  have HB1 := Lib.hid (((((Below.refl w.heap.size _).alloc (Nat.le_refl _) _).alloc (by simp) _).alloc (by simp; omega) _).trans (hb1.mono (by omega)))
  have cx : w1.cell? ⟨w.heap.size + 1 + 1, 0, none⟩ = some (.int .i64 x) := (hb1.cell (p := ⟨_, 0, none⟩) (by simp)).trans HX0.out.1
  have cy : w1.cell? ⟨w.heap.size + 1 + 1, 1, none⟩ = some (.int .i64 y) := (hb1.cell (p := ⟨_, 1, none⟩) (by simp)).trans HX0.out.2
  have n1 : w.heap.size + 1 + 1 < w1.heap.size := World.block_lt_of_cell? _ _ cx
  have n0 : w.heap.size ≤ w1.heap.size := by omega
  clear hb1 hb1'
  go_wp2_with fail
  refine (alive_any _).mono ?_
  rintro e w2 ⟨rfl, hb2⟩
  go_wp2
  go_ret
  exact ⟨rfl, (HB1.out.alloc n0 _).trans (hb2.mono (by simp; omega))⟩

set_option maxHeartbeats 1000000 in
theorem turned_x (f t : ByteArray) (p0 l0 : Int) (s0 : ByteArray) (p a b l k : Int) (x y : Int) (w : World) (hf : f.size ≤ 140737488351232) (ht : t.size ≤ 140737488351232) (h : WrOk f t l0 6 a b l k ⟨#[100, 97, 116, 97]⟩) (hx : x < 0 ∨ y < 1 ∨ 255 < y) : Calls Try.prog 5 #[.agg #[.string f, .string t, .int .i64 p0, .int .i64 l0, .string s0], .agg #[.int .i64 p, .int .i64 a, .int .i64 b, .int .i64 l, .int .i64 k], .agg #[.int .i64 x, .int .i64 y]] w fun e w' => e = .returned (.bool true) ∧ Below w.heap.size w w' := by
  obtain ⟨B, hB⟩ : ∃ B, B = wrBody f t 6 a b l ⟨#[100, 97, 116, 97]⟩ := ⟨_, rfl⟩
  have hsz : B.size = 24 := by rw [hB, wrBody_size]; rfl
  have HBB := Lib.hid hB
  have HOK := Lib.hid h
  clear h hB
  by_cases h1 : x < 0
  · have d1 : decide (x < 0) = true := by simpa using h1
    clear hx
    have HX0 : Hid ((((w.alloc (.cells #[.string f, .string t, .int .i64 p0, .int .i64 l0, .string s0] 24)).alloc (.cells #[.int .i64 6, .int .i64 a, .int .i64 b, .int .i64 l, .int .i64 k] 26)).alloc (.cells #[.int .i64 x, .int .i64 y] 41)).cell? ⟨w.heap.size + 1 + 1, 0, none⟩ = some (.int .i64 x) ∧ (((w.alloc (.cells #[.string f, .string t, .int .i64 p0, .int .i64 l0, .string s0] 24)).alloc (.cells #[.int .i64 6, .int .i64 a, .int .i64 b, .int .i64 l, .int .i64 k] 26)).alloc (.cells #[.int .i64 x, .int .i64 y] 41)).cell? ⟨w.heap.size + 1 + 1, 1, none⟩ = some (.int .i64 y)) := Lib.hid (by simp [go_sem])
    go_enter Try.func5, Try.ntmps5
    go_wp2_with fail
    refine (write_yes f t p0 l0 s0 6 a b l k ⟨#[100, 97, 116, 97]⟩ _ hf ht (by decide) HOK.out).mono ?_
    rintro e w1 ⟨rfl, hb1'⟩
    rw [← HBB.out]
    have hb1 : Below (w.heap.size + 1 + 1 + 1) (((w.alloc (.cells #[.string f, .string t, .int .i64 p0, .int .i64 l0, .string s0] 24)).alloc (.cells #[.int .i64 6, .int .i64 a, .int .i64 b, .int .i64 l, .int .i64 k] 26)).alloc (.cells #[.int .i64 x, .int .i64 y] 41)) w1 := by simpa using hb1'
    have HB1 := Lib.hid (((((Below.refl w.heap.size _).alloc (Nat.le_refl _) _).alloc (by simp) _).alloc (by simp; omega) _).trans (hb1.mono (by omega)))
    have cx : w1.cell? ⟨w.heap.size + 1 + 1, 0, none⟩ = some (.int .i64 x) := (hb1.cell (p := ⟨_, 0, none⟩) (by simp)).trans HX0.out.1
    have cy : w1.cell? ⟨w.heap.size + 1 + 1, 1, none⟩ = some (.int .i64 y) := (hb1.cell (p := ⟨_, 1, none⟩) (by simp)).trans HX0.out.2
    have n1 : w.heap.size + 1 + 1 < w1.heap.size := World.block_lt_of_cell? _ _ cx
    have n0 : w.heap.size ≤ w1.heap.size := by omega
    clear hb1 hb1'
    go_wp2_with fail
    refine (alive_any _).mono ?_
    rintro e w2 ⟨rfl, hb2⟩
    go_wp2
    go_ret
    exact ⟨rfl, (HB1.out.alloc n0 _).trans (hb2.mono (by simp; omega))⟩
  have d1 : decide (x < 0) = false := by simpa using h1
  by_cases h2 : y < 1
  · have d2 : decide (y < 1) = true := by simpa using h2
    clear hx
    have HX0 : Hid ((((w.alloc (.cells #[.string f, .string t, .int .i64 p0, .int .i64 l0, .string s0] 24)).alloc (.cells #[.int .i64 6, .int .i64 a, .int .i64 b, .int .i64 l, .int .i64 k] 26)).alloc (.cells #[.int .i64 x, .int .i64 y] 41)).cell? ⟨w.heap.size + 1 + 1, 0, none⟩ = some (.int .i64 x) ∧ (((w.alloc (.cells #[.string f, .string t, .int .i64 p0, .int .i64 l0, .string s0] 24)).alloc (.cells #[.int .i64 6, .int .i64 a, .int .i64 b, .int .i64 l, .int .i64 k] 26)).alloc (.cells #[.int .i64 x, .int .i64 y] 41)).cell? ⟨w.heap.size + 1 + 1, 1, none⟩ = some (.int .i64 y)) := Lib.hid (by simp [go_sem])
    go_enter Try.func5, Try.ntmps5
    go_wp2_with fail
    refine (write_yes f t p0 l0 s0 6 a b l k ⟨#[100, 97, 116, 97]⟩ _ hf ht (by decide) HOK.out).mono ?_
    rintro e w1 ⟨rfl, hb1'⟩
    rw [← HBB.out]
    have hb1 : Below (w.heap.size + 1 + 1 + 1) (((w.alloc (.cells #[.string f, .string t, .int .i64 p0, .int .i64 l0, .string s0] 24)).alloc (.cells #[.int .i64 6, .int .i64 a, .int .i64 b, .int .i64 l, .int .i64 k] 26)).alloc (.cells #[.int .i64 x, .int .i64 y] 41)) w1 := by simpa using hb1'
    have HB1 := Lib.hid (((((Below.refl w.heap.size _).alloc (Nat.le_refl _) _).alloc (by simp) _).alloc (by simp; omega) _).trans (hb1.mono (by omega)))
    have cx : w1.cell? ⟨w.heap.size + 1 + 1, 0, none⟩ = some (.int .i64 x) := (hb1.cell (p := ⟨_, 0, none⟩) (by simp)).trans HX0.out.1
    have cy : w1.cell? ⟨w.heap.size + 1 + 1, 1, none⟩ = some (.int .i64 y) := (hb1.cell (p := ⟨_, 1, none⟩) (by simp)).trans HX0.out.2
    have n1 : w.heap.size + 1 + 1 < w1.heap.size := World.block_lt_of_cell? _ _ cx
    have n0 : w.heap.size ≤ w1.heap.size := by omega
    clear hb1 hb1'
    go_wp2_with fail
    refine (alive_any _).mono ?_
    rintro e w2 ⟨rfl, hb2⟩
    go_wp2
    go_ret
    exact ⟨rfl, (HB1.out.alloc n0 _).trans (hb2.mono (by simp; omega))⟩
  have d2 : decide (y < 1) = false := by simpa using h2
  have d3 : decide (255 < y) = true := by simp; omega
  clear hx
  have HX0 : Hid ((((w.alloc (.cells #[.string f, .string t, .int .i64 p0, .int .i64 l0, .string s0] 24)).alloc (.cells #[.int .i64 6, .int .i64 a, .int .i64 b, .int .i64 l, .int .i64 k] 26)).alloc (.cells #[.int .i64 x, .int .i64 y] 41)).cell? ⟨w.heap.size + 1 + 1, 0, none⟩ = some (.int .i64 x) ∧ (((w.alloc (.cells #[.string f, .string t, .int .i64 p0, .int .i64 l0, .string s0] 24)).alloc (.cells #[.int .i64 6, .int .i64 a, .int .i64 b, .int .i64 l, .int .i64 k] 26)).alloc (.cells #[.int .i64 x, .int .i64 y] 41)).cell? ⟨w.heap.size + 1 + 1, 1, none⟩ = some (.int .i64 y)) := Lib.hid (by simp [go_sem])
  go_enter Try.func5, Try.ntmps5
  go_wp2_with fail
  refine (write_yes f t p0 l0 s0 6 a b l k ⟨#[100, 97, 116, 97]⟩ _ hf ht (by decide) HOK.out).mono ?_
  rintro e w1 ⟨rfl, hb1'⟩
  rw [← HBB.out]
  have hb1 : Below (w.heap.size + 1 + 1 + 1) (((w.alloc (.cells #[.string f, .string t, .int .i64 p0, .int .i64 l0, .string s0] 24)).alloc (.cells #[.int .i64 6, .int .i64 a, .int .i64 b, .int .i64 l, .int .i64 k] 26)).alloc (.cells #[.int .i64 x, .int .i64 y] 41)) w1 := by simpa using hb1'
  have HB1 := Lib.hid (((((Below.refl w.heap.size _).alloc (Nat.le_refl _) _).alloc (by simp) _).alloc (by simp; omega) _).trans (hb1.mono (by omega)))
  have cx : w1.cell? ⟨w.heap.size + 1 + 1, 0, none⟩ = some (.int .i64 x) := (hb1.cell (p := ⟨_, 0, none⟩) (by simp)).trans HX0.out.1
  have cy : w1.cell? ⟨w.heap.size + 1 + 1, 1, none⟩ = some (.int .i64 y) := (hb1.cell (p := ⟨_, 1, none⟩) (by simp)).trans HX0.out.2
  have n1 : w.heap.size + 1 + 1 < w1.heap.size := World.block_lt_of_cell? _ _ cx
  have n0 : w.heap.size ≤ w1.heap.size := by omega
  clear hb1 hb1'
  go_wp2_with fail
  refine (alive_any _).mono ?_
  rintro e w2 ⟨rfl, hb2⟩
  go_wp2
  go_ret
  exact ⟨rfl, (HB1.out.alloc n0 _).trans (hb2.mono (by simp; omega))⟩

set_option maxHeartbeats 1000000 in
theorem turned_far (f t : ByteArray) (p0 l0 : Int) (s0 : ByteArray) (p a b l k : Int) (x y : Int) (w : World) (hf : f.size ≤ 140737488351232) (ht : t.size ≤ 140737488351232) (h : WrOk f t l0 6 a b l k ⟨#[100, 97, 116, 97]⟩) (hx : 24 + (f.size : Int) ≤ x) (hx2 : x ≤ 9223372036854775807) (hy : 1 ≤ y ∧ y ≤ 255) : Calls Try.prog 5 #[.agg #[.string f, .string t, .int .i64 p0, .int .i64 l0, .string s0], .agg #[.int .i64 p, .int .i64 a, .int .i64 b, .int .i64 l, .int .i64 k], .agg #[.int .i64 x, .int .i64 y]] w fun e w' => e = .returned (.bool true) ∧ Below w.heap.size w w' := by
  obtain ⟨B, hB⟩ : ∃ B, B = wrBody f t 6 a b l ⟨#[100, 97, 116, 97]⟩ := ⟨_, rfl⟩
  have hsz : B.size = 24 := by rw [hB, wrBody_size]; rfl
  have HBB := Lib.hid hB
  have HOK := Lib.hid h
  have hf16 := (okp_small h.2.2).1
  clear h hB
  have d1 : decide (x < 0) = false := decide_eq_false (by omega)
  have d2 : decide (y < 1) = false := decide_eq_false (by omega)
  have d3 : decide (255 < y) = false := decide_eq_false (by omega)
  have d4 : decide (24 ≤ x) = true := decide_eq_true (by omega)
  have d5 : decide ((f.size : Int) ≤ x - 24) = true := decide_eq_true (by omega)
  have HX0 : Hid ((((w.alloc (.cells #[.string f, .string t, .int .i64 p0, .int .i64 l0, .string s0] 24)).alloc (.cells #[.int .i64 6, .int .i64 a, .int .i64 b, .int .i64 l, .int .i64 k] 26)).alloc (.cells #[.int .i64 x, .int .i64 y] 41)).cell? ⟨w.heap.size + 1 + 1, 0, none⟩ = some (.int .i64 x) ∧ (((w.alloc (.cells #[.string f, .string t, .int .i64 p0, .int .i64 l0, .string s0] 24)).alloc (.cells #[.int .i64 6, .int .i64 a, .int .i64 b, .int .i64 l, .int .i64 k] 26)).alloc (.cells #[.int .i64 x, .int .i64 y] 41)).cell? ⟨w.heap.size + 1 + 1, 1, none⟩ = some (.int .i64 y)) := Lib.hid (by simp [go_sem])
  go_enter Try.func5, Try.ntmps5
  go_wp2_with fail
  refine (write_yes f t p0 l0 s0 6 a b l k ⟨#[100, 97, 116, 97]⟩ _ hf ht (by decide) HOK.out).mono ?_
  rintro e w1 ⟨rfl, hb1'⟩
  rw [← HBB.out]
  have hb1 : Below (w.heap.size + 1 + 1 + 1) (((w.alloc (.cells #[.string f, .string t, .int .i64 p0, .int .i64 l0, .string s0] 24)).alloc (.cells #[.int .i64 6, .int .i64 a, .int .i64 b, .int .i64 l, .int .i64 k] 26)).alloc (.cells #[.int .i64 x, .int .i64 y] 41)) w1 := by simpa using hb1'
  have HB1 := Lib.hid (((((Below.refl w.heap.size _).alloc (Nat.le_refl _) _).alloc (by simp) _).alloc (by simp; omega) _).trans (hb1.mono (by omega)))
  have cx : w1.cell? ⟨w.heap.size + 1 + 1, 0, none⟩ = some (.int .i64 x) := (hb1.cell (p := ⟨_, 0, none⟩) (by simp)).trans HX0.out.1
  have cy : w1.cell? ⟨w.heap.size + 1 + 1, 1, none⟩ = some (.int .i64 y) := (hb1.cell (p := ⟨_, 1, none⟩) (by simp)).trans HX0.out.2
  have n1 : w.heap.size + 1 + 1 < w1.heap.size := World.block_lt_of_cell? _ _ cx
  have n0 : w.heap.size ≤ w1.heap.size := by omega
  clear hb1 hb1'
  go_wp2_with fail
  refine (alive_any _).mono ?_
  rintro e w2 ⟨rfl, hb2⟩
  go_wp2
  go_ret
  exact ⟨rfl, (HB1.out.alloc n0 _).trans (hb2.mono (by simp; omega))⟩

end Go.Proofs.Ytomcniakffipfaa
