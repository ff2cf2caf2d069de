/-
  The walks of PortsErrors where nothing is quoted.
-/
import Derived.Test.YtomcniakffipfaaDoorErrFacts
namespace Go.Proofs.YtomcniakffipfaaDoor
open Go.RowKit
set_option linter.unusedVariables false
set_option maxRecDepth 10000

set_option maxHeartbeats 1000000 in
theorem errors_no (f t : ByteArray) (p0 l0 : Int) (s0 : ByteArray) (p a b l k : Int) (x : Int) (w : World) (hf : f.size ≤ 140737488351232) (ht : t.size ≤ 140737488351232) (h : ¬ WrOk f t l0 p a b l k ⟨#[100, 97, 116, 97]⟩) : Calls Tryd.prog 4 #[.agg #[.string f, .string t, .int .i64 p0, .int .i64 l0, .string s0], .agg #[.int .i64 p, .int .i64 a, .int .i64 b, .int .i64 l, .int .i64 k], .int .i64 x] w fun e w' => e = .returned (.bool true) ∧ Below w.heap.size w w' := by
  obtain ⟨r, hr⟩ : ∃ r, r = wrE p := ⟨_, rfl⟩
  have hr0 := wrE_ne p
  rw [← hr] at hr0
  have d2 : (r != 0) = true := by simpa using hr0
  have HR := Lib.hid hr
  have HOK := Lib.hid h
  clear h hr
  go_enter Tryd.func4, Tryd.ntmps4
  go_wp2_with fail
  refine (write_not f t p0 l0 s0 p a b l k ⟨#[100, 97, 116, 97]⟩ _ hf ht (by decide) HOK.out).mono ?_
  rintro e w1 ⟨rfl, hb1'⟩
  rw [← HR.out]
  have hb1 : Below (w.heap.size + 1 + 1) ((w.alloc (.cells #[.string f, .string t, .int .i64 p0, .int .i64 l0, .string s0] 24)).alloc (.cells #[.int .i64 p, .int .i64 a, .int .i64 b, .int .i64 l, .int .i64 k] 33)) w1 := by simpa using hb1'
  have HB1 := Lib.hid ((((Below.refl w.heap.size _).alloc (Nat.le_refl _) _).alloc (by simp) _).trans (hb1.mono (by omega)))
  have HX1 := Lib.hid (((Boxed.new w f t p0 l0 s0).below ((Below.refl (w.heap.size + 1) _).alloc (by simp) _) (by simp)).below hb1 (by omega))
  obtain ⟨x0, x1, x2, x3, x4⟩ := HX1.out
  have n1 : w.heap.size < w1.heap.size := World.block_lt_of_cell? _ _ x0
  have n0 : w.heap.size ≤ w1.heap.size := by omega
  clear hb1 hb1'
  go_wp2_with fail
  refine (alive_any _).mono ?_
  rintro e w2 ⟨rfl, hb2⟩
  go_wp2
  go_ret
  exact ⟨rfl, (HB1.out.alloc n0 _).trans (hb2.mono (by simp; omega))⟩

set_option maxHeartbeats 1000000 in
theorem errors_six (f t : ByteArray) (p0 l0 : Int) (s0 : ByteArray) (p a b l k : Int) (x : Int) (w : World) (hf : f.size ≤ 140737488351232) (ht : t.size ≤ 140737488351232) (h : WrOk f t l0 p a b l k ⟨#[100, 97, 116, 97]⟩) (h6 : f.size = 16) : Calls Tryd.prog 4 #[.agg #[.string f, .string t, .int .i64 p0, .int .i64 l0, .string s0], .agg #[.int .i64 p, .int .i64 a, .int .i64 b, .int .i64 l, .int .i64 k], .int .i64 x] w fun e w' => e = .returned (.bool true) ∧ Below w.heap.size w w' := by
  obtain ⟨B, hB⟩ : ∃ B, B = wrBody f t p a b l ⟨#[100, 97, 116, 97]⟩ := ⟨_, rfl⟩
  have HBB := Lib.hid hB
  have HOK := Lib.hid h
  have H6 := Lib.hid (show decide (f.size = 16) = true by simpa using h6)
  clear h hB h6
  go_enter Tryd.func4, Tryd.ntmps4
  go_wp2_with fail
  refine (write_yes f t p0 l0 s0 p a b l k ⟨#[100, 97, 116, 97]⟩ _ hf ht (by decide) HOK.out).mono ?_
  rintro e w1 ⟨rfl, hb1'⟩
  rw [← HBB.out]
  have hb1 : Below (w.heap.size + 1 + 1) ((w.alloc (.cells #[.string f, .string t, .int .i64 p0, .int .i64 l0, .string s0] 24)).alloc (.cells #[.int .i64 p, .int .i64 a, .int .i64 b, .int .i64 l, .int .i64 k] 33)) w1 := by simpa using hb1'
  have HB1 := Lib.hid ((((Below.refl w.heap.size _).alloc (Nat.le_refl _) _).alloc (by simp) _).trans (hb1.mono (by omega)))
  have HX1 := Lib.hid (((Boxed.new w f t p0 l0 s0).below ((Below.refl (w.heap.size + 1) _).alloc (by simp) _) (by simp)).below hb1 (by omega))
  obtain ⟨x0, x1, x2, x3, x4⟩ := HX1.out
  have n1 : w.heap.size < w1.heap.size := World.block_lt_of_cell? _ _ x0
  have n0 : w.heap.size ≤ w1.heap.size := by omega
  clear hb1 hb1'
  go_wp2_with fail
  refine (six_at hf H6.out).mono ?_
  rintro e w' ⟨rfl, rfl⟩
  go_wp2_with fail
  refine (alive_any _).mono ?_
  rintro e w2 ⟨rfl, hb2⟩
  go_wp2
  go_ret
  exact ⟨rfl, (HB1.out.alloc n0 _).trans (hb2.mono (by simp; omega))⟩

set_option maxHeartbeats 1000000 in
theorem errors_lo (f t : ByteArray) (p0 l0 : Int) (s0 : ByteArray) (p a b l k : Int) (x : Int) (w : World) (hf : f.size ≤ 140737488351232) (ht : t.size ≤ 140737488351232) (h : WrOk f t l0 p a b l k ⟨#[100, 97, 116, 97]⟩) (h6 : f.size ≠ 16) (hx : x < 0) : Calls Tryd.prog 4 #[.agg #[.string f, .string t, .int .i64 p0, .int .i64 l0, .string s0], .agg #[.int .i64 p, .int .i64 a, .int .i64 b, .int .i64 l, .int .i64 k], .int .i64 x] w fun e w' => e = .returned (.bool true) ∧ Below w.heap.size w w' := by
  obtain ⟨B, hB⟩ : ∃ B, B = wrBody f t p a b l ⟨#[100, 97, 116, 97]⟩ := ⟨_, rfl⟩
  have HBB := Lib.hid hB
  have HOK := Lib.hid h
  have H6 := Lib.hid (show decide (f.size = 16) = false by simpa using h6)
  have d1 : decide (x < 0) = true := by simpa using hx
  clear h hB h6
  go_enter Tryd.func4, Tryd.ntmps4
  go_wp2_with fail
  refine (write_yes f t p0 l0 s0 p a b l k ⟨#[100, 97, 116, 97]⟩ _ hf ht (by decide) HOK.out).mono ?_
  rintro e w1 ⟨rfl, hb1'⟩
  rw [← HBB.out]
  have hb1 : Below (w.heap.size + 1 + 1) ((w.alloc (.cells #[.string f, .string t, .int .i64 p0, .int .i64 l0, .string s0] 24)).alloc (.cells #[.int .i64 p, .int .i64 a, .int .i64 b, .int .i64 l, .int .i64 k] 33)) w1 := by simpa using hb1'
  have HB1 := Lib.hid ((((Below.refl w.heap.size _).alloc (Nat.le_refl _) _).alloc (by simp) _).trans (hb1.mono (by omega)))
  have HX1 := Lib.hid (((Boxed.new w f t p0 l0 s0).below ((Below.refl (w.heap.size + 1) _).alloc (by simp) _) (by simp)).below hb1 (by omega))
  obtain ⟨x0, x1, x2, x3, x4⟩ := HX1.out
  have n1 : w.heap.size < w1.heap.size := World.block_lt_of_cell? _ _ x0
  have n0 : w.heap.size ≤ w1.heap.size := by omega
  clear hb1 hb1'
  go_wp2_with fail
  refine (six_at hf H6.out).mono ?_
  rintro e w' ⟨rfl, rfl⟩
  go_wp2_with fail
  refine (alive_any _).mono ?_
  rintro e w2 ⟨rfl, hb2⟩
  go_wp2
  go_ret
  exact ⟨rfl, (HB1.out.alloc n0 _).trans (hb2.mono (by simp; omega))⟩

set_option maxHeartbeats 1000000 in
theorem errors_hi (f t : ByteArray) (p0 l0 : Int) (s0 : ByteArray) (p a b l k : Int) (x : Int) (w : World) (hf : f.size ≤ 140737488351232) (ht : t.size ≤ 140737488351232) (h : WrOk f t l0 p a b l k ⟨#[100, 97, 116, 97]⟩) (h6 : f.size ≠ 16) (hx : 20 < x) : Calls Tryd.prog 4 #[.agg #[.string f, .string t, .int .i64 p0, .int .i64 l0, .string s0], .agg #[.int .i64 p, .int .i64 a, .int .i64 b, .int .i64 l, .int .i64 k], .int .i64 x] w fun e w' => e = .returned (.bool true) ∧ Below w.heap.size w w' := by
  obtain ⟨B, hB⟩ : ∃ B, B = wrBody f t p a b l ⟨#[100, 97, 116, 97]⟩ := ⟨_, rfl⟩
  have HBB := Lib.hid hB
  have HOK := Lib.hid h
  have H6 := Lib.hid (show decide (f.size = 16) = false by simpa using h6)
  have d1 : decide (x < 0) = false := decide_eq_false (by omega)
  have d2 : decide (20 < x) = true := decide_eq_true (by omega)
  clear h hB h6
  go_enter Tryd.func4, Tryd.ntmps4
  go_wp2_with fail
  refine (write_yes f t p0 l0 s0 p a b l k ⟨#[100, 97, 116, 97]⟩ _ hf ht (by decide) HOK.out).mono ?_
  rintro e w1 ⟨rfl, hb1'⟩
  rw [← HBB.out]
  have hb1 : Below (w.heap.size + 1 + 1) ((w.alloc (.cells #[.string f, .string t, .int .i64 p0, .int .i64 l0, .string s0] 24)).alloc (.cells #[.int .i64 p, .int .i64 a, .int .i64 b, .int .i64 l, .int .i64 k] 33)) w1 := by simpa using hb1'
  have HB1 := Lib.hid ((((Below.refl w.heap.size _).alloc (Nat.le_refl _) _).alloc (by simp) _).trans (hb1.mono (by omega)))
  have HX1 := Lib.hid (((Boxed.new w f t p0 l0 s0).below ((Below.refl (w.heap.size + 1) _).alloc (by simp) _) (by simp)).below hb1 (by omega))
  obtain ⟨x0, x1, x2, x3, x4⟩ := HX1.out
  have n1 : w.heap.size < w1.heap.size := World.block_lt_of_cell? _ _ x0
  have n0 : w.heap.size ≤ w1.heap.size := by omega
  clear hb1 hb1'
  go_wp2_with fail
  refine (six_at hf H6.out).mono ?_
  rintro e w' ⟨rfl, rfl⟩
  go_wp2_with fail
  refine (alive_any _).mono ?_
  rintro e w2 ⟨rfl, hb2⟩
  go_wp2
  go_ret
  exact ⟨rfl, (HB1.out.alloc n0 _).trans (hb2.mono (by simp; omega))⟩


end Go.Proofs.YtomcniakffipfaaDoor
