/-
  What outriderref06.Decode does with a packet whose sum is amiss, or what it says.
-/
import Derived.Test.YthhomfchoomelaaRdbox
namespace Go.Proofs.Ythhomfchoomelaa
open Go.RowKit
set_option linter.unusedVariables false
set_option maxRecDepth 10000

set_option maxHeartbeats 1000000 in
theorem rd_sum4 (f t : ByteArray) (p l : Int) (s : ByteArray) (w : World) (hf : f.size ≤ 140737488351232) (ht : t.size ≤ 140737488351232) (hs : s.size ≤ 140737488351232) (hl : l = 255) (hp : p = 112) (h4 : f.size = 4) (ht2 : t.size = f.size) (h8 : 8 ≤ s.size) (hv : byteAt (bts s) 0 / 16 = 3) (hy : byteAt (bts s) 0 % 16 = 1) (h1 : 1 ≤ byteAt (bts s) 3) (h2 : byteAt (bts s) 3 ≤ 8) (HSZ : Hid ((s.size : Int) = 8 + byteAt (bts s) 3 * f.size)) (v : Int) (hvv : fd (tot (psx f t 112 (s.size : Int) ++ bts s)) = v) (h : v ≠ 65535) :
    Calls Try.prog 15 #[.agg #[.string f, .string t, .int .i64 p, .int .i64 l, .string s]] w fun e w' => e = .returned (.tuple #[.agg #[.int .i64 0, .int .i64 0, .int .i64 0, .slice none 0 0], .int .i64 64]) ∧ Below w.heap.size w w' := by
  have l1a : decide (l = 255) = true := by first | exact decide_eq_true (by omega) | (simp; omega)
  have l1b : (l != 255) = false := by first | (simp; omega) | simpa using l1a
  have p1a : decide (p = 112) = true := by first | exact decide_eq_true (by omega) | (simp; omega)
  have p1b : (p != 112) = false := by first | (simp; omega) | simpa using p1a
  have f4a : decide ((f.size : Int) = 4) = true := by first | exact decide_eq_true (by omega) | (simp; omega)
  have f4b : ((f.size : Int) != 4) = false := by first | (simp; omega) | simpa using f4a
  have f4c : decide (f.size = 4) = true := decide_eq_true (by omega)
  have t1 : ((t.size : Int) != (f.size : Int)) = false := by simp; omega
  have t2 : decide ((t.size : Int) = (f.size : Int)) = true := decide_eq_true (by omega)
  have s8 : ¬ (s.size : Int) < 8 := by omega
  have s8b : decide ((s.size : Int) < 8) = false := decide_eq_false (by omega)
  have i0 : (0 : Int) < (s.size : Int) := by omega
  have i1 : (1 : Int) < (s.size : Int) := by omega
  have i2 : (2 : Int) < (s.size : Int) := by omega
  have i3 : (3 : Int) < (s.size : Int) := by omega
  have i4 : (4 : Int) < (s.size : Int) := by omega
  have i5 : (5 : Int) < (s.size : Int) := by omega
  obtain ⟨x0, hx0⟩ : ∃ x : Int, (s[0].toNat : Int) = x := ⟨_, rfl⟩
  have b0 := byte_le s[0]
  rw [hx0] at b0
  obtain ⟨x3, hx3⟩ : ∃ x : Int, (s[3].toNat : Int) = x := ⟨_, rfl⟩
  have b3 := byte_le s[3]
  rw [hx3] at b3
  rw [byteAt_text s 0 (by omega), hx0] at hv hy
  have va : decide (x0 / 16 = 3) = true := by first | exact decide_eq_true (by omega) | (simp; omega)
  have vb : (x0 / 16 != 3) = false := by first | (simp; omega) | simpa using va
  have ya : decide (x0 % 16 = 1) = true := by first | exact decide_eq_true (by omega) | (simp; omega)
  have yb : (x0 % 16 != 1) = false := by first | (simp; omega) | simpa using ya
  have hsz := HSZ.out
  rw [byteAt_text s 3 (by omega), hx3] at hsz h1 h2
  have c1 : decide (x3 < 1) = false := decide_eq_false (by omega)
  have c2 : decide (8 < x3) = false := decide_eq_false (by omega)
  have w0 : IntKind.i64.wrap x3 = x3 := by rw [IntKind.wrap_i64]; omega
  have wq : IntKind.i64.wrap ((f.size : Int) * x3) = 4 * x3 := by rw [IntKind.wrap_i64, h4]; omega
  have hsm : s.size ≤ 136 := by rw [h4] at hsz; omega
  have c3 : ((s.size : Int) != 8 + 4 * x3) = false := by rw [h4] at hsz; simp; omega
  have HR := Lib.hid (fun w => rsum_pk f t s v w hf ht (by omega) hvv)
  have cv : (v != 65535) = true := by simpa using h
  clear hl hp h4 ht2 hv hy hsz HSZ
  clear hvv h
  go_enter Try.func15, Try.ntmps15
  go_wp2_with fail
  refine (HR.out _).mono ?_
  rintro e w1 ⟨rfl, hb1⟩
  have HB1 := Lib.hid ((((Below.refl _ w).alloc (Nat.le_refl _) (.cells #[.string f, .string t, .int .i64 p, .int .i64 l, .string s] 28)).alloc (by simp) (.cells #[.int .i64 0, .int .i64 0, .int .i64 0, .slice none 0 0] 24)).trans (hb1.mono (by simp; omega)))
  have hbb : Below (w.heap.size + 1 + 1) ((w.alloc (.cells #[.string f, .string t, .int .i64 p, .int .i64 l, .string s] 28)).alloc (.cells #[.int .i64 0, .int .i64 0, .int .i64 0, .slice none 0 0] 24)) w1 := by simpa using hb1
  have hA := (BoxD.new (w.alloc (.cells #[.string f, .string t, .int .i64 p, .int .i64 l, .string s] 28)) 0 0 0 (.slice none 0 0)).below hbb (by simp)
  simp only [World.size_alloc] at hA
  have HA := Lib.hid hA
  obtain ⟨a0, a1, a2, a3⟩ := hA.cells
  have af : ∀ o, w1.frozen? ⟨w.heap.size + 1, o, none⟩ = false := hA.free
  have n1 : w.heap.size + 1 < w1.heap.size := hA.lt
  clear hb1 hA hbb
  go_wp2
  exact bodyPost_ret (v := .tuple #[.agg #[.int .i64 0, .int .i64 0, .int .i64 0, .slice none 0 0], .int .i64 64]) (by simp [results, Try.results15, go_sem, *]) rfl ⟨rfl, below4 HB1.out (by omega)⟩

set_option maxHeartbeats 1000000 in
theorem rd_sum6 (f t : ByteArray) (p l : Int) (s : ByteArray) (w : World) (hf : f.size ≤ 140737488351232) (ht : t.size ≤ 140737488351232) (hs : s.size ≤ 140737488351232) (hl : l = 255) (hp : p = 112) (h4 : f.size = 16) (ht2 : t.size = f.size) (h8 : 8 ≤ s.size) (hv : byteAt (bts s) 0 / 16 = 3) (hy : byteAt (bts s) 0 % 16 = 1) (h1 : 1 ≤ byteAt (bts s) 3) (h2 : byteAt (bts s) 3 ≤ 8) (HSZ : Hid ((s.size : Int) = 8 + byteAt (bts s) 3 * f.size)) (v : Int) (hvv : fd (tot (psx f t 112 (s.size : Int) ++ bts s)) = v) (h : v ≠ 65535) :
    Calls Try.prog 15 #[.agg #[.string f, .string t, .int .i64 p, .int .i64 l, .string s]] w fun e w' => e = .returned (.tuple #[.agg #[.int .i64 0, .int .i64 0, .int .i64 0, .slice none 0 0], .int .i64 64]) ∧ Below w.heap.size w w' := by
  have l1a : decide (l = 255) = true := by first | exact decide_eq_true (by omega) | (simp; omega)
  have l1b : (l != 255) = false := by first | (simp; omega) | simpa using l1a
  have p1a : decide (p = 112) = true := by first | exact decide_eq_true (by omega) | (simp; omega)
  have p1b : (p != 112) = false := by first | (simp; omega) | simpa using p1a
  have f4a : decide ((f.size : Int) = 4) = false := by first | exact decide_eq_false (by omega) | (simp; omega)
  have f4b : ((f.size : Int) != 4) = true := by first | (simp; omega) | simpa using f4a
  have f4c : decide (f.size = 4) = false := decide_eq_false (by omega)
  have f6a : decide ((f.size : Int) = 16) = true := by first | exact decide_eq_true (by omega) | (simp; omega)
  have f6b : ((f.size : Int) != 16) = false := by first | (simp; omega) | simpa using f6a
  have f6c : decide (f.size = 16) = true := decide_eq_true (by omega)
  have t1 : ((t.size : Int) != (f.size : Int)) = false := by simp; omega
  have t2 : decide ((t.size : Int) = (f.size : Int)) = true := decide_eq_true (by omega)
  have s8 : ¬ (s.size : Int) < 8 := by omega
  have s8b : decide ((s.size : Int) < 8) = false := decide_eq_false (by omega)
  have i0 : (0 : Int) < (s.size : Int) := by omega
  have i1 : (1 : Int) < (s.size : Int) := by omega
  have i2 : (2 : Int) < (s.size : Int) := by omega
  have i3 : (3 : Int) < (s.size : Int) := by omega
  have i4 : (4 : Int) < (s.size : Int) := by omega
  have i5 : (5 : Int) < (s.size : Int) := by omega
  obtain ⟨x0, hx0⟩ : ∃ x : Int, (s[0].toNat : Int) = x := ⟨_, rfl⟩
  have b0 := byte_le s[0]
  rw [hx0] at b0
  obtain ⟨x3, hx3⟩ : ∃ x : Int, (s[3].toNat : Int) = x := ⟨_, rfl⟩
  have b3 := byte_le s[3]
  rw [hx3] at b3
  rw [byteAt_text s 0 (by omega), hx0] at hv hy
  have va : decide (x0 / 16 = 3) = true := by first | exact decide_eq_true (by omega) | (simp; omega)
  have vb : (x0 / 16 != 3) = false := by first | (simp; omega) | simpa using va
  have ya : decide (x0 % 16 = 1) = true := by first | exact decide_eq_true (by omega) | (simp; omega)
  have yb : (x0 % 16 != 1) = false := by first | (simp; omega) | simpa using ya
  have hsz := HSZ.out
  rw [byteAt_text s 3 (by omega), hx3] at hsz h1 h2
  have c1 : decide (x3 < 1) = false := decide_eq_false (by omega)
  have c2 : decide (8 < x3) = false := decide_eq_false (by omega)
  have w0 : IntKind.i64.wrap x3 = x3 := by rw [IntKind.wrap_i64]; omega
  have wq : IntKind.i64.wrap ((f.size : Int) * x3) = 16 * x3 := by rw [IntKind.wrap_i64, h4]; omega
  have hsm : s.size ≤ 136 := by rw [h4] at hsz; omega
  have c3 : ((s.size : Int) != 8 + 16 * x3) = false := by rw [h4] at hsz; simp; omega
  have HR := Lib.hid (fun w => rsum_pk f t s v w hf ht (by omega) hvv)
  have cv : (v != 65535) = true := by simpa using h
  clear hl hp h4 ht2 hv hy hsz HSZ
  clear hvv h
  go_enter Try.func15, Try.ntmps15
  go_wp2_with fail
  refine (HR.out _).mono ?_
  rintro e w1 ⟨rfl, hb1⟩
  have HB1 := Lib.hid ((((Below.refl _ w).alloc (Nat.le_refl _) (.cells #[.string f, .string t, .int .i64 p, .int .i64 l, .string s] 28)).alloc (by simp) (.cells #[.int .i64 0, .int .i64 0, .int .i64 0, .slice none 0 0] 24)).trans (hb1.mono (by simp; omega)))
  have hbb : Below (w.heap.size + 1 + 1) ((w.alloc (.cells #[.string f, .string t, .int .i64 p, .int .i64 l, .string s] 28)).alloc (.cells #[.int .i64 0, .int .i64 0, .int .i64 0, .slice none 0 0] 24)) w1 := by simpa using hb1
  have hA := (BoxD.new (w.alloc (.cells #[.string f, .string t, .int .i64 p, .int .i64 l, .string s] 28)) 0 0 0 (.slice none 0 0)).below hbb (by simp)
  simp only [World.size_alloc] at hA
  have HA := Lib.hid hA
  obtain ⟨a0, a1, a2, a3⟩ := hA.cells
  have af : ∀ o, w1.frozen? ⟨w.heap.size + 1, o, none⟩ = false := hA.free
  have n1 : w.heap.size + 1 < w1.heap.size := hA.lt
  clear hb1 hA hbb
  go_wp2
  exact bodyPost_ret (v := .tuple #[.agg #[.int .i64 0, .int .i64 0, .int .i64 0, .slice none 0 0], .int .i64 64]) (by simp [results, Try.results15, go_sem, *]) rfl ⟨rfl, below4 HB1.out (by omega)⟩

end Go.Proofs.Ythhomfchoomelaa
