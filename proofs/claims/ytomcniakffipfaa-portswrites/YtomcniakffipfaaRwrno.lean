/-
  What outriderref05.Write does where it refuses a head, or more data than a packet holds.
-/
import Derived.Test.YtomcniakffipfaaRsmall
namespace Go.Proofs.Ytomcniakffipfaa
open Go.RowKit
set_option linter.unusedVariables false
set_option maxRecDepth 10000

section
variable (f t : ByteArray) (p0 l0 : Int) (s0 : ByteArray) (p a b l k : Int) (s : ByteArray) (w : World)
set_option maxHeartbeats 400000 in
theorem rwr_no0 (h1 : portsB p = false) : Calls Try.prog 9 #[.agg #[.string f, .string t, .int .i64 p0, .int .i64 l0, .string s0], .agg #[.int .i64 p, .int .i64 a, .int .i64 b, .int .i64 l, .int .i64 k], .string s] w fun e w' => e = .returned (.tuple #[.agg #[.string ⟨#[]⟩, .string ⟨#[]⟩, .int .i64 0, .int .i64 0, .string ⟨#[]⟩], .int .i64 51]) ∧ Below w.heap.size w w' := by
  simp [portsB] at h1
  have d1 : (p != 6) = true := by simpa using h1.1
  have d2 : (p != 17) = true := by simpa using h1.2
  go_enter Try.func9, Try.ntmps9
  go_wp2
  exact bodyPost_ret (v := .tuple #[.agg #[.string ⟨#[]⟩, .string ⟨#[]⟩, .int .i64 0, .int .i64 0, .string ⟨#[]⟩], .int .i64 51]) (by simp [results, Try.results9, go_sem]) rfl ⟨rfl, (((Below.refl _ _).alloc (Nat.le_refl _) _).alloc (by simp) _).alloc (by simp; omega) _⟩

set_option maxHeartbeats 400000 in
theorem rwr_no6_1 (h : a < 0) : Calls Try.prog 9 #[.agg #[.string f, .string t, .int .i64 p0, .int .i64 l0, .string s0], .agg #[.int .i64 6, .int .i64 a, .int .i64 b, .int .i64 l, .int .i64 k], .string s] w fun e w' => e = .returned (.tuple #[.agg #[.string ⟨#[]⟩, .string ⟨#[]⟩, .int .i64 0, .int .i64 0, .string ⟨#[]⟩], .int .i64 1]) ∧ Below w.heap.size w w' := by
  have e0 : decide (a < 0) = true := by simpa using h
  go_enter Try.func9, Try.ntmps9
  go_wp2
  exact bodyPost_ret (v := .tuple #[.agg #[.string ⟨#[]⟩, .string ⟨#[]⟩, .int .i64 0, .int .i64 0, .string ⟨#[]⟩], .int .i64 1]) (by simp [results, Try.results9, go_sem]) rfl ⟨rfl, (((Below.refl _ _).alloc (Nat.le_refl _) _).alloc (by simp) _).alloc (by simp; omega) _⟩

set_option maxHeartbeats 400000 in
theorem rwr_no6_2 (g0 : ¬ a < 0) (h : 65535 < a) : Calls Try.prog 9 #[.agg #[.string f, .string t, .int .i64 p0, .int .i64 l0, .string s0], .agg #[.int .i64 6, .int .i64 a, .int .i64 b, .int .i64 l, .int .i64 k], .string s] w fun e w' => e = .returned (.tuple #[.agg #[.string ⟨#[]⟩, .string ⟨#[]⟩, .int .i64 0, .int .i64 0, .string ⟨#[]⟩], .int .i64 1]) ∧ Below w.heap.size w w' := by
  have e0 : decide (a < 0) = false := by simpa using g0
  have e1 : decide (65535 < a) = true := by simpa using h
  go_enter Try.func9, Try.ntmps9
  go_wp2
  exact bodyPost_ret (v := .tuple #[.agg #[.string ⟨#[]⟩, .string ⟨#[]⟩, .int .i64 0, .int .i64 0, .string ⟨#[]⟩], .int .i64 1]) (by simp [results, Try.results9, go_sem]) rfl ⟨rfl, (((Below.refl _ _).alloc (Nat.le_refl _) _).alloc (by simp) _).alloc (by simp; omega) _⟩

set_option maxHeartbeats 400000 in
theorem rwr_no6_3 (g0 : ¬ a < 0) (g1 : ¬ 65535 < a) (h : b < 0) : Calls Try.prog 9 #[.agg #[.string f, .string t, .int .i64 p0, .int .i64 l0, .string s0], .agg #[.int .i64 6, .int .i64 a, .int .i64 b, .int .i64 l, .int .i64 k], .string s] w fun e w' => e = .returned (.tuple #[.agg #[.string ⟨#[]⟩, .string ⟨#[]⟩, .int .i64 0, .int .i64 0, .string ⟨#[]⟩], .int .i64 1]) ∧ Below w.heap.size w w' := by
  have e0 : decide (a < 0) = false := by simpa using g0
  have e1 : decide (65535 < a) = false := by simpa using g1
  have e2 : decide (b < 0) = true := by simpa using h
  go_enter Try.func9, Try.ntmps9
  go_wp2
  exact bodyPost_ret (v := .tuple #[.agg #[.string ⟨#[]⟩, .string ⟨#[]⟩, .int .i64 0, .int .i64 0, .string ⟨#[]⟩], .int .i64 1]) (by simp [results, Try.results9, go_sem]) rfl ⟨rfl, (((Below.refl _ _).alloc (Nat.le_refl _) _).alloc (by simp) _).alloc (by simp; omega) _⟩

set_option maxHeartbeats 400000 in
theorem rwr_no6_4 (g0 : ¬ a < 0) (g1 : ¬ 65535 < a) (g2 : ¬ b < 0) (h : 65535 < b) : Calls Try.prog 9 #[.agg #[.string f, .string t, .int .i64 p0, .int .i64 l0, .string s0], .agg #[.int .i64 6, .int .i64 a, .int .i64 b, .int .i64 l, .int .i64 k], .string s] w fun e w' => e = .returned (.tuple #[.agg #[.string ⟨#[]⟩, .string ⟨#[]⟩, .int .i64 0, .int .i64 0, .string ⟨#[]⟩], .int .i64 1]) ∧ Below w.heap.size w w' := by
  have e0 : decide (a < 0) = false := by simpa using g0
  have e1 : decide (65535 < a) = false := by simpa using g1
  have e2 : decide (b < 0) = false := by simpa using g2
  have e3 : decide (65535 < b) = true := by simpa using h
  go_enter Try.func9, Try.ntmps9
  go_wp2
  exact bodyPost_ret (v := .tuple #[.agg #[.string ⟨#[]⟩, .string ⟨#[]⟩, .int .i64 0, .int .i64 0, .string ⟨#[]⟩], .int .i64 1]) (by simp [results, Try.results9, go_sem]) rfl ⟨rfl, (((Below.refl _ _).alloc (Nat.le_refl _) _).alloc (by simp) _).alloc (by simp; omega) _⟩

set_option maxHeartbeats 400000 in
theorem rwr_no6_5 (g0 : ¬ a < 0) (g1 : ¬ 65535 < a) (g2 : ¬ b < 0) (g3 : ¬ 65535 < b) (h : l < 0) : Calls Try.prog 9 #[.agg #[.string f, .string t, .int .i64 p0, .int .i64 l0, .string s0], .agg #[.int .i64 6, .int .i64 a, .int .i64 b, .int .i64 l, .int .i64 k], .string s] w fun e w' => e = .returned (.tuple #[.agg #[.string ⟨#[]⟩, .string ⟨#[]⟩, .int .i64 0, .int .i64 0, .string ⟨#[]⟩], .int .i64 1]) ∧ Below w.heap.size w w' := by
  have e0 : decide (a < 0) = false := by simpa using g0
  have e1 : decide (65535 < a) = false := by simpa using g1
  have e2 : decide (b < 0) = false := by simpa using g2
  have e3 : decide (65535 < b) = false := by simpa using g3
  have e4 : decide (l < 0) = true := by simpa using h
  go_enter Try.func9, Try.ntmps9
  go_wp2
  exact bodyPost_ret (v := .tuple #[.agg #[.string ⟨#[]⟩, .string ⟨#[]⟩, .int .i64 0, .int .i64 0, .string ⟨#[]⟩], .int .i64 1]) (by simp [results, Try.results9, go_sem]) rfl ⟨rfl, (((Below.refl _ _).alloc (Nat.le_refl _) _).alloc (by simp) _).alloc (by simp; omega) _⟩

set_option maxHeartbeats 400000 in
theorem rwr_no6_6 (g0 : ¬ a < 0) (g1 : ¬ 65535 < a) (g2 : ¬ b < 0) (g3 : ¬ 65535 < b) (g4 : ¬ l < 0) (h : 63 < l) : Calls Try.prog 9 #[.agg #[.string f, .string t, .int .i64 p0, .int .i64 l0, .string s0], .agg #[.int .i64 6, .int .i64 a, .int .i64 b, .int .i64 l, .int .i64 k], .string s] w fun e w' => e = .returned (.tuple #[.agg #[.string ⟨#[]⟩, .string ⟨#[]⟩, .int .i64 0, .int .i64 0, .string ⟨#[]⟩], .int .i64 1]) ∧ Below w.heap.size w w' := by
  have e0 : decide (a < 0) = false := by simpa using g0
  have e1 : decide (65535 < a) = false := by simpa using g1
  have e2 : decide (b < 0) = false := by simpa using g2
  have e3 : decide (65535 < b) = false := by simpa using g3
  have e4 : decide (l < 0) = false := by simpa using g4
  have e5 : decide (63 < l) = true := by simpa using h
  go_enter Try.func9, Try.ntmps9
  go_wp2
  exact bodyPost_ret (v := .tuple #[.agg #[.string ⟨#[]⟩, .string ⟨#[]⟩, .int .i64 0, .int .i64 0, .string ⟨#[]⟩], .int .i64 1]) (by simp [results, Try.results9, go_sem]) rfl ⟨rfl, (((Below.refl _ _).alloc (Nat.le_refl _) _).alloc (by simp) _).alloc (by simp; omega) _⟩

set_option maxHeartbeats 400000 in
theorem rwr_no6_7 (g0 : ¬ a < 0) (g1 : ¬ 65535 < a) (g2 : ¬ b < 0) (g3 : ¬ 65535 < b) (g4 : ¬ l < 0) (g5 : ¬ 63 < l) (h : k ≠ 0) : Calls Try.prog 9 #[.agg #[.string f, .string t, .int .i64 p0, .int .i64 l0, .string s0], .agg #[.int .i64 6, .int .i64 a, .int .i64 b, .int .i64 l, .int .i64 k], .string s] w fun e w' => e = .returned (.tuple #[.agg #[.string ⟨#[]⟩, .string ⟨#[]⟩, .int .i64 0, .int .i64 0, .string ⟨#[]⟩], .int .i64 1]) ∧ Below w.heap.size w w' := by
  have e0 : decide (a < 0) = false := by simpa using g0
  have e1 : decide (65535 < a) = false := by simpa using g1
  have e2 : decide (b < 0) = false := by simpa using g2
  have e3 : decide (65535 < b) = false := by simpa using g3
  have e4 : decide (l < 0) = false := by simpa using g4
  have e5 : decide (63 < l) = false := by simpa using g5
  have e6 : (k != 0) = true := by simpa using h
  go_enter Try.func9, Try.ntmps9
  go_wp2
  exact bodyPost_ret (v := .tuple #[.agg #[.string ⟨#[]⟩, .string ⟨#[]⟩, .int .i64 0, .int .i64 0, .string ⟨#[]⟩], .int .i64 1]) (by simp [results, Try.results9, go_sem]) rfl ⟨rfl, (((Below.refl _ _).alloc (Nat.le_refl _) _).alloc (by simp) _).alloc (by simp; omega) _⟩

set_option maxHeartbeats 400000 in
theorem rwr_no6_8 (g0 : ¬ a < 0) (g1 : ¬ 65535 < a) (g2 : ¬ b < 0) (g3 : ¬ 65535 < b) (g4 : ¬ l < 0) (g5 : ¬ 63 < l) (g6 : ¬ k ≠ 0) (hs2 : s.size ≤ 140737488351232) (h : 1500 < s.size) : Calls Try.prog 9 #[.agg #[.string f, .string t, .int .i64 p0, .int .i64 l0, .string s0], .agg #[.int .i64 6, .int .i64 a, .int .i64 b, .int .i64 l, .int .i64 k], .string s] w fun e w' => e = .returned (.tuple #[.agg #[.string ⟨#[]⟩, .string ⟨#[]⟩, .int .i64 0, .int .i64 0, .string ⟨#[]⟩], .int .i64 1]) ∧ Below w.heap.size w w' := by
  have e0 : decide (a < 0) = false := by simpa using g0
  have e1 : decide (65535 < a) = false := by simpa using g1
  have e2 : decide (b < 0) = false := by simpa using g2
  have e3 : decide (65535 < b) = false := by simpa using g3
  have e4 : decide (l < 0) = false := by simpa using g4
  have e5 : decide (63 < l) = false := by simpa using g5
  have e6 : (k != 0) = false := by simpa using g6
  have e7 : decide (1500 < (s.size : Int)) = true := by simp; omega
  have e8 : decide (1500 < s.size) = true := by simp; omega
  go_enter Try.func9, Try.ntmps9
  go_wp2
  exact bodyPost_ret (v := .tuple #[.agg #[.string ⟨#[]⟩, .string ⟨#[]⟩, .int .i64 0, .int .i64 0, .string ⟨#[]⟩], .int .i64 1]) (by simp [results, Try.results9, go_sem]) rfl ⟨rfl, (((Below.refl _ _).alloc (Nat.le_refl _) _).alloc (by simp) _).alloc (by simp; omega) _⟩

set_option maxHeartbeats 400000 in
theorem rwr_no17_1 (h : a < 0) : Calls Try.prog 9 #[.agg #[.string f, .string t, .int .i64 p0, .int .i64 l0, .string s0], .agg #[.int .i64 17, .int .i64 a, .int .i64 b, .int .i64 l, .int .i64 k], .string s] w fun e w' => e = .returned (.tuple #[.agg #[.string ⟨#[]⟩, .string ⟨#[]⟩, .int .i64 0, .int .i64 0, .string ⟨#[]⟩], .int .i64 1]) ∧ Below w.heap.size w w' := by
  have e0 : decide (a < 0) = true := by simpa using h
  go_enter Try.func9, Try.ntmps9
  go_wp2
  exact bodyPost_ret (v := .tuple #[.agg #[.string ⟨#[]⟩, .string ⟨#[]⟩, .int .i64 0, .int .i64 0, .string ⟨#[]⟩], .int .i64 1]) (by simp [results, Try.results9, go_sem]) rfl ⟨rfl, (((Below.refl _ _).alloc (Nat.le_refl _) _).alloc (by simp) _).alloc (by simp; omega) _⟩

set_option maxHeartbeats 400000 in
theorem rwr_no17_2 (g0 : ¬ a < 0) (h : 65535 < a) : Calls Try.prog 9 #[.agg #[.string f, .string t, .int .i64 p0, .int .i64 l0, .string s0], .agg #[.int .i64 17, .int .i64 a, .int .i64 b, .int .i64 l, .int .i64 k], .string s] w fun e w' => e = .returned (.tuple #[.agg #[.string ⟨#[]⟩, .string ⟨#[]⟩, .int .i64 0, .int .i64 0, .string ⟨#[]⟩], .int .i64 1]) ∧ Below w.heap.size w w' := by
  have e0 : decide (a < 0) = false := by simpa using g0
  have e1 : decide (65535 < a) = true := by simpa using h
  go_enter Try.func9, Try.ntmps9
  go_wp2
  exact bodyPost_ret (v := .tuple #[.agg #[.string ⟨#[]⟩, .string ⟨#[]⟩, .int .i64 0, .int .i64 0, .string ⟨#[]⟩], .int .i64 1]) (by simp [results, Try.results9, go_sem]) rfl ⟨rfl, (((Below.refl _ _).alloc (Nat.le_refl _) _).alloc (by simp) _).alloc (by simp; omega) _⟩

set_option maxHeartbeats 400000 in
theorem rwr_no17_3 (g0 : ¬ a < 0) (g1 : ¬ 65535 < a) (h : b < 0) : Calls Try.prog 9 #[.agg #[.string f, .string t, .int .i64 p0, .int .i64 l0, .string s0], .agg #[.int .i64 17, .int .i64 a, .int .i64 b, .int .i64 l, .int .i64 k], .string s] w fun e w' => e = .returned (.tuple #[.agg #[.string ⟨#[]⟩, .string ⟨#[]⟩, .int .i64 0, .int .i64 0, .string ⟨#[]⟩], .int .i64 1]) ∧ Below w.heap.size w w' := by
  have e0 : decide (a < 0) = false := by simpa using g0
  have e1 : decide (65535 < a) = false := by simpa using g1
  have e2 : decide (b < 0) = true := by simpa using h
  go_enter Try.func9, Try.ntmps9
  go_wp2
  exact bodyPost_ret (v := .tuple #[.agg #[.string ⟨#[]⟩, .string ⟨#[]⟩, .int .i64 0, .int .i64 0, .string ⟨#[]⟩], .int .i64 1]) (by simp [results, Try.results9, go_sem]) rfl ⟨rfl, (((Below.refl _ _).alloc (Nat.le_refl _) _).alloc (by simp) _).alloc (by simp; omega) _⟩

set_option maxHeartbeats 400000 in
theorem rwr_no17_4 (g0 : ¬ a < 0) (g1 : ¬ 65535 < a) (g2 : ¬ b < 0) (h : 65535 < b) : Calls Try.prog 9 #[.agg #[.string f, .string t, .int .i64 p0, .int .i64 l0, .string s0], .agg #[.int .i64 17, .int .i64 a, .int .i64 b, .int .i64 l, .int .i64 k], .string s] w fun e w' => e = .returned (.tuple #[.agg #[.string ⟨#[]⟩, .string ⟨#[]⟩, .int .i64 0, .int .i64 0, .string ⟨#[]⟩], .int .i64 1]) ∧ Below w.heap.size w w' := by
  have e0 : decide (a < 0) = false := by simpa using g0
  have e1 : decide (65535 < a) = false := by simpa using g1
  have e2 : decide (b < 0) = false := by simpa using g2
  have e3 : decide (65535 < b) = true := by simpa using h
  go_enter Try.func9, Try.ntmps9
  go_wp2
  exact bodyPost_ret (v := .tuple #[.agg #[.string ⟨#[]⟩, .string ⟨#[]⟩, .int .i64 0, .int .i64 0, .string ⟨#[]⟩], .int .i64 1]) (by simp [results, Try.results9, go_sem]) rfl ⟨rfl, (((Below.refl _ _).alloc (Nat.le_refl _) _).alloc (by simp) _).alloc (by simp; omega) _⟩

set_option maxHeartbeats 400000 in
theorem rwr_no17_5 (g0 : ¬ a < 0) (g1 : ¬ 65535 < a) (g2 : ¬ b < 0) (g3 : ¬ 65535 < b) (h : l < 0) : Calls Try.prog 9 #[.agg #[.string f, .string t, .int .i64 p0, .int .i64 l0, .string s0], .agg #[.int .i64 17, .int .i64 a, .int .i64 b, .int .i64 l, .int .i64 k], .string s] w fun e w' => e = .returned (.tuple #[.agg #[.string ⟨#[]⟩, .string ⟨#[]⟩, .int .i64 0, .int .i64 0, .string ⟨#[]⟩], .int .i64 1]) ∧ Below w.heap.size w w' := by
  have e0 : decide (a < 0) = false := by simpa using g0
  have e1 : decide (65535 < a) = false := by simpa using g1
  have e2 : decide (b < 0) = false := by simpa using g2
  have e3 : decide (65535 < b) = false := by simpa using g3
  have e4 : decide (l < 0) = true := by simpa using h
  go_enter Try.func9, Try.ntmps9
  go_wp2
  exact bodyPost_ret (v := .tuple #[.agg #[.string ⟨#[]⟩, .string ⟨#[]⟩, .int .i64 0, .int .i64 0, .string ⟨#[]⟩], .int .i64 1]) (by simp [results, Try.results9, go_sem]) rfl ⟨rfl, (((Below.refl _ _).alloc (Nat.le_refl _) _).alloc (by simp) _).alloc (by simp; omega) _⟩

set_option maxHeartbeats 400000 in
theorem rwr_no17_6 (g0 : ¬ a < 0) (g1 : ¬ 65535 < a) (g2 : ¬ b < 0) (g3 : ¬ 65535 < b) (g4 : ¬ l < 0) (h : 63 < l) : Calls Try.prog 9 #[.agg #[.string f, .string t, .int .i64 p0, .int .i64 l0, .string s0], .agg #[.int .i64 17, .int .i64 a, .int .i64 b, .int .i64 l, .int .i64 k], .string s] w fun e w' => e = .returned (.tuple #[.agg #[.string ⟨#[]⟩, .string ⟨#[]⟩, .int .i64 0, .int .i64 0, .string ⟨#[]⟩], .int .i64 1]) ∧ Below w.heap.size w w' := by
  have e0 : decide (a < 0) = false := by simpa using g0
  have e1 : decide (65535 < a) = false := by simpa using g1
  have e2 : decide (b < 0) = false := by simpa using g2
  have e3 : decide (65535 < b) = false := by simpa using g3
  have e4 : decide (l < 0) = false := by simpa using g4
  have e5 : decide (63 < l) = true := by simpa using h
  go_enter Try.func9, Try.ntmps9
  go_wp2
  exact bodyPost_ret (v := .tuple #[.agg #[.string ⟨#[]⟩, .string ⟨#[]⟩, .int .i64 0, .int .i64 0, .string ⟨#[]⟩], .int .i64 1]) (by simp [results, Try.results9, go_sem]) rfl ⟨rfl, (((Below.refl _ _).alloc (Nat.le_refl _) _).alloc (by simp) _).alloc (by simp; omega) _⟩

set_option maxHeartbeats 400000 in
theorem rwr_no17_7 (g0 : ¬ a < 0) (g1 : ¬ 65535 < a) (g2 : ¬ b < 0) (g3 : ¬ 65535 < b) (g4 : ¬ l < 0) (g5 : ¬ 63 < l) (h : k ≠ 0) : Calls Try.prog 9 #[.agg #[.string f, .string t, .int .i64 p0, .int .i64 l0, .string s0], .agg #[.int .i64 17, .int .i64 a, .int .i64 b, .int .i64 l, .int .i64 k], .string s] w fun e w' => e = .returned (.tuple #[.agg #[.string ⟨#[]⟩, .string ⟨#[]⟩, .int .i64 0, .int .i64 0, .string ⟨#[]⟩], .int .i64 1]) ∧ Below w.heap.size w w' := by
  have e0 : decide (a < 0) = false := by simpa using g0
  have e1 : decide (65535 < a) = false := by simpa using g1
  have e2 : decide (b < 0) = false := by simpa using g2
  have e3 : decide (65535 < b) = false := by simpa using g3
  have e4 : decide (l < 0) = false := by simpa using g4
  have e5 : decide (63 < l) = false := by simpa using g5
  have e6 : (k != 0) = true := by simpa using h
  go_enter Try.func9, Try.ntmps9
  go_wp2
  exact bodyPost_ret (v := .tuple #[.agg #[.string ⟨#[]⟩, .string ⟨#[]⟩, .int .i64 0, .int .i64 0, .string ⟨#[]⟩], .int .i64 1]) (by simp [results, Try.results9, go_sem]) rfl ⟨rfl, (((Below.refl _ _).alloc (Nat.le_refl _) _).alloc (by simp) _).alloc (by simp; omega) _⟩

set_option maxHeartbeats 400000 in
theorem rwr_no17_8 (g0 : ¬ a < 0) (g1 : ¬ 65535 < a) (g2 : ¬ b < 0) (g3 : ¬ 65535 < b) (g4 : ¬ l < 0) (g5 : ¬ 63 < l) (g6 : ¬ k ≠ 0) (hs2 : s.size ≤ 140737488351232) (h : 1500 < s.size) : Calls Try.prog 9 #[.agg #[.string f, .string t, .int .i64 p0, .int .i64 l0, .string s0], .agg #[.int .i64 17, .int .i64 a, .int .i64 b, .int .i64 l, .int .i64 k], .string s] w fun e w' => e = .returned (.tuple #[.agg #[.string ⟨#[]⟩, .string ⟨#[]⟩, .int .i64 0, .int .i64 0, .string ⟨#[]⟩], .int .i64 1]) ∧ Below w.heap.size w w' := by
  have e0 : decide (a < 0) = false := by simpa using g0
  have e1 : decide (65535 < a) = false := by simpa using g1
  have e2 : decide (b < 0) = false := by simpa using g2
  have e3 : decide (65535 < b) = false := by simpa using g3
  have e4 : decide (l < 0) = false := by simpa using g4
  have e5 : decide (63 < l) = false := by simpa using g5
  have e6 : (k != 0) = false := by simpa using g6
  have e7 : decide (1500 < (s.size : Int)) = true := by simp; omega
  have e8 : decide (1500 < s.size) = true := by simp; omega
  go_enter Try.func9, Try.ntmps9
  go_wp2
  exact bodyPost_ret (v := .tuple #[.agg #[.string ⟨#[]⟩, .string ⟨#[]⟩, .int .i64 0, .int .i64 0, .string ⟨#[]⟩], .int .i64 1]) (by simp [results, Try.results9, go_sem]) rfl ⟨rfl, (((Below.refl _ _).alloc (Nat.le_refl _) _).alloc (by simp) _).alloc (by simp; omega) _⟩

set_option maxHeartbeats 400000 in
theorem rwr_no17_9 (g0 : ¬ a < 0) (g1 : ¬ 65535 < a) (g2 : ¬ b < 0) (g3 : ¬ 65535 < b) (g4 : ¬ l < 0) (g5 : ¬ 63 < l) (g6 : ¬ k ≠ 0) (h0 : s.size ≤ 1500) (h : l ≠ 0) : Calls Try.prog 9 #[.agg #[.string f, .string t, .int .i64 p0, .int .i64 l0, .string s0], .agg #[.int .i64 17, .int .i64 a, .int .i64 b, .int .i64 l, .int .i64 k], .string s] w fun e w' => e = .returned (.tuple #[.agg #[.string ⟨#[]⟩, .string ⟨#[]⟩, .int .i64 0, .int .i64 0, .string ⟨#[]⟩], .int .i64 1]) ∧ Below w.heap.size w w' := by
  have e0 : decide (a < 0) = false := by simpa using g0
  have e1 : decide (65535 < a) = false := by simpa using g1
  have e2 : decide (b < 0) = false := by simpa using g2
  have e3 : decide (65535 < b) = false := by simpa using g3
  have e4 : decide (l < 0) = false := by simpa using g4
  have e5 : decide (63 < l) = false := by simpa using g5
  have e6 : (k != 0) = false := by simpa using g6
  have e7 : decide (1500 < (s.size : Int)) = false := by simp; omega
  have e8 : decide (1500 < s.size) = false := by simp; omega
  have e9 : (l != 0) = true := by simpa using h
  go_enter Try.func9, Try.ntmps9
  go_wp2
  exact bodyPost_ret (v := .tuple #[.agg #[.string ⟨#[]⟩, .string ⟨#[]⟩, .int .i64 0, .int .i64 0, .string ⟨#[]⟩], .int .i64 1]) (by simp [results, Try.results9, go_sem]) rfl ⟨rfl, (((Below.refl _ _).alloc (Nat.le_refl _) _).alloc (by simp) _).alloc (by simp; omega) _⟩

/-- outriderref05.Write, a head that is not right, or too much data. -/
theorem rwr_bad (h1 : portsB p = true) (hs2 : s.size ≤ 140737488351232) (h2 : okH p a b l k = false ∨ 1500 < s.size) : Calls Try.prog 9 #[.agg #[.string f, .string t, .int .i64 p0, .int .i64 l0, .string s0], .agg #[.int .i64 p, .int .i64 a, .int .i64 b, .int .i64 l, .int .i64 k], .string s] w fun e w' => e = .returned (.tuple #[.agg #[.string ⟨#[]⟩, .string ⟨#[]⟩, .int .i64 0, .int .i64 0, .string ⟨#[]⟩], .int .i64 1]) ∧ Below w.heap.size w w' := by
  rcases ports_parts h1 with rfl | rfl
  · by_cases g0 : a < 0
    · exact rwr_no6_1 f t p0 l0 s0 a b l k s w  g0
    by_cases g1 : 65535 < a
    · exact rwr_no6_2 f t p0 l0 s0 a b l k s w g0 g1
    by_cases g2 : b < 0
    · exact rwr_no6_3 f t p0 l0 s0 a b l k s w g0 g1 g2
    by_cases g3 : 65535 < b
    · exact rwr_no6_4 f t p0 l0 s0 a b l k s w g0 g1 g2 g3
    by_cases g4 : l < 0
    · exact rwr_no6_5 f t p0 l0 s0 a b l k s w g0 g1 g2 g3 g4
    by_cases g5 : 63 < l
    · exact rwr_no6_6 f t p0 l0 s0 a b l k s w g0 g1 g2 g3 g4 g5
    by_cases g6 : k ≠ 0
    · exact rwr_no6_7 f t p0 l0 s0 a b l k s w g0 g1 g2 g3 g4 g5 g6
    by_cases g7 : 1500 < s.size
    · exact rwr_no6_8 f t p0 l0 s0 a b l k s w g0 g1 g2 g3 g4 g5 g6 hs2 g7
    · exfalso
      rcases h2 with h2 | h2
      · simp [okH, portB, flagB] at h2
        omega
      · omega
  · by_cases g0 : a < 0
    · exact rwr_no17_1 f t p0 l0 s0 a b l k s w  g0
    by_cases g1 : 65535 < a
    · exact rwr_no17_2 f t p0 l0 s0 a b l k s w g0 g1
    by_cases g2 : b < 0
    · exact rwr_no17_3 f t p0 l0 s0 a b l k s w g0 g1 g2
    by_cases g3 : 65535 < b
    · exact rwr_no17_4 f t p0 l0 s0 a b l k s w g0 g1 g2 g3
    by_cases g4 : l < 0
    · exact rwr_no17_5 f t p0 l0 s0 a b l k s w g0 g1 g2 g3 g4
    by_cases g5 : 63 < l
    · exact rwr_no17_6 f t p0 l0 s0 a b l k s w g0 g1 g2 g3 g4 g5
    by_cases g6 : k ≠ 0
    · exact rwr_no17_7 f t p0 l0 s0 a b l k s w g0 g1 g2 g3 g4 g5 g6
    by_cases g7 : 1500 < s.size
    · exact rwr_no17_8 f t p0 l0 s0 a b l k s w g0 g1 g2 g3 g4 g5 g6 hs2 g7
    · by_cases g8 : l ≠ 0
      · exact rwr_no17_9 f t p0 l0 s0 a b l k s w g0 g1 g2 g3 g4 g5 g6 (by omega) g8
      · exfalso
        rcases h2 with h2 | h2
        · simp [okH, portB, flagB] at h2
          omega
        · omega
end
end Go.Proofs.Ytomcniakffipfaa
