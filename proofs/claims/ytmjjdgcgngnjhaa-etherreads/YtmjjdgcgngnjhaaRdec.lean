/-
  What the reference's Decode does.
-/
import Derived.Test.YtmjjdgcgngnjhaaDec
import Derived.Deep.LoopGhost
namespace Go.Proofs.Ytmjjdgcgngnjhaa
open Go.RowKit
set_option linter.unusedVariables false

/-- A byte that is there from round j on. -/
def pk (k j : Nat) (x : Int) : Int := if j < k then x else 0
/-- The frame's cells behind k rounds. -/
def fill (k : Nat) (x0 x1 x2 x3 x4 x5 x6 x7 x8 x9 x10 x11 t : Int) (s : ByteArray) : Array Value := #[.int .u8 (pk k 0 x0), .int .u8 (pk k 1 x1), .int .u8 (pk k 2 x2), .int .u8 (pk k 3 x3), .int .u8 (pk k 4 x4), .int .u8 (pk k 5 x5), .int .u8 (pk k 0 x6), .int .u8 (pk k 1 x7), .int .u8 (pk k 2 x8), .int .u8 (pk k 3 x9), .int .u8 (pk k 4 x10), .int .u8 (pk k 5 x11), .int .i64 t, .string s]
theorem fill_0 (x0 x1 x2 x3 x4 x5 x6 x7 x8 x9 x10 x11 t : Int) (s : ByteArray) : fill 0 x0 x1 x2 x3 x4 x5 x6 x7 x8 x9 x10 x11 t s = #[.int .u8 0, .int .u8 0, .int .u8 0, .int .u8 0, .int .u8 0, .int .u8 0, .int .u8 0, .int .u8 0, .int .u8 0, .int .u8 0, .int .u8 0, .int .u8 0, .int .i64 t, .string s] := rfl
theorem fill_1 (x0 x1 x2 x3 x4 x5 x6 x7 x8 x9 x10 x11 t : Int) (s : ByteArray) : fill 1 x0 x1 x2 x3 x4 x5 x6 x7 x8 x9 x10 x11 t s = #[.int .u8 x0, .int .u8 0, .int .u8 0, .int .u8 0, .int .u8 0, .int .u8 0, .int .u8 x6, .int .u8 0, .int .u8 0, .int .u8 0, .int .u8 0, .int .u8 0, .int .i64 t, .string s] := rfl
theorem fill_2 (x0 x1 x2 x3 x4 x5 x6 x7 x8 x9 x10 x11 t : Int) (s : ByteArray) : fill 2 x0 x1 x2 x3 x4 x5 x6 x7 x8 x9 x10 x11 t s = #[.int .u8 x0, .int .u8 x1, .int .u8 0, .int .u8 0, .int .u8 0, .int .u8 0, .int .u8 x6, .int .u8 x7, .int .u8 0, .int .u8 0, .int .u8 0, .int .u8 0, .int .i64 t, .string s] := rfl
theorem fill_3 (x0 x1 x2 x3 x4 x5 x6 x7 x8 x9 x10 x11 t : Int) (s : ByteArray) : fill 3 x0 x1 x2 x3 x4 x5 x6 x7 x8 x9 x10 x11 t s = #[.int .u8 x0, .int .u8 x1, .int .u8 x2, .int .u8 0, .int .u8 0, .int .u8 0, .int .u8 x6, .int .u8 x7, .int .u8 x8, .int .u8 0, .int .u8 0, .int .u8 0, .int .i64 t, .string s] := rfl
theorem fill_4 (x0 x1 x2 x3 x4 x5 x6 x7 x8 x9 x10 x11 t : Int) (s : ByteArray) : fill 4 x0 x1 x2 x3 x4 x5 x6 x7 x8 x9 x10 x11 t s = #[.int .u8 x0, .int .u8 x1, .int .u8 x2, .int .u8 x3, .int .u8 0, .int .u8 0, .int .u8 x6, .int .u8 x7, .int .u8 x8, .int .u8 x9, .int .u8 0, .int .u8 0, .int .i64 t, .string s] := rfl
theorem fill_5 (x0 x1 x2 x3 x4 x5 x6 x7 x8 x9 x10 x11 t : Int) (s : ByteArray) : fill 5 x0 x1 x2 x3 x4 x5 x6 x7 x8 x9 x10 x11 t s = #[.int .u8 x0, .int .u8 x1, .int .u8 x2, .int .u8 x3, .int .u8 x4, .int .u8 0, .int .u8 x6, .int .u8 x7, .int .u8 x8, .int .u8 x9, .int .u8 x10, .int .u8 0, .int .i64 t, .string s] := rfl
theorem fill_6 (x0 x1 x2 x3 x4 x5 x6 x7 x8 x9 x10 x11 t : Int) (s : ByteArray) : fill 6 x0 x1 x2 x3 x4 x5 x6 x7 x8 x9 x10 x11 t s = #[.int .u8 x0, .int .u8 x1, .int .u8 x2, .int .u8 x3, .int .u8 x4, .int .u8 x5, .int .u8 x6, .int .u8 x7, .int .u8 x8, .int .u8 x9, .int .u8 x10, .int .u8 x11, .int .i64 t, .string s] := rfl
def RdRel (Wk : Nat → World) (gg : Nat) (i : Value) (wr : World) : Prop := ∃ k : Nat, k + gg = 6 ∧ i = .int .i64 k ∧ wr = Wk k

set_option maxHeartbeats 1000000 in
/-- outriderref02.Decode, too short or too long. -/
theorem rdecode_short (a : Option Addr) (n c : Nat) (w : World) (hn : n ≤ 140737488351232) (h : n < 14 ∨ 1514 < n) :
    Calls Try.prog 14 #[.slice a n c] w fun e w' => e = .returned (.tuple #[.agg #[.int .u8 0, .int .u8 0, .int .u8 0, .int .u8 0, .int .u8 0, .int .u8 0, .int .u8 0, .int .u8 0, .int .u8 0, .int .u8 0, .int .u8 0, .int .u8 0, .int .i64 0, .string ⟨#[]⟩], .int .i64 20]) ∧ Below w.heap.size w w' := by
  by_cases h1 : n < 14
  · have g1 : decide ((n : Int) < 14) = true := by simp; omega
    have g2 : decide (n < 14) = true := by simp; omega
    clear h
    go_enter Try.func14, Try.ntmps14
    go_wp2
    exact bodyPost_ret (v := .tuple #[.agg #[.int .u8 0, .int .u8 0, .int .u8 0, .int .u8 0, .int .u8 0, .int .u8 0, .int .u8 0, .int .u8 0, .int .u8 0, .int .u8 0, .int .u8 0, .int .u8 0, .int .i64 0, .string ⟨#[]⟩], .int .i64 20]) (by simp [results, Try.results14, go_sem]) rfl ⟨rfl, (Below.refl _ _).alloc (Nat.le_refl _) _⟩
  · have g1 : decide ((n : Int) < 14) = false := by simp; omega
    have g2 : decide (n < 14) = false := by simp; omega
    have g3 : decide (1514 < (n : Int)) = true := by simp; omega
    have g4 : decide (1514 < n) = true := by simp; omega
    clear h h1
    go_enter Try.func14, Try.ntmps14
    go_wp2
    exact bodyPost_ret (v := .tuple #[.agg #[.int .u8 0, .int .u8 0, .int .u8 0, .int .u8 0, .int .u8 0, .int .u8 0, .int .u8 0, .int .u8 0, .int .u8 0, .int .u8 0, .int .u8 0, .int .u8 0, .int .i64 0, .string ⟨#[]⟩], .int .i64 20]) (by simp [results, Try.results14, go_sem]) rfl ⟨rfl, (Below.refl _ _).alloc (Nat.le_refl _) _⟩


end Go.Proofs.Ytmjjdgcgngnjhaa
